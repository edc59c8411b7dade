package client

import (
	"rondel/api"
	"rondel/event"
	"rondel/request"
	"rondel/surface"
)

// operation does what is asked, and answers what is told the client, and what it effects; beside an error it has changed nothing.
type operation func(*Client, request.Request) ([]event.Event, []Effect, api.Errno)

// operations is what each Op does.
func operations() map[int]operation {
	return map[int]operation{
		request.Buffer:    (*Client).buffer,
		request.Unbuffer:  (*Client).unbuffer,
		request.Write:     (*Client).write,
		request.Surface:   (*Client).surface,
		request.Unsurface: (*Client).unsurface,
		request.Attach:    (*Client).attach,
		request.Damage:    (*Client).damage,
		request.Move:      (*Client).move,
		request.Raise:     (*Client).raise,
		request.Lower:     (*Client).lower,
		request.Scale:     (*Client).scale,
		request.Clip:      (*Client).clip,
		request.Opaque:    (*Client).opaque,
		request.Fade:      (*Client).fade,
		request.Title:     (*Client).title,
		request.Frame:     (*Client).frame,
		request.Commit:    (*Client).commit,
		request.Cursor:    (*Client).cursor,
		request.Point:     (*Client).point,
	}
}

func (c *Client) buffer(r request.Request) ([]event.Event, []Effect, api.Errno) {
	if err := c.ids.Add(r.Id, ofBuffer); err != api.OK {
		return nil, nil, err
	}
	if _, err := c.pool.Make(r.Id, r.A, r.B); err != api.OK {
		// What is refused leaves no id.
		c.ids.Drop(r.Id)
		return nil, nil, err
	}
	return nil, nil, api.OK
}

func (c *Client) unbuffer(r request.Request) ([]event.Event, []Effect, api.Errno) {
	n, err := c.findBuffer(r.Id)
	if err != api.OK {
		return nil, nil, err
	}
	c.ids.Drop(r.Id)
	c.pool.Destroy(r.Id)
	for _, id := range c.Surfaces() {
		if w := c.windows[id]; w.attached == n {
			c.give(w, none)
		}
	}
	return nil, nil, api.OK
}

func (c *Client) write(r request.Request) ([]event.Event, []Effect, api.Errno) {
	if _, err := c.findBuffer(r.Id); err != api.OK {
		return nil, nil, err
	}
	return nil, nil, c.pool.Write(r.Id, r.R, r.Data)
}

func (c *Client) surface(r request.Request) ([]event.Event, []Effect, api.Errno) {
	if err := c.ids.Add(r.Id, ofSurface); err != api.OK {
		return nil, nil, err
	}
	c.windows[r.Id] = &window{Surface: surface.New(), attached: none, committed: none}
	return nil, nil, api.OK
}

func (c *Client) unsurface(r request.Request) ([]event.Event, []Effect, api.Errno) {
	w, err := c.find(r.Id)
	if err != api.OK {
		return nil, nil, err
	}
	c.ids.Drop(r.Id)
	delete(c.windows, r.Id)
	return c.Let(w.committed), []Effect{{Kind: Gone, Id: r.Id}}, api.OK
}

func (c *Client) attach(r request.Request) ([]event.Event, []Effect, api.Errno) {
	w, err := c.find(r.Id)
	if err != api.OK {
		return nil, nil, err
	}
	n := none
	if r.A != 0 {
		if n, err = c.findBuffer(r.A); err != api.OK {
			return nil, nil, err
		}
	}
	c.give(w, n)
	return nil, nil, api.OK
}

func (c *Client) damage(r request.Request) ([]event.Event, []Effect, api.Errno) {
	return c.set(r.Id, func(w *window) { w.Damage(r.R) })
}

func (c *Client) move(r request.Request) ([]event.Event, []Effect, api.Errno) {
	return c.set(r.Id, func(w *window) { w.Move(r.A, r.B) })
}

func (c *Client) raise(r request.Request) ([]event.Event, []Effect, api.Errno) {
	w, err := c.find(r.Id)
	if err != api.OK {
		return nil, nil, err
	}
	if r.A == 0 {
		w.order, w.over = onTop, 0
		return nil, nil, api.OK
	}
	if _, err := c.find(r.A); err != api.OK {
		return nil, nil, err
	}
	if r.A == r.Id {
		return nil, nil, api.ErrArg
	}
	w.order, w.over = overOne, r.A
	return nil, nil, api.OK
}

func (c *Client) lower(r request.Request) ([]event.Event, []Effect, api.Errno) {
	return c.set(r.Id, func(w *window) { w.order, w.over = lowest, 0 })
}

func (c *Client) scale(r request.Request) ([]event.Event, []Effect, api.Errno) {
	return c.set(r.Id, func(w *window) { w.Scale(r.A) })
}

func (c *Client) clip(r request.Request) ([]event.Event, []Effect, api.Errno) {
	return c.set(r.Id, func(w *window) { w.Clip(r.R) })
}

func (c *Client) opaque(r request.Request) ([]event.Event, []Effect, api.Errno) {
	return c.set(r.Id, func(w *window) { w.Opaque(r.R) })
}

func (c *Client) fade(r request.Request) ([]event.Event, []Effect, api.Errno) {
	return c.set(r.Id, func(w *window) { w.Fade(r.A) })
}

func (c *Client) title(r request.Request) ([]event.Event, []Effect, api.Errno) {
	return c.set(r.Id, func(w *window) { w.Title(r.Text) })
}

func (c *Client) frame(r request.Request) ([]event.Event, []Effect, api.Errno) {
	return c.set(r.Id, func(w *window) { w.Frame(r.A) })
}

func (c *Client) commit(r request.Request) ([]event.Event, []Effect, api.Errno) {
	w, err := c.find(r.Id)
	if err != api.OK {
		return nil, nil, err
	}
	done, err := w.Commit()
	if err != api.OK {
		return nil, nil, err
	}
	told := c.take(w)
	shown := Effect{
		Kind:   Shown,
		Id:     r.Id,
		State:  w.State(),
		Damage: done.Damage,
		Frames: done.Frames,
		Buffer: w.committed,
		Order:  w.order,
		Over:   w.over,
	}
	w.order, w.over = noOrder, 0
	return told, []Effect{shown}, api.OK
}

func (c *Client) cursor(r request.Request) ([]event.Event, []Effect, api.Errno) {
	if _, err := c.find(r.Id); err != api.OK {
		return nil, nil, err
	}
	return nil, []Effect{{Kind: Tipped, Id: r.Id, X: r.A, Y: r.B}}, api.OK
}

func (c *Client) point(r request.Request) ([]event.Event, []Effect, api.Errno) {
	return nil, []Effect{{Kind: Pointed, X: r.A, Y: r.B}}, api.OK
}

// find is the surface of an id.
func (c *Client) find(id int) (*window, api.Errno) {
	if err := c.ids.Find(id, ofSurface); err != api.OK {
		return nil, err
	}
	return c.windows[id], api.OK
}

// findBuffer is the number of the buffer of an id.
func (c *Client) findBuffer(id int) (int, api.Errno) {
	if err := c.ids.Find(id, ofBuffer); err != api.OK {
		return none, err
	}
	return c.pool.Find(id)
}

// set is an operation that does no more than change one surface.
func (c *Client) set(id int, change func(*window)) ([]event.Event, []Effect, api.Errno) {
	w, err := c.find(id)
	if err != api.OK {
		return nil, nil, err
	}
	change(w)
	return nil, nil, api.OK
}

// give attaches the buffer of a number, or none, to a surface.
func (c *Client) give(w *window, n int) {
	// No buffer has the number none, so that there is no image of it.
	m, _ := c.pool.Image(n)
	w.Attach(m)
	w.attached = n
}

// take lets a surface hold its attached buffer instead of the committed one, and tells what that lets free.
func (c *Client) take(w *window) []event.Event {
	was := w.committed
	if was == w.attached {
		return nil
	}
	// Of none nothing is held, and nothing is let.
	c.pool.Hold(w.attached)
	w.committed = w.attached
	return c.Let(was)
}

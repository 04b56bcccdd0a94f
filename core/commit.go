package core

import (
	"windrow/api"
	"windrow/geom"
	"windrow/lane"
	"windrow/rec"
)

// line is a record of a commit, the stream that it goes into, and the place
// that it is planned for.
type line struct {
	stream int
	rec    api.Rec
	at     api.At
}

// commit writes the records of some writes, whose Puts go into a stream, and
// behind them the Commit that counts them. Not till all are written do the
// blocks stand there: behind an error they are what they were.
func (c *Core) commit(l []api.Write, stream, whose int) api.Errno {
	lines := c.lines(l, stream, whose)
	then, ok := c.plan(lines)
	if !ok {
		return api.ErrRoom
	}
	for _, x := range lines {
		if e := c.write(x); e != api.OK {
			return e
		}
	}
	c.note(lines)
	c.pool = then
	return api.OK
}

// lines answers the records of a commit, numbered behind the last one.
func (c *Core) lines(l []api.Write, stream, whose int) []line {
	var lines []line
	for _, w := range l {
		lines = append(lines, lineOf(w, stream))
	}
	end := api.Rec{Kind: api.Commit, Block: whose, Count: len(l)}
	lines = append(lines, line{stream: api.Log, rec: end})
	for i := range lines {
		lines[i].rec.Epoch = c.epoch
		lines[i].rec.Seq = int(c.seq + uint64(i) + 1)
	}
	return lines
}

// lineOf answers a write's record, without its numbers. A Trim tells no data,
// whatever the write has.
func lineOf(w api.Write, stream int) line {
	if w.Trim {
		return line{stream: api.Log, rec: api.Rec{Kind: api.Trim, Block: w.Block}}
	}
	return line{stream: stream, rec: api.Rec{Kind: api.Put, Block: w.Block, Data: w.Data}}
}

// plan gives each line its place, and answers the pool behind them; false, if
// one of them has none.
func (c *Core) plan(lines []line) (api.Pool, bool) {
	streams := make([]int, len(lines))
	for i, x := range lines {
		streams[i] = x.stream
	}
	places, then, ok := lane.Plan(c.geom, c.pool, streams)
	for i, a := range places {
		lines[i].at = a
	}
	return then, ok
}

// write lays a record at its place. A zone that is used up is flushed, so that
// behind a crash no more zones are begun than there are streams.
func (c *Core) write(x line) api.Errno {
	if e := c.dev.Write(x.at, rec.Lay(x.rec)); e != api.OK {
		return e
	}
	if !c.ending(x.at) {
		return api.OK
	}
	return c.dev.Flush()
}

// note lets the blocks stand where they were written.
func (c *Core) note(lines []line) {
	for _, x := range lines {
		switch x.rec.Kind {
		case api.Put:
			c.stand(x.rec.Block, geom.Num(c.geom, x.at))
		case api.Trim:
			c.stand(x.rec.Block, 0)
		}
		c.seq = uint64(x.rec.Seq)
		if c.ending(x.at) {
			c.ends[x.at.Zone] = c.seq
		}
	}
}

// ending tells whether a place uses its zone up.
func (c *Core) ending(a api.At) bool { return a.Off == c.geom.Size-1 }

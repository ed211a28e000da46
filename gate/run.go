package gate

import (
	"errors"
	"slices"
	"strings"

	"guilloche/api"
	"guilloche/frame"
	"guilloche/kinds"
)

// arrive takes a frame from the network.
func (g *Gate) arrive(s *Step, text string) {
	a, err := frame.GetAsk(text)
	if err != api.OK {
		g.fail(s, a, err)
		return
	}
	queue := g.queues[a.Session]
	text, err = g.kept(a)
	switch {
	case errors.Is(err, api.OK):
		g.emit(s, text)
	case !errors.Is(err, api.ErrNone):
		g.fail(s, a, err)
	case slices.ContainsFunc(queue, func(q api.Ask) bool { return q.Seq == a.Seq }):
		// It came already.
	case len(queue) == g.room || isLate(queue, a):
		g.fail(s, a, api.ErrBusy)
	default:
		g.setQueue(a.Session, append(queue, a))
	}
}

// isLate tells whether an ask came behind one that should be run behind it; opens have no order.
func isLate(queue []api.Ask, a api.Ask) bool {
	return a.Kind != kinds.Open && len(queue) > 0 && queue[len(queue)-1].Seq > a.Seq
}

// kept is the reply to an ask that was run already; ErrNone, if it was not.
func (g *Gate) kept(a api.Ask) (string, api.Errno) {
	if a.Kind == kinds.Open {
		at := slices.IndexFunc(g.opens, func(o answer) bool { return o.seq == a.Seq })
		if at < 0 {
			return "", api.ErrNone
		}
		return g.opens[at].frame, api.OK
	}
	if _, err := g.table.Find(a.Session, g.clock); err != api.OK {
		return "", err
	}
	return g.table.Replay(a.Session, a.Seq)
}

// run runs an ask, and replies to it.
func (g *Gate) run(s *Step, a api.Ask) {
	var r api.Reply
	var err api.Errno
	defer func() {
		if errors.Is(err, api.OK) {
			r.Seq = a.Seq
		} else {
			// What was found ahead of the error is not told.
			r = failed(a, err)
		}
		g.reply(s, a, r)
	}()
	if a.Kind == kinds.Open {
		r, err = g.open(a.At)
		return
	}
	l, err := g.table.Find(a.Session, g.clock)
	if err != api.OK {
		return
	}
	r, err = g.answer(a, l.Block)
	r.Session = a.Session
}

// reply emits a reply, and keeps it.
func (g *Gate) reply(s *Step, a api.Ask, r api.Reply) {
	// All that is answered is within a frame's bounds.
	text, _ := frame.PutReply(r)
	g.emit(s, text)
	switch a.Kind {
	case kinds.Open:
		g.opens = append(g.opens, answer{a.Seq, text})
		if old := len(g.opens) - keptOpens; old > 0 {
			g.opens = slices.Delete(g.opens, 0, old)
		}
	case kinds.Release:
		g.drain(s, a.Session, api.ErrSession)
	default:
		g.table.Store(a.Session, a.Seq, text)
	}
}

// open pins a version, and opens a session of it.
func (g *Gate) open(at int) (api.Reply, api.Errno) {
	block, err := g.chain.Pin(at)
	if err != api.OK {
		return api.Reply{}, err
	}
	id, err := g.table.Open(block, g.clock)
	if err != api.OK {
		g.chain.Unpin(block)
		return api.Reply{}, api.ErrBusy
	}
	r, err := g.version(block)
	r.Session = id
	return r, err
}

// version is a reply that tells a version.
func (g *Gate) version(block int) (api.Reply, api.Errno) {
	root, err := g.chain.Root(block)
	return api.Reply{Version: block, Root: root}, err
}

// answer answers an ask of a session that has pinned a block.
func (g *Gate) answer(a api.Ask, block int) (api.Reply, api.Errno) {
	r, err := g.version(block)
	switch a.Kind {
	case kinds.Get:
		r.Entries = g.entry(block, a.Key)
	case kinds.Iterate:
		r.Entries, r.More, err = g.chain.Range(block, a.Key, behindAll(), a.Limit)
	case kinds.ProveRange:
		if a.Key > a.To {
			return r, api.ErrMalformed
		}
		fallthrough
	case kinds.Prove:
		if r.Proof, r.More, err = g.proof(a, block); len(r.Proof) > api.MaxFrame {
			err = api.ErrLarge
		}
	case kinds.Subscribe:
		g.feed.Subscribe(a.Session)
		blocks := g.chain.Blocks()
		return g.version(blocks[len(blocks)-1])
	case kinds.Unsubscribe:
		g.feed.Unsubscribe(a.Session)
	case kinds.Repin:
		return g.repin(a)
	case kinds.Renew:
		err = g.table.Renew(a.Session, g.clock)
	case kinds.Release:
		err = g.release(a.Session)
	}
	return r, err
}

// behindAll is a key behind all that a map may have.
func behindAll() string { return strings.Repeat("\xff", api.MaxKey+1) }

// entry is the one of a key, or none.
func (g *Gate) entry(block int, key string) []api.Entry {
	value, err := g.chain.Get(block, key)
	if errors.Is(err, api.ErrNone) {
		return nil
	}
	return []api.Entry{{Key: key, Value: value}}
}

// proof is that of a key, or of a range and whether there is more.
func (g *Gate) proof(a api.Ask, block int) (string, bool, api.Errno) {
	if a.Kind == kinds.ProveRange {
		return g.chain.ProveRange(block, a.Key, a.To, a.Limit)
	}
	text, err := g.chain.Prove(block, a.Key)
	return text, false, err
}

// repin lets a session have another version.
func (g *Gate) repin(a api.Ask) (api.Reply, api.Errno) {
	block, err := g.chain.Pin(a.At)
	if err != api.OK {
		return api.Reply{}, err
	}
	old, err := g.table.Repin(a.Session, block, g.clock)
	if err != api.OK {
		return api.Reply{}, err
	}
	g.chain.Unpin(old)
	return g.version(block)
}

// release lets a session go.
func (g *Gate) release(session int) api.Errno {
	block, err := g.table.Release(session, g.clock)
	if err == api.OK {
		g.chain.Unpin(block)
		g.feed.Forget(session)
	}
	return err
}

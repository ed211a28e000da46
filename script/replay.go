package script

import (
	"slices"

	"guilloche/api"
	"guilloche/canon"
	"guilloche/frame"
	"guilloche/gate"
	"guilloche/kinds"
	"guilloche/model"
	"guilloche/proof"
	"guilloche/span"
	"guilloche/store"
	"guilloche/wire"
)

// mostOpened is the last Id that a session may have.
const mostOpened = 1 << 20

// player does ops by a model: it has the blocks of sessions by their Ids.
type player struct {
	model    model.Model
	sessions map[int]int
	most     int
	last     int
}

// Replay does ops one by one, and tells the replies.
func Replay(c gate.Config, ops []Op) ([]string, api.Errno) {
	p := &player{model: model.New(c.Window), sessions: map[int]int{}, most: min(max(c.Sessions, 1), api.MaxSessions)}
	var all []string
	for _, op := range ops {
		switch {
		case op.Commit:
			next, _, err := model.Commit(p.model, op.Changes)
			if err != api.OK {
				return nil, err
			}
			p.model = next
		case len(op.Ended) > 0:
			for _, id := range op.Ended {
				p.end(id)
			}
		default:
			all = append(all, p.reply(op.Ask))
		}
	}
	return all, api.OK
}

// reply is the frame of the reply to an ask.
func (p *player) reply(a api.Ask) string {
	var r api.Reply
	err := api.ErrArg
	if frame.ValidAsk(a) {
		r, err = p.answer(a)
	}
	if err != api.OK {
		r = api.Reply{Session: a.Session, Err: err}
	}
	r.Seq = a.Seq
	text, _ := frame.PutReply(r)
	return text
}

// answer answers an ask that may be.
func (p *player) answer(a api.Ask) (api.Reply, api.Errno) {
	if a.Kind == kinds.Open {
		return p.open(a.At)
	}
	block, ok := p.sessions[a.Session]
	if !ok {
		return api.Reply{}, api.ErrSession
	}
	answers := map[int]func(*api.Reply, api.Ask) api.Errno{
		kinds.Get:         p.get,
		kinds.Iterate:     p.iterate,
		kinds.Prove:       p.prove,
		kinds.ProveRange:  p.proveRange,
		kinds.Subscribe:   p.subscribe,
		kinds.Unsubscribe: p.stay,
		kinds.Repin:       p.repin,
		kinds.Renew:       p.stay,
		kinds.Release:     p.release,
	}
	r := p.version(block)
	r.Session = a.Session
	err := answers[a.Kind](&r, a)
	return r, err
}

// version is a reply that tells a version.
func (p *player) version(block int) api.Reply {
	root, _ := canon.Root(p.entries(block))
	return api.Reply{Version: block, Root: root}
}

// entries are a version's.
func (p *player) entries(block int) []api.Entry {
	l, _ := model.At(p.model, block)
	return l
}

// pin pins a version.
func (p *player) pin(at int) (int, api.Errno) {
	next, block, err := model.Pin(p.model, at)
	p.model = next
	return block, err
}

// unpin takes a pin from one.
func (p *player) unpin(block int) { p.model, _ = model.Unpin(p.model, block) }

// end ends a session, if it is there.
func (p *player) end(id int) {
	if block, ok := p.sessions[id]; ok {
		delete(p.sessions, id)
		p.unpin(block)
	}
}

// open opens a session of a version.
func (p *player) open(at int) (api.Reply, api.Errno) {
	block, err := p.pin(at)
	if err != api.OK {
		return api.Reply{}, err
	}
	if len(p.sessions) == p.most || p.last == mostOpened {
		p.unpin(block)
		return api.Reply{}, api.ErrBusy
	}
	p.last++
	p.sessions[p.last] = block
	r := p.version(block)
	r.Session = p.last
	return r, api.OK
}

// get tells the entry of a key, if there is one.
func (p *player) get(r *api.Reply, a api.Ask) api.Errno {
	if value, ok := canon.Find(p.entries(r.Version), a.Key); ok {
		r.Entries = []api.Entry{{Key: a.Key, Value: value}}
	}
	return api.OK
}

// iterate tells entries from a key on.
func (p *player) iterate(r *api.Reply, a api.Ask) api.Errno {
	all := slices.DeleteFunc(p.entries(r.Version), func(e api.Entry) bool { return e.Key < a.Key })
	r.Entries, r.More = cut(all, a.Limit)
	return api.OK
}

// cut are the first ones of entries, and whether there are more.
func cut(l []api.Entry, limit int) ([]api.Entry, bool) {
	if len(l) > limit {
		return l[:limit], true
	}
	return l, false
}

// prove proves a key.
func (p *player) prove(r *api.Reply, a api.Ask) api.Errno {
	s, root := laid(p.entries(r.Version))
	nodes, err := proof.Build(s, root, a.Key)
	if err != api.OK {
		return err
	}
	return show(r, wire.Paper{Kind: kinds.OfKey, Root: root, Key: a.Key, Nodes: nodes})
}

// proveRange proves what is in a range, up to the last entry that is told.
func (p *player) proveRange(r *api.Reply, a api.Ask) api.Errno {
	if a.Key > a.To {
		return api.ErrMalformed
	}
	l := p.entries(r.Version)
	ends := span.Ends{From: a.Key, To: a.To}
	some, more := cut(span.Between(l, ends), a.Limit)
	if more {
		ends.To = some[len(some)-1].Key
	}
	s, root := laid(l)
	nodes, err := span.Build(s, root, ends)
	if err != api.OK {
		return err
	}
	r.More = more
	return show(r, wire.Paper{Kind: kinds.OfRange, Root: root, Key: ends.From, To: ends.To, Nodes: nodes})
}

// laid is a store that has the nodes of a map alone, and its root there.
func laid(l []api.Entry) (*store.Store, string) {
	// The map of a version has nodes, and there is room for them.
	nodes, _ := canon.Nodes(l)
	s := store.New(len(nodes))
	root, _ := s.Add(nodes)
	return s, root
}

// show lets a reply have a paper, unless that is too large for a frame.
func show(r *api.Reply, paper wire.Paper) api.Errno {
	text, err := wire.Put(paper)
	if err != api.OK {
		return err
	}
	if len(text) > api.MaxFrame {
		return api.ErrLarge
	}
	r.Proof = text
	return api.OK
}

// subscribe tells the newest version.
func (p *player) subscribe(r *api.Reply, a api.Ask) api.Errno {
	newest := p.version(p.model.Next - 1)
	r.Version, r.Root = newest.Version, newest.Root
	return api.OK
}

// stay tells the session's version alone.
func (p *player) stay(r *api.Reply, a api.Ask) api.Errno { return api.OK }

// repin lets a session have another version.
func (p *player) repin(r *api.Reply, a api.Ask) api.Errno {
	block, err := p.pin(a.At)
	if err != api.OK {
		return err
	}
	p.unpin(r.Version)
	p.sessions[a.Session] = block
	other := p.version(block)
	r.Version, r.Root = other.Version, other.Root
	return api.OK
}

// release lets a session go.
func (p *player) release(r *api.Reply, a api.Ask) api.Errno {
	p.end(a.Session)
	return api.OK
}

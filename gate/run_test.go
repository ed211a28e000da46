package gate_test

import (
	"slices"
	"strings"
	"testing"

	"guilloche/api"
	"guilloche/canon"
	"guilloche/frame"
	"guilloche/gate"
	"guilloche/wire"
)

func TestNoAskArrives(t *testing.T) {
	g := newGate(t, usual)
	opened(t, g, 1)
	notice, _ := frame.PutNotice(api.Notice{Session: 1})
	wrong, _ := frame.PutReply(api.Reply{Session: 1, Seq: 2})
	for _, text := range []string{"", "x", strings.Repeat("\xc0", 4096), notice, wrong, g.Down()[0]} {
		g.Do(api.Act{Kind: 7, Text: text})
		fails(t, g.Do(api.Act{Kind: 3}), 0, 0, api.ErrMalformed)
	}
	if len(g.Queue(0)) != 0 || len(g.Queue(1)) != 0 || g.Stored() != 1 {
		t.Error("it did harm")
	}
}

// An ask as bytes is an ask.
func TestAskAsText(t *testing.T) {
	g := newGate(t, usual)
	a := api.Ask{Seq: 1, At: -1}
	text, _ := frame.PutAsk(a)
	g.Do(api.Act{Kind: 7, Text: text})
	g.Do(api.Act{Kind: 3})
	if !slices.Equal(g.Queue(0), []api.Ask{a}) {
		t.Error(g.Queue(0))
	}
}

// An open is run once, as long as its reply is kept: the last two are.
func TestOpensAgain(t *testing.T) {
	g := newGate(t, usual)
	a := api.Ask{Seq: 1, At: -1}
	queued(t, g, a)
	queued(t, g, a)
	// It is told by its Seq alone.
	queued(t, g, api.Ask{Seq: 1, At: 77})
	if !slices.Equal(g.Queue(0), []api.Ask{a}) {
		t.Error(g.Queue(0))
	}
	ran(t, g, a)
	kept := g.Down()
	for i, again := range []api.Ask{a, {Seq: 1, At: 77}} {
		if s := arrive(t, g, again); !same(s, gate.Step{Sent: kept}) || len(g.Down()) != 2+i {
			t.Error(s)
		}
	}
	// One that fails is kept likewise.
	wrong := api.Ask{Seq: 9, At: 77}
	if r := asked(t, g, wrong); r.Session != 0 || r.Seq != 9 || r.Err != api.ErrRoot {
		t.Error(r)
	}
	fails(t, arrive(t, g, wrong), 0, 9, api.ErrRoot)
	if s := arrive(t, g, a); !same(s, gate.Step{Sent: kept}) || g.Stored() != 2 {
		t.Error(s)
	}
	// Opens have no order.
	if r := asked(t, g, api.Ask{Seq: 3, At: -1}); r.Session != 2 || g.Stored() != 2 {
		t.Error(r)
	}
	if r := asked(t, g, a); r.Session != 3 || g.Stored() != 2 || len(g.Sessions()) != 3 {
		t.Error(r)
	}
}

func TestDoorIsFull(t *testing.T) {
	c := usual
	c.Queue = 2
	g := newGate(t, c)
	queued(t, g, api.Ask{Seq: 5, At: -1})
	queued(t, g, api.Ask{Seq: 3, At: -1})
	full := g.Queue(0)
	fails(t, arrive(t, g, api.Ask{Seq: 9, At: -1}), 0, 9, api.ErrBusy)
	// What is there already is not told to be too much.
	queued(t, g, api.Ask{Seq: 3, At: -1})
	if !slices.Equal(g.Queue(0), full) || g.Stored() != 0 {
		t.Error(g.Queue(0))
	}
	ran(t, g, full[0])
	fails(t, func() gate.Step {
		queued(t, g, api.Ask{Seq: 9, At: -1})
		return arrive(t, g, api.Ask{Seq: 10, At: -1})
	}(), 0, 10, api.ErrBusy)
	// A reply that is kept is told without room.
	if s := arrive(t, g, full[0]); len(s.Sent) != 1 || reply(t, s.Sent[0]).Session != 1 {
		t.Error(s)
	}
}

func TestNoSession(t *testing.T) {
	c := usual
	c.Term = 5
	g := newGate(t, c)
	fails(t, arrive(t, g, api.Ask{Kind: 8, Session: 1, Seq: 4}), 1, 4, api.ErrSession)
	id := opened(t, g, 1)
	asked(t, g, api.Ask{Kind: 1, Session: id, Seq: 1})
	g.Do(api.Act{Kind: 6, N: 5})
	// Neither a reply that was kept, nor a new one: that it ended is told first.
	for _, seq := range []int{1, 2} {
		fails(t, arrive(t, g, api.Ask{Kind: 1, Session: id, Seq: seq}), id, seq, api.ErrExpired)
	}
	two := opened(t, g, 2)
	asked(t, g, api.Ask{Kind: 9, Session: two, Seq: 1})
	fails(t, arrive(t, g, api.Ask{Kind: 9, Session: two, Seq: 1}), two, 1, api.ErrSession)
	if len(g.Queue(id)) != 0 || len(g.Queue(two)) != 0 {
		t.Error("queued")
	}
}

// An ask is run once, however often its frame comes.
func TestAsksAgain(t *testing.T) {
	g := newGate(t, usual)
	commit(t, g, put("a", "1"))
	id := opened(t, g, 1)
	get := func(seq int) api.Ask { return api.Ask{Kind: 1, Session: id, Seq: seq, Key: "a"} }
	queued(t, g, get(2))
	queued(t, g, get(2))
	// It is told by its Seq alone.
	queued(t, g, api.Ask{Kind: 8, Session: id, Seq: 2})
	if !slices.Equal(g.Queue(id), []api.Ask{get(2)}) {
		t.Error(g.Queue(id))
	}
	first := ran(t, g, get(2))
	commit(t, g, put("a", "2"))
	again := func(a api.Ask, want api.Reply) {
		t.Helper()
		text, _ := frame.PutReply(want)
		if s := arrive(t, g, a); !same(s, gate.Step{Sent: []string{text}}) {
			t.Error(s)
		}
	}
	again(get(2), first)
	again(api.Ask{Kind: 9, Session: id, Seq: 2}, first)
	// One that fails is kept likewise.
	wrong := api.Ask{Kind: 7, Session: id, Seq: 5, At: 99}
	failed := asked(t, g, wrong)
	if failed.Err != api.ErrRoot || g.Stored() != 3 {
		t.Error(failed)
	}
	again(wrong, failed)
	again(get(2), first)
	// What lies between was never stored, what is older is kept no more.
	for _, seq := range []int{1, 3, 4} {
		fails(t, arrive(t, g, get(seq)), id, seq, api.ErrBusy)
	}
	asked(t, g, get(6))
	fails(t, arrive(t, g, get(2)), id, 2, api.ErrBusy)
	again(wrong, failed)
	if len(g.Queue(id)) != 0 || g.Stored() != 3 {
		t.Error(g.Queue(id), g.Stored())
	}
}

func TestQueueIsFull(t *testing.T) {
	c := usual
	c.Queue = 2
	g := newGate(t, c)
	one, two := opened(t, g, 1), opened(t, g, 2)
	renew := func(id, seq int) api.Ask { return api.Ask{Kind: 8, Session: id, Seq: seq} }
	queued(t, g, renew(one, 3))
	// One that should have come ahead of it is too late.
	fails(t, arrive(t, g, renew(one, 2)), one, 2, api.ErrBusy)
	queued(t, g, renew(one, 7))
	fails(t, arrive(t, g, renew(one, 5)), one, 5, api.ErrBusy)
	fails(t, arrive(t, g, renew(one, 8)), one, 8, api.ErrBusy)
	queued(t, g, renew(one, 3))
	queued(t, g, renew(one, 7))
	if !slices.Equal(g.Queue(one), []api.Ask{renew(one, 3), renew(one, 7)}) {
		t.Error(g.Queue(one))
	}
	// Each session has a queue of its own.
	queued(t, g, renew(two, 2))
	ran(t, g, renew(one, 3))
	// Replies to frames are not kept: it may come again.
	queued(t, g, renew(one, 8))
	ran(t, g, renew(one, 7))
	ran(t, g, renew(one, 8))
	fails(t, arrive(t, g, renew(one, 5)), one, 5, api.ErrBusy)
	ran(t, g, renew(two, 2))
}

func TestOpen(t *testing.T) {
	c := usual
	c.Window, c.Sessions = 1, 2
	g := newGate(t, c)
	commit(t, g, put("a", "1"))
	root, _ := canon.Root([]api.Entry{{Key: "a", Value: "1"}})
	open := func(seq, at int, want api.Reply) {
		t.Helper()
		want.Seq = seq
		got, _ := frame.PutReply(asked(t, g, api.Ask{Seq: seq, At: at}))
		if text, _ := frame.PutReply(want); got != text {
			t.Errorf("open %d: %v", at, reply(t, got))
		}
	}
	open(1, 0, api.Reply{Err: api.ErrRoot})
	open(2, 2, api.Reply{Err: api.ErrRoot})
	open(3, -1, api.Reply{Session: 1, Version: 1, Root: root})
	open(4, 1, api.Reply{Session: 2, Version: 1, Root: root})
	// That there is no such version is told first.
	open(5, 7, api.Reply{Err: api.ErrRoot})
	open(6, 1, api.Reply{Err: api.ErrBusy})
	commit(t, g, put("a", "2"))
	open(7, -1, api.Reply{Err: api.ErrBusy})
	for id := 1; id <= 2; id++ {
		asked(t, g, api.Ask{Kind: 9, Session: id, Seq: 1})
	}
	// The pins of those that failed were taken again.
	if !slices.Equal(g.Blocks(), []int{2}) || len(g.Nodes()) != 1 {
		t.Error(g.Blocks())
	}
	commit(t, g, put("a", "3"))
	if !slices.Equal(g.Blocks(), []int{3}) {
		t.Error(g.Blocks())
	}
}

// version is what a reply tells of a version whose map is known.
func version(block int, l ...api.Entry) api.Reply {
	root, _ := canon.Root(l)
	return api.Reply{Version: block, Root: root}
}

func e(key, value string) api.Entry { return api.Entry{Key: key, Value: value} }

// entries are those of the first version of most tests.
func entries() []api.Entry {
	return []api.Entry{e("a", "1"), e("ab", "2"), e("b", "3"), e("ba", "4"), e("c", "5"), e("\xff\xff\xff\xff\xff\xff", "6")}
}

// reader is a gate with a session that reads the version of entries, behind which there are others.
func reader(t *testing.T) (*gate.Gate, int) {
	t.Helper()
	c := usual
	c.Window = 1
	g := newGate(t, c)
	var l []api.Change
	for _, x := range entries() {
		l = append(l, put(x.Key, x.Value))
	}
	commit(t, g, l...)
	id := opened(t, g, 1)
	commit(t, g, put("a", "9"), put("x", "9"), api.Change{Key: "b", Gone: true})
	return g, id
}

// told tells that an ask is answered so.
func told(t *testing.T, g *gate.Gate, a api.Ask, want api.Reply) {
	t.Helper()
	want.Session, want.Seq = a.Session, a.Seq
	got, _ := frame.PutReply(asked(t, g, a))
	if text, _ := frame.PutReply(want); got != text {
		t.Errorf("%v: %q; want %q", a, got, text)
	}
}

func TestGet(t *testing.T) {
	g, id := reader(t)
	seq := 0
	for _, x := range entries() {
		seq++
		want := version(1, entries()...)
		want.Entries = []api.Entry{x}
		told(t, g, api.Ask{Kind: 1, Session: id, Seq: seq, Key: x.Key}, want)
	}
	for _, key := range []string{"", "x", "aa", "abcdef"} {
		seq++
		told(t, g, api.Ask{Kind: 1, Session: id, Seq: seq, Key: key}, version(1, entries()...))
	}
}

func TestIterate(t *testing.T) {
	g, id := reader(t)
	seq := 0
	all := entries()
	for _, x := range []struct {
		from     string
		limit    int
		at, many int
	}{{"", 8, 0, 6}, {"", 6, 0, 6}, {"", 5, 0, 5}, {"a", 1, 0, 1}, {"aa", 2, 1, 2}, {"b", 8, 2, 4}, {"d", 8, 5, 1}, {"\xff\xff\xff\xff\xff\xff", 1, 5, 1}} {
		seq++
		want := version(1, all...)
		want.Entries, want.More = all[x.at:x.at+x.many], x.at+x.many < len(all)
		told(t, g, api.Ask{Kind: 2, Session: id, Seq: seq, Key: x.from, Limit: x.limit}, want)
	}
	g = newGate(t, usual)
	id = opened(t, g, 1)
	told(t, g, api.Ask{Kind: 2, Session: id, Seq: 1, Limit: 3}, version(0))
}

// proved tells that a reply has a proof of just these entries, and that whoever has the root believes it.
func proved(t *testing.T, g *gate.Gate, a api.Ask, end string, want []api.Entry, more bool) {
	t.Helper()
	r := asked(t, g, a)
	v := version(1, entries()...)
	if r.Session != a.Session || r.Seq != a.Seq || r.Err != api.OK || r.Version != 1 || r.Root != v.Root || len(r.Entries) != 0 || r.More != more {
		t.Errorf("%v: %v", a, r)
	}
	p, err := wire.Get(r.Proof)
	if err != api.OK || p.Root != v.Root || p.Key != a.Key || p.To != end || p.Kind != a.Kind-3 {
		t.Errorf("%v: %v", a, p)
	}
	if l, err := wire.Judge(p); !slices.Equal(l, want) || err != api.OK {
		t.Errorf("%v: %v, %v; want %v", a, l, err, want)
	}
}

func TestProve(t *testing.T) {
	g, id := reader(t)
	seq := 0
	for _, key := range []string{"a", "ab", "x", "", "abcdef"} {
		seq++
		var want []api.Entry
		if value, in := canon.Find(entries(), key); in {
			want = []api.Entry{e(key, value)}
		}
		proved(t, g, api.Ask{Kind: 3, Session: id, Seq: seq, Key: key}, "", want, false)
	}
}

func TestProveRange(t *testing.T) {
	g, id := reader(t)
	all := entries()
	seq := 0
	for _, x := range []struct {
		from, to string
		limit    int
		at, many int
		end      string
	}{{"", "z", 8, 0, 5, "z"}, {"", "z", 5, 0, 5, "z"}, {"", "z", 4, 0, 4, "ba"}, {"a", "a", 1, 0, 1, "a"}, {"ab", "b", 1, 1, 1, "ab"}, {"d", "e", 1, 0, 0, "e"}, {"", "", 1, 0, 0, ""}} {
		seq++
		a := api.Ask{Kind: 4, Session: id, Seq: seq, Key: x.from, To: x.to, Limit: x.limit}
		proved(t, g, a, x.end, all[x.at:x.at+x.many], x.end != x.to)
	}
	a := api.Ask{Kind: 4, Session: id, Seq: seq + 1, Key: "b", To: "ab", Limit: 1}
	told(t, g, a, api.Reply{Err: api.ErrMalformed})
	fails(t, arrive(t, g, a), id, seq+1, api.ErrMalformed)
}

// wide are keys with whose greatest values the proof of a range is about as large as it can be.
func wide() []string {
	return []string{"\x10\x1d\xd3|", "\x11", "\x11\x10\"d", "\x11\x11", "\x11\x11\x10\xa9\xa7\\", "\x11\x11\x11", "\x11\x11\x11\x10[\xc7", "\x11\x11\x11\x11",
		"\x11\x11\x11\x11\x10", "\x11\x11\x11\x11\x11", "\x11\x11\x11\x11\x11\x14", "UPWTp\x9a", "UP[\x0fj\xaa", "UUUR\x91^", "UUU]\xf1P", "UUYX[\xae", "YXה\xb2\xf5",
		"Y\\UU\x95'", "Y\\Vf\x8b\x94", "\x99\x99\x99\x99\x99\x9d", "\x99\x99\x99\x99\x99\xab", "\x99\x99\x99\x99\x99\xba", "\x99\x99\x99\x99\x9b\xb7", "\x99\x99\x99\x99\xfcu",
		"\x99\x99\x99\x9e", "\x99\x99\x99\xa9\x99\x9d", "\x99\x99\x99\xf9~", "\x99\x99\x9a\xa4\x99", "\x99\x99\x9d\x99\x99\x1b", "\x99\x99\xfa", "\x99\x9c\x98", "\x99\x9d\x9b\x99",
		"\x99\xf9I\x99\x99", "\x9a\\\xbf\x80\xc7", "\x9c\x99\x99\x99\x99\x9b", "\xa1\x91\x1b\t=", "\xb1\x10\x82\x9b\xd26", "ə\x99\x99", "\xe1\x1e\xf4A\xbb", "\xf9у\xea"}
}

// A proof of more bytes than a frame may have is not told; to the last byte it is.
func TestLargeProof(t *testing.T) {
	for _, x := range []struct {
		less, size int
		err        api.Errno
	}{{0, 4150, api.ErrLarge}, {53, 4097, api.ErrLarge}, {54, 4096, api.OK}, {55, 4095, api.OK}} {
		g := newGate(t, usual)
		var l []api.Change
		for _, key := range wide() {
			l = append(l, put(key, strings.Repeat("v", 80)))
		}
		for i, key := range []string{"UUUR\x91^", "UUU]\xf1P", "UUYX[\xae"} {
			l = append(l, put(key, strings.Repeat("v", 80-(x.less+i)/3)))
		}
		commit(t, g, l...)
		id := opened(t, g, 1)
		a := api.Ask{Kind: 4, Session: id, Seq: 1, Key: "\x11\x11\x11\x11\x11\x15", To: "\x99\x99\x99\x99\x99\x9b", Limit: 8}
		if x.err != api.OK {
			told(t, g, a, api.Reply{Err: x.err})
			fails(t, arrive(t, g, a), id, 1, x.err)
			continue
		}
		r := asked(t, g, a)
		p, _ := wire.Get(r.Proof)
		if told, err := wire.Judge(p); len(r.Proof) != x.size || len(told) != 8 || err != api.OK {
			t.Errorf("%d bytes, %v", len(r.Proof), r.Err)
		}
	}
}

func TestSubscribe(t *testing.T) {
	g, id := reader(t)
	newest := func() api.Reply {
		return version(2, e("a", "9"), e("ab", "2"), e("ba", "4"), e("c", "5"), e("x", "9"), e("\xff\xff\xff\xff\xff\xff", "6"))
	}
	told(t, g, api.Ask{Kind: 5, Session: id, Seq: 1}, newest())
	if !g.Follows(id) {
		t.Error("does not follow")
	}
	told(t, g, api.Ask{Kind: 5, Session: id, Seq: 2}, newest())
	commit(t, g)
	if !g.Follows(id) || g.Waiting(id) != 1 {
		t.Error(g.Waiting(id))
	}
	// It does not follow any more, and what waits for it stays.
	for seq := 3; seq < 5; seq++ {
		told(t, g, api.Ask{Kind: 6, Session: id, Seq: seq}, version(1, entries()...))
		if g.Follows(id) || g.Waiting(id) != 1 {
			t.Error(g.Waiting(id))
		}
	}
	commit(t, g)
	if g.Waiting(id) != 1 {
		t.Error(g.Waiting(id))
	}
}

// Where a notice is missed that is told, and none follows.
func TestLagged(t *testing.T) {
	c := usual
	c.Queue = 2
	g := newGate(t, c)
	id := opened(t, g, 1)
	asked(t, g, api.Ask{Kind: 5, Session: id, Seq: 1})
	for range 5 {
		commit(t, g)
	}
	if g.Follows(id) || g.Waiting(id) != 3 {
		t.Error(g.Waiting(id))
	}
	for i, err := range []api.Errno{api.OK, api.OK, api.ErrLagged} {
		n, bad := frame.GetNotice(g.Do(api.Act{Kind: 2, N: id}).Sent[0])
		if n.Block != i+1 || n.Err != err || n.Session != id || bad != api.OK || (n.Root == "") != (err != api.OK) {
			t.Error(n)
		}
	}
	if s := g.Do(api.Act{Kind: 2, N: id}); s.Err != api.ErrNone {
		t.Error(s)
	}
}

func TestRepin(t *testing.T) {
	g, id := reader(t)
	told(t, g, api.Ask{Kind: 7, Session: id, Seq: 1, At: 7}, api.Reply{Err: api.ErrRoot})
	told(t, g, api.Ask{Kind: 7, Session: id, Seq: 2, At: 0}, api.Reply{Err: api.ErrRoot})
	// The one it has is a version, too.
	told(t, g, api.Ask{Kind: 7, Session: id, Seq: 3, At: 1}, version(1, entries()...))
	if !slices.Equal(g.Blocks(), []int{1, 2}) {
		t.Error(g.Blocks())
	}
	commit(t, g, put("a", "1"))
	want := version(3, e("a", "1"), e("ab", "2"), e("ba", "4"), e("c", "5"), e("x", "9"), e("\xff\xff\xff\xff\xff\xff", "6"))
	g.Do(api.Act{Kind: 6, N: 10})
	told(t, g, api.Ask{Kind: 7, Session: id, Seq: 4, At: -1}, want)
	if !slices.Equal(g.Blocks(), []int{3}) || g.Sessions()[0].Block != 3 || g.Sessions()[0].Deadline != 100 {
		t.Error(g.Blocks(), g.Sessions())
	}
	want.Entries = []api.Entry{e("x", "9")}
	told(t, g, api.Ask{Kind: 1, Session: id, Seq: 5, Key: "x"}, want)
	commit(t, g)
	if !slices.Equal(g.Blocks(), []int{3, 4}) {
		t.Error(g.Blocks())
	}
}

func TestRenew(t *testing.T) {
	g, id := reader(t)
	g.Do(api.Act{Kind: 6, N: 99})
	told(t, g, api.Ask{Kind: 8, Session: id, Seq: 1}, version(1, entries()...))
	if d := g.Sessions()[0].Deadline; d != 199 {
		t.Error(d)
	}
	if s := g.Do(api.Act{Kind: 6, N: 99}); len(g.Sessions()) != 1 {
		t.Error(s)
	}
	if s := g.Do(api.Act{Kind: 6, N: 1}); len(g.Sessions()) != 0 {
		t.Error(s)
	}
}

// Behind the reply to a release each ask that waited fails.
func TestRelease(t *testing.T) {
	g, id := reader(t)
	other := opened(t, g, 2)
	asked(t, g, api.Ask{Kind: 5, Session: id, Seq: 1})
	asked(t, g, api.Ask{Kind: 5, Session: other, Seq: 1})
	commit(t, g)
	out := api.Ask{Kind: 9, Session: id, Seq: 2}
	queued(t, g, out)
	for _, seq := range []int{3, 4, 9} {
		queued(t, g, api.Ask{Kind: 8, Session: id, Seq: seq})
	}
	queued(t, g, api.Ask{Kind: 8, Session: other, Seq: 2})
	stored, down := g.Stored(), g.Down()
	s := g.Do(api.Act{Kind: 2, N: id})
	first := version(1, entries()...)
	first.Session, first.Seq = id, 2
	text, _ := frame.PutReply(first)
	want := []string{text}
	for _, seq := range []int{3, 4, 9} {
		text, _ := frame.PutReply(api.Reply{Session: id, Seq: seq, Err: api.ErrSession})
		want = append(want, text)
	}
	if !same(s, gate.Step{Ran: true, Ask: out, Sent: want}) || !slices.Equal(g.Down(), append(down, want...)) {
		t.Error(s)
	}
	// What is lost is what finds no room.
	if g.Stored() != stored-1 || len(g.Sessions()) != 1 || !slices.Equal(g.Blocks(), []int{2, 3}) {
		t.Error(g.Stored(), g.Sessions(), g.Blocks())
	}
	if g.Follows(id) || g.Waiting(id) != 0 || len(g.Queue(id)) != 0 {
		t.Error("not forgotten")
	}
	if !g.Follows(other) || g.Waiting(other) != 1 || len(g.Queue(other)) != 1 {
		t.Error("another one is forgotten")
	}
	fails(t, arrive(t, g, out), id, 2, api.ErrSession)
}

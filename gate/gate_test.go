package gate_test

import (
	"math"
	"slices"
	"strings"
	"testing"

	"guilloche/api"
	"guilloche/frame"
	"guilloche/gate"
	"guilloche/lease"
)

// usual has room for all that most tests do.
var usual = gate.Config{Window: 2, Room: 300, Cached: 4, Sessions: 4, Term: 100, Queue: 4, Net: 64}

func newGate(t *testing.T, c gate.Config) *gate.Gate {
	t.Helper()
	g, err := gate.New(c)
	if g == nil || err != api.OK {
		t.Fatal(err)
	}
	return g
}

func put(key, value string) api.Change { return api.Change{Key: key, Value: value} }

// commit commits what must be taken.
func commit(t *testing.T, g *gate.Gate, l ...api.Change) int {
	t.Helper()
	s := g.Do(api.Act{Kind: 1, Changes: l})
	if s.Err != api.OK || s.Ran || len(s.Sent) != 0 || s.Got != "" || s.Ask != (api.Ask{}) {
		t.Fatal(s)
	}
	return s.Block
}

// arrive lets an ask come to the gate.
func arrive(t *testing.T, g *gate.Gate, a api.Ask) gate.Step {
	t.Helper()
	if s := g.Do(api.Act{Ask: a}); !same(s, gate.Step{}) {
		t.Fatal(s)
	}
	return g.Do(api.Act{Kind: 3, N: len(g.Up()) - 1})
}

// queued lets an ask come that must be put into a queue.
func queued(t *testing.T, g *gate.Gate, a api.Ask) {
	t.Helper()
	if s := arrive(t, g, a); !same(s, gate.Step{}) {
		t.Fatal(a, s)
	}
}

// ran picks a queue's first ask, and tells the reply.
func ran(t *testing.T, g *gate.Gate, want api.Ask) api.Reply {
	t.Helper()
	s := g.Do(api.Act{Kind: 2, N: want.Session})
	if s.Err != api.OK || !s.Ran || s.Ask != want || len(s.Sent) == 0 || s.Block != 0 || s.Got != "" {
		t.Fatal(s)
	}
	return reply(t, s.Sent[0])
}

// asked lets an ask come, and runs it.
func asked(t *testing.T, g *gate.Gate, a api.Ask) api.Reply {
	t.Helper()
	queued(t, g, a)
	return ran(t, g, a)
}

func reply(t *testing.T, text string) api.Reply {
	t.Helper()
	r, err := frame.GetReply(text)
	if err != api.OK {
		t.Fatalf("%q is no reply", text)
	}
	return r
}

// opened opens a session of the newest version.
func opened(t *testing.T, g *gate.Gate, seq int) int {
	t.Helper()
	r := asked(t, g, api.Ask{Seq: seq, At: -1})
	if r.Err != api.OK {
		t.Fatal(r)
	}
	return r.Session
}

func same(a, b gate.Step) bool {
	return a.Err == b.Err && a.Block == b.Block && a.Ran == b.Ran && a.Ask == b.Ask && slices.Equal(a.Sent, b.Sent) && a.Got == b.Got
}

// fails tells that a step did nothing but that one reply was emitted that tells an error.
func fails(t *testing.T, s gate.Step, session, seq int, err api.Errno) {
	t.Helper()
	want, _ := frame.PutReply(api.Reply{Session: session, Seq: seq, Err: err})
	if !same(s, gate.Step{Sent: []string{want}}) {
		t.Errorf("%v, %q; want %d of %d: %v", s.Err, s.Sent, seq, session, err)
	}
}

func TestExample(t *testing.T) {
	g := newGate(t, usual)
	a := api.Ask{Seq: 1, At: -1}
	g.Do(api.Act{Ask: a})
	g.Do(api.Act{Kind: 3})
	s := g.Do(api.Act{Kind: 2})
	if len(s.Sent) != 1 || !slices.Equal(g.Down(), s.Sent) {
		t.Fatal(s)
	}
	if r := reply(t, s.Sent[0]); r.Session != 1 || r.Seq != 1 || r.Err != api.OK {
		t.Error(r)
	}
}

func TestNew(t *testing.T) {
	for _, room := range []int{0, -1, math.MinInt} {
		c := usual
		c.Room = room
		if g, err := gate.New(c); g != nil || err != api.ErrFull {
			t.Error(room, err)
		}
	}
	g := newGate(t, usual)
	if g.Clock() != 0 || len(g.Sessions()) != 0 || len(g.Queue(0)) != 0 || !slices.Equal(g.Blocks(), []int{0}) ||
		len(g.Nodes()) != 1 || len(g.Up()) != 0 || len(g.Down()) != 0 || g.Waiting(1) != 0 || g.Follows(1) || g.Stored() != 0 {
		t.Error("not empty")
	}
}

// Each number of a config bounds what it names.
func TestConfig(t *testing.T) {
	for _, x := range []struct{ n, four, eight, net, term int }{{math.MinInt, 1, 1, 1, 1}, {0, 1, 1, 1, 1}, {1, 1, 1, 1, 1}, {3, 3, 3, 3, 3},
		{4, 4, 4, 4, 4}, {5, 4, 5, 5, 5}, {8, 4, 8, 8, 8}, {9, 4, 8, 9, 9}, {64, 4, 8, 64, 64}, {65, 4, 8, 64, 65}, {1000, 4, 8, 64, 1000}, {math.MaxInt, 4, 8, 64, 1000}} {
		g := newGate(t, gate.Config{Window: x.n, Room: 1, Cached: x.n, Sessions: x.n, Term: x.n, Queue: x.n, Net: x.n})
		for i := range 70 {
			if s := g.Do(api.Act{Kind: 7}); (s.Err == api.OK) != (i < x.net) || s.Err != api.OK && s.Err != api.ErrBusy {
				t.Error(x.n, i, s)
			}
		}
		for range 70 {
			g.Do(api.Act{Kind: 3})
		}
		if n := len(g.Down()); n != x.net {
			t.Error(x.n, n)
		}
		for range 10 {
			commit(t, g)
		}
		if n := len(g.Blocks()); n != x.eight {
			t.Error(x.n, n)
		}
		for i := range 6 {
			arrive(t, g, api.Ask{Seq: i + 1, At: -1})
		}
		if n := len(g.Queue(0)); n != x.four {
			t.Error(x.n, n)
		}
		for i := range 12 {
			arrive(t, g, api.Ask{Seq: i + 20, At: -1})
			g.Do(api.Act{Kind: 2})
		}
		if n := len(g.Sessions()); n != x.four {
			t.Error(x.n, n)
		}
		if d := g.Sessions()[0].Deadline; d != x.term {
			t.Error(x.n, d)
		}
		asked(t, g, api.Ask{Kind: 5, Session: 1, Seq: 1})
		for range 6 {
			commit(t, g)
		}
		if n := g.Waiting(1); n != x.four+1 {
			t.Error(x.n, n)
		}
	}
}

func TestOtherKinds(t *testing.T) {
	g := newGate(t, usual)
	for _, kind := range []int{-1, 8, 9, 1 << 40, math.MinInt, math.MaxInt} {
		s := g.Do(api.Act{Kind: kind, Ask: api.Ask{Seq: 1}, N: 1, Text: "x", Changes: []api.Change{put("a", "1")}})
		if !same(s, gate.Step{Err: api.ErrArg}) {
			t.Error(kind, s)
		}
	}
	if len(g.Up()) != 0 || g.Clock() != 0 || !slices.Equal(g.Blocks(), []int{0}) {
		t.Error("something was done")
	}
}

func TestSend(t *testing.T) {
	c := usual
	c.Net = 2
	g := newGate(t, c)
	a := api.Ask{Kind: 4, Session: 7, Seq: 3, Key: "a", To: "b", Limit: 2}
	text, _ := frame.PutAsk(a)
	if s := g.Do(api.Act{Ask: a}); !same(s, gate.Step{}) || !slices.Equal(g.Up(), []string{text}) {
		t.Error(s, g.Up())
	}
	wrong := api.Act{Ask: api.Ask{Kind: 4, Seq: 3}}
	if s := g.Do(wrong); !same(s, gate.Step{Err: api.ErrArg}) {
		t.Error(s)
	}
	long := strings.Repeat("x", api.MaxFrame)
	if s := g.Do(api.Act{Kind: 7, Text: long + "x"}); !same(s, gate.Step{Err: api.ErrLarge}) {
		t.Error(s.Err)
	}
	if s := g.Do(api.Act{Kind: 7, Text: long}); !same(s, gate.Step{}) || !slices.Equal(g.Up(), []string{text, long}) {
		t.Error(s)
	}
	// There is no room any more; that is told last.
	for _, x := range []struct {
		act api.Act
		err api.Errno
	}{{api.Act{Ask: a}, api.ErrBusy}, {api.Act{Kind: 7, Text: "x"}, api.ErrBusy}, {wrong, api.ErrArg}, {api.Act{Kind: 7, Text: long + "x"}, api.ErrLarge}} {
		if s := g.Do(x.act); !same(s, gate.Step{Err: x.err}) {
			t.Error(s)
		}
	}
	if !slices.Equal(g.Up(), []string{text, long}) || len(g.Down()) != 0 {
		t.Error("something else was done")
	}
}

func TestCommit(t *testing.T) {
	c := usual
	c.Room = 3
	g := newGate(t, c)
	if n := commit(t, g, put("a", "1")); n != 1 {
		t.Error(n)
	}
	id := opened(t, g, 1)
	asked(t, g, api.Ask{Kind: 5, Session: id, Seq: 1})
	var many []api.Change
	for i := range 41 {
		many = append(many, put(string([]byte{'k', byte(i)}), "v"))
	}
	nodes := g.Nodes()
	for _, x := range []struct {
		l   []api.Change
		err api.Errno
	}{{[]api.Change{put("", "1")}, api.ErrArg}, {many[:40], api.ErrMany}, {many[:39], api.ErrFull}} {
		if s := g.Do(api.Act{Kind: 1, Changes: x.l}); !same(s, gate.Step{Err: x.err}) {
			t.Error(s)
		}
	}
	if g.Waiting(id) != 0 || !slices.Equal(g.Blocks(), []int{0, 1}) || !slices.Equal(g.Nodes(), nodes) {
		t.Error("a commit that fails did something")
	}
	if n := commit(t, g, put("a", "1")); n != 2 || g.Waiting(id) != 1 {
		t.Error(n)
	}
}

// Asks are picked ahead of notices.
func TestPick(t *testing.T) {
	g := newGate(t, usual)
	id := opened(t, g, 1)
	asked(t, g, api.Ask{Kind: 5, Session: id, Seq: 1})
	commit(t, g, put("a", "1"), put("b", "2"))
	commit(t, g, put("b", "3"))
	first := api.Ask{Kind: 8, Session: id, Seq: 2}
	second := api.Ask{Kind: 8, Session: id, Seq: 5}
	queued(t, g, first)
	queued(t, g, second)
	if !slices.Equal(g.Queue(id), []api.Ask{first, second}) {
		t.Error(g.Queue(id))
	}
	ran(t, g, first)
	if !slices.Equal(g.Queue(id), []api.Ask{second}) {
		t.Error(g.Queue(id))
	}
	ran(t, g, second)
	for i, want := range []api.Notice{
		{Session: id, Block: 1, Changes: []api.Change{put("a", "1"), put("b", "2")}},
		{Session: id, Block: 2, Changes: []api.Change{put("b", "3")}},
	} {
		down := g.Down()
		s := g.Do(api.Act{Kind: 2, N: id})
		if s.Err != api.OK || s.Ran || s.Ask != (api.Ask{}) || len(s.Sent) != 1 || !slices.Equal(g.Down(), append(down, s.Sent...)) {
			t.Fatal(s)
		}
		n, err := frame.GetNotice(s.Sent[0])
		if n.Session != want.Session || n.Block != want.Block || n.Err != api.OK || len(n.Root) != 32 || !slices.Equal(n.Changes, want.Changes) || err != api.OK {
			t.Error(i, n)
		}
	}
	for _, n := range []int{id, 0, -1, 2, 1 << 40, math.MinInt, math.MaxInt} {
		if s := g.Do(api.Act{Kind: 2, N: n}); !same(s, gate.Step{Err: api.ErrNone}) {
			t.Error(n, s)
		}
	}
}

// From 0 on frames on their way to the gate are named, below those from it.
func TestPlaces(t *testing.T) {
	c := usual
	c.Net = 3
	lay := func() *gate.Gate {
		g := newGate(t, c)
		for _, text := range []string{"x", "y", "z"} {
			g.Do(api.Act{Kind: 7, Text: text})
		}
		// What is no ask is answered: that is on its way from it.
		g.Do(api.Act{Kind: 3, N: 1})
		for i := range 2 {
			queued(t, g, api.Ask{Seq: i + 1, At: -1})
			ran(t, g, api.Ask{Seq: i + 1, At: -1})
		}
		return g
	}
	g := lay()
	down := g.Down()
	if !slices.Equal(g.Up(), []string{"x", "z"}) || len(down) != 3 {
		t.Fatal(g.Up(), down)
	}
	for _, kind := range []int{3, 4, 5} {
		for _, n := range []int{2, 3, 64, -4, -5, -65, math.MinInt, math.MaxInt, math.MinInt + 1} {
			g := lay()
			if s := g.Do(api.Act{Kind: kind, N: n}); !same(s, gate.Step{Err: api.ErrNone}) || !slices.Equal(g.Up(), []string{"x", "z"}) || !slices.Equal(g.Down(), down) {
				t.Error(kind, n, s)
			}
		}
	}
	if s := g.Do(api.Act{Kind: 3, N: -2}); !same(s, gate.Step{Got: down[1]}) || !slices.Equal(g.Down(), []string{down[0], down[2]}) {
		t.Error(s)
	}
	if s := g.Do(api.Act{Kind: 3, N: -1}); !same(s, gate.Step{Got: down[0]}) || !slices.Equal(g.Down(), down[2:]) {
		t.Error(s)
	}
	g = lay()
	if s := g.Do(api.Act{Kind: 4, N: -3}); !same(s, gate.Step{}) || !slices.Equal(g.Down(), down[:2]) || len(g.Up()) != 2 {
		t.Error(s)
	}
	if s := g.Do(api.Act{Kind: 4, N: 0}); !same(s, gate.Step{}) || !slices.Equal(g.Up(), []string{"z"}) || len(g.Down()) != 2 {
		t.Error(s)
	}
	if s := g.Do(api.Act{Kind: 5, N: -1}); !same(s, gate.Step{}) || !slices.Equal(g.Down(), []string{down[0], down[1], down[0]}) {
		t.Error(s)
	}
	// There is no room for one more.
	if s := g.Do(api.Act{Kind: 5, N: -1}); !same(s, gate.Step{Err: api.ErrNone}) || len(g.Down()) != 3 {
		t.Error(s)
	}
	if s := g.Do(api.Act{Kind: 5, N: 0}); !same(s, gate.Step{}) || !slices.Equal(g.Up(), []string{"z", "z"}) {
		t.Error(s)
	}
	// What is emitted is told, and lost without room.
	fails(t, g.Do(api.Act{Kind: 3}), 0, 0, api.ErrMalformed)
	if len(g.Down()) != 3 || !slices.Equal(g.Up(), []string{"z"}) {
		t.Error(g.Down())
	}
}

func TestTick(t *testing.T) {
	g := newGate(t, usual)
	for _, n := range []int{0, -1, 1001, 1 << 40, math.MinInt, math.MaxInt} {
		if s := g.Do(api.Act{Kind: 6, N: n}); !same(s, gate.Step{Err: api.ErrArg}) || g.Clock() != 0 {
			t.Error(n, s)
		}
	}
	for _, x := range []struct{ n, clock int }{{1, 1}, {1000, 1001}, {7, 1008}} {
		if s := g.Do(api.Act{Kind: 6, N: x.n}); !same(s, gate.Step{}) || g.Clock() != x.clock {
			t.Error(x.n, s)
		}
	}
}

func TestLastTick(t *testing.T) {
	g := newGate(t, usual)
	const last = 1 << 30
	for g.Clock() <= last-1000 {
		g.Do(api.Act{Kind: 6, N: 1000})
	}
	left := last - g.Clock()
	for _, n := range []int{left + 1, 1000} {
		if s := g.Do(api.Act{Kind: 6, N: n}); !same(s, gate.Step{Err: api.ErrMany}) || g.Clock() != last-left {
			t.Error(n, s)
		}
	}
	if s := g.Do(api.Act{Kind: 6, N: left}); !same(s, gate.Step{}) || g.Clock() != last {
		t.Error(s)
	}
	if s := g.Do(api.Act{Kind: 6, N: 1}); !same(s, gate.Step{Err: api.ErrMany}) || g.Clock() != last {
		t.Error(s)
	}
	if s := g.Do(api.Act{Kind: 6, N: 1001}); !same(s, gate.Step{Err: api.ErrArg}) {
		t.Error(s)
	}
}

// What ends lets go its pin, its asks, and its notices, session by session.
func TestExpire(t *testing.T) {
	c := usual
	c.Window, c.Term = 1, 10
	g := newGate(t, c)
	commit(t, g, put("a", "1"))
	one := opened(t, g, 1)
	commit(t, g, put("a", "2"))
	two := opened(t, g, 2)
	asked(t, g, api.Ask{Kind: 5, Session: one, Seq: 1})
	asked(t, g, api.Ask{Kind: 5, Session: two, Seq: 1})
	commit(t, g, put("a", "3"))
	g.Do(api.Act{Kind: 6, N: 5})
	three := opened(t, g, 3)
	asked(t, g, api.Ask{Kind: 5, Session: three, Seq: 1})
	for i, id := range []int{two, one, three} {
		queued(t, g, api.Ask{Kind: 8, Session: id, Seq: 5 + i})
		queued(t, g, api.Ask{Kind: 8, Session: id, Seq: 9})
	}
	queued(t, g, api.Ask{Seq: 4, At: -1})
	if s := g.Do(api.Act{Kind: 6, N: 4}); !same(s, gate.Step{}) || len(g.Sessions()) != 3 {
		t.Error(s)
	}
	stored := g.Stored()
	down := g.Down()
	s := g.Do(api.Act{Kind: 6, N: 1})
	var want []string
	for _, x := range []struct{ id, seq int }{{one, 6}, {one, 9}, {two, 5}, {two, 9}} {
		text, _ := frame.PutReply(api.Reply{Session: x.id, Seq: x.seq, Err: api.ErrExpired})
		want = append(want, text)
	}
	if !same(s, gate.Step{Sent: want}) || !slices.Equal(g.Down(), append(down, want...)) {
		t.Error(s)
	}
	if l := g.Sessions(); len(l) != 1 || l[0] != (lease.Session{Id: three, Block: 3, Deadline: 15, Last: 1}) {
		t.Error(l)
	}
	if !slices.Equal(g.Blocks(), []int{3}) || len(g.Nodes()) != 1 || g.Stored() != stored-2 {
		t.Error(g.Blocks(), g.Stored())
	}
	for _, id := range []int{one, two} {
		if g.Waiting(id) != 0 || g.Follows(id) || len(g.Queue(id)) != 0 {
			t.Error(id)
		}
	}
	if !g.Follows(three) || len(g.Queue(three)) != 2 || len(g.Queue(0)) != 1 {
		t.Error("what goes on is disturbed")
	}
}

// What is answered shares nothing with what is kept.
func TestAnswersAreApart(t *testing.T) {
	g := newGate(t, usual)
	id := opened(t, g, 1)
	asked(t, g, api.Ask{Kind: 5, Session: id, Seq: 1})
	l := []api.Change{put("a", "1")}
	commit(t, g, l...)
	clear(l)
	queued(t, g, api.Ask{Kind: 8, Session: id, Seq: 2})
	g.Do(api.Act{Kind: 7, Text: "x"})
	tell := func() string {
		return strings.Join(slices.Concat(g.Nodes(), g.Up(), g.Down()), "/")
	}
	before := tell()
	clear(g.Queue(id))
	clear(g.Sessions())
	clear(g.Blocks())
	clear(g.Nodes())
	clear(g.Up())
	clear(g.Down())
	if tell() != before || g.Queue(id)[0].Seq != 2 || g.Sessions()[0].Id != id || !slices.Equal(g.Blocks(), []int{0, 1}) {
		t.Error("changed")
	}
	ran(t, g, api.Ask{Kind: 8, Session: id, Seq: 2})
	s := g.Do(api.Act{Kind: 2, N: id})
	if n, err := frame.GetNotice(s.Sent[0]); !slices.Equal(n.Changes, []api.Change{put("a", "1")}) || err != api.OK {
		t.Error(n, err)
	}
}

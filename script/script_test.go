package script_test

import (
	"math"
	"slices"
	"strings"
	"testing"

	"guilloche/api"
	"guilloche/canon"
	"guilloche/frame"
	"guilloche/gate"
	"guilloche/script"
)

var usual = gate.Config{Window: 2, Room: 300, Cached: 4, Sessions: 4, Term: 100, Queue: 4, Net: 64}

func put(key, value string) api.Change { return api.Change{Key: key, Value: value} }

func e(key, value string) api.Entry { return api.Entry{Key: key, Value: value} }

func root(l ...api.Entry) string {
	text, _ := canon.Root(l)
	return text
}

// block is an act that commits.
func block(l ...api.Change) api.Act { return api.Act{Kind: 1, Changes: l} }

// asks are the acts by which an ask is sent, arrives, and is run.
func asks(a api.Ask) []api.Act { return []api.Act{{Ask: a}, {Kind: 3}, {Kind: 2, N: a.Session}} }

func run(t *testing.T, c gate.Config, rows ...[]api.Act) script.Trace {
	t.Helper()
	got, err := script.Run(c, slices.Concat(rows...))
	if err != api.OK {
		t.Fatal(err)
	}
	return got
}

func put1(r api.Reply) string {
	text, _ := frame.PutReply(r)
	return text
}

func TestExample(t *testing.T) {
	got := run(t, usual, []api.Act{block(put("a", "1"))}, asks(api.Ask{Seq: 1, At: -1}), asks(api.Ask{Kind: 1, Session: 1, Seq: 1, Key: "a"}))
	if len(got.Ops) != 3 {
		t.Error(got.Ops)
	}
	want := []string{
		put1(api.Reply{Session: 1, Seq: 1, Version: 1, Root: root(e("a", "1"))}),
		put1(api.Reply{Session: 1, Seq: 1, Version: 1, Root: root(e("a", "1")), Entries: []api.Entry{e("a", "1")}}),
	}
	l, err := script.Replay(usual, got.Ops)
	if !slices.Equal(l, want) || err != api.OK || !slices.Equal(got.Sent, want) {
		t.Errorf("%q, %v", l, err)
	}
}

func TestNoGate(t *testing.T) {
	for _, room := range []int{0, -1, math.MinInt} {
		c := usual
		c.Room = room
		got, err := script.Run(c, asks(api.Ask{Seq: 1, At: -1}))
		if !script.Same(got, script.Trace{}) || err != api.ErrFull {
			t.Error(got, err)
		}
	}
	if got := run(t, usual); !script.Same(got, script.Trace{}) {
		t.Error(got)
	}
}

// Each act's step is told, and what was sent and got in all.
func TestRun(t *testing.T) {
	l := slices.Concat([]api.Act{block(put("a", "1")), {Kind: 7, Text: "x"}, {Kind: 3}, {Kind: 9}, {Kind: 3, N: -1}, {Kind: 3, N: -1}},
		asks(api.Ask{Seq: 1, At: -1}), []api.Act{{Kind: 6, N: 7}}, asks(api.Ask{Kind: 5, Session: 1, Seq: 1}),
		[]api.Act{block(put("b", "2")), {Kind: 2, N: 1}, {Kind: 3, N: -2}, {Kind: 6, N: 3}})
	g, _ := gate.New(usual)
	var want script.Trace
	for _, a := range l {
		s := g.Do(a)
		want.Steps = append(want.Steps, s)
		want.Sent = append(want.Sent, s.Sent...)
		if s.Got != "" {
			want.Got = append(want.Got, s.Got)
		}
	}
	got := run(t, usual, l)
	want.Ops, want.Clock = got.Ops, 10
	if !script.Same(got, want) || len(got.Sent) != 4 || len(got.Got) != 2 {
		t.Error(got)
	}
}

func sameOps(a, b []script.Op) bool {
	return script.Same(script.Trace{Ops: a}, script.Trace{Ops: b})
}

func TestOps(t *testing.T) {
	c := usual
	c.Term, c.Sessions = 10, 3
	l := slices.Concat([]api.Act{block(put("", "1")), block(put("a", "1"), put("a", "2")), {Kind: 6, N: 1}}, asks(api.Ask{Seq: 1, At: -1}), asks(api.Ask{Seq: 2, At: 5}),
		asks(api.Ask{Seq: 3, At: 0}), []api.Act{{Kind: 6, N: 2}}, asks(api.Ask{Seq: 4, At: -1}), []api.Act{{Kind: 6, N: 0}, {Kind: 6, N: 8}, {Kind: 6, N: 1}}, asks(api.Ask{Kind: 8, Session: 2, Seq: 9}),
		[]api.Act{{Kind: 2, N: 3}, {Kind: 6, N: 1}})
	got := run(t, c, l)
	first, second := root(), root(e("a", "2"))
	want := []script.Op{
		{Commit: true, Changes: []api.Change{put("a", "1"), put("a", "2")}},
		{Ask: api.Ask{Seq: 1, At: -1}, Reply: put1(api.Reply{Session: 1, Seq: 1, Version: 1, Root: second})},
		{Ask: api.Ask{Seq: 2, At: 5}, Reply: put1(api.Reply{Seq: 2, Err: api.ErrRoot})},
		{Ask: api.Ask{Seq: 3, At: 0}, Reply: put1(api.Reply{Session: 2, Seq: 3, Root: first})},
		{Ask: api.Ask{Seq: 4, At: -1}, Reply: put1(api.Reply{Session: 3, Seq: 4, Version: 1, Root: second})},
		{Ended: []int{1, 2}},
		{Ended: []int{3}},
	}
	if !sameOps(got.Ops, want) {
		t.Errorf("%v", got.Ops)
	}
}

// Of what an ask sent the first frame is its reply.
func TestReplyIsTheFirst(t *testing.T) {
	got := run(t, usual, asks(api.Ask{Seq: 1, At: -1}), []api.Act{{Ask: api.Ask{Kind: 9, Session: 1, Seq: 1}}, {Ask: api.Ask{Kind: 8, Session: 1, Seq: 2}}, {Kind: 3}, {Kind: 3}, {Kind: 2, N: 1}})
	if len(got.Ops) != 2 || len(got.Sent) != 3 || got.Ops[1].Reply != put1(api.Reply{Session: 1, Seq: 1, Root: root()}) {
		t.Error(got.Ops)
	}
}

func TestTraceIsApart(t *testing.T) {
	l := slices.Concat([]api.Act{block(put("a", "1"))}, asks(api.Ask{Seq: 1, At: -1}))
	got := run(t, usual, l)
	sent := slices.Clone(got.Sent)
	l[0].Changes[0].Key = "b"
	got.Steps[3].Sent[0] = "x"
	if got.Ops[0].Changes[0].Key != "a" || !slices.Equal(got.Sent, sent) {
		t.Error("changed")
	}
	// Nor does it change what it is given.
	if l[0].Changes[0] != put("b", "1") || l[1].Ask != (api.Ask{Seq: 1, At: -1}) {
		t.Error(l)
	}
}

func TestCount(t *testing.T) {
	notice, _ := frame.PutNotice(api.Notice{Session: 1, Err: api.ErrLagged})
	ask, _ := frame.PutAsk(api.Ask{Seq: 1})
	got := script.Trace{
		Sent: []string{put1(api.Reply{Err: 2}), notice, put1(api.Reply{Session: 3}), "", ask, put1(api.Reply{Err: 2, Seq: 5}), put1(api.Reply{Err: 11})},
		Got:  []string{put1(api.Reply{Err: 2})},
	}
	for err, want := range map[api.Errno]int{0: 1, 2: 2, 11: 1, 3: 0, 12: 0, 13: 0, -1: 0} {
		if n := script.Count(got, err); n != want {
			t.Errorf("Count(%d) = %d; want %d", int(err), n, want)
		}
	}
	if n := script.Count(script.Trace{}, 0); n != 0 {
		t.Error(n)
	}
}

func TestTail(t *testing.T) {
	l := []api.Act{block(put("a", "1")), {Kind: 2, N: 77}}
	for _, x := range []struct{ sessions, rounds, picks, times int }{
		{0, 1, 1, 1}, {2, 1, 3, 1}, {2, 3, 3, 3}, {8, 8, 9, 8}, {9, 9, 9, 8}, {math.MaxInt, math.MaxInt, 9, 8},
		{-1, 3, 0, 3}, {math.MinInt, 3, 0, 3}, {3, 0, 4, 0}, {3, -1, 4, 0}, {3, math.MinInt, 4, 0},
	} {
		got := script.Tail(l, x.sessions, x.rounds)
		if len(got) != 2+x.picks*x.times || !slices.Equal(got[0].Changes, l[0].Changes) || got[1].N != 77 {
			t.Fatal(x, got)
		}
		for i, a := range got[2:] {
			if a.Kind != 2 || a.N != i%x.picks || a.Text != "" || a.Ask != (api.Ask{}) || len(a.Changes) != 0 {
				t.Fatal(x, a)
			}
		}
		got[0].Changes[0].Key = "x"
		got[1].N = 78
	}
	if l[0].Changes[0].Key != "a" || l[1].N != 77 {
		t.Error("changed")
	}
	if got := script.Tail(nil, 0, 0); len(got) != 0 {
		t.Error(got)
	}
}

func TestSilent(t *testing.T) {
	var l []api.Act
	for kind := -1; kind <= 9; kind++ {
		for _, n := range []int{0, -1, 5, math.MinInt, math.MaxInt} {
			l = append(l, api.Act{Kind: kind, N: n, Changes: []api.Change{put("a", "1")}})
		}
	}
	got := script.Silent(l)
	at := 0
	for i, a := range l {
		if a.Kind >= 3 && a.Kind <= 5 && a.N < 0 {
			continue
		}
		if got[at].Kind != a.Kind || got[at].N != a.N || !slices.Equal(got[at].Changes, a.Changes) {
			t.Fatal(i, got[at])
		}
		got[at].Changes[0].Key = "x"
		at++
	}
	if at != len(got) || len(l) != 55 {
		t.Error(at, len(got))
	}
	for _, a := range l {
		if a.Changes[0].Key != "a" {
			t.Fatal("changed")
		}
	}
}

func TestSame(t *testing.T) {
	whole := func() script.Trace {
		return script.Trace{
			Steps: []gate.Step{{Sent: []string{"x"}}, {Block: 1}},
			Ops:   []script.Op{{Commit: true, Changes: []api.Change{put("a", "1")}}, {Ended: []int{1, 2}}},
			Sent:  []string{"x"}, Got: []string{"y"}, Clock: 3,
		}
	}
	if !script.Same(whole(), whole()) || !script.Same(script.Trace{}, script.Trace{}) {
		t.Error("not alike")
	}
	empty := script.Trace{Steps: []gate.Step{}, Ops: []script.Op{}, Sent: []string{}, Got: []string{}}
	if !script.Same(empty, script.Trace{}) {
		t.Error("none is not none")
	}
	for i, change := range []func(*script.Trace){
		func(x *script.Trace) { x.Steps = x.Steps[:1] },
		func(x *script.Trace) { x.Steps[0].Err = 1 },
		func(x *script.Trace) { x.Steps[0].Block = 1 },
		func(x *script.Trace) { x.Steps[0].Ran = true },
		func(x *script.Trace) { x.Steps[0].Ask.Seq = 1 },
		func(x *script.Trace) { x.Steps[0].Sent[0] = "z" },
		func(x *script.Trace) { x.Steps[0].Sent = nil },
		func(x *script.Trace) { x.Steps[0].Got = "z" },
		func(x *script.Trace) { x.Ops = x.Ops[:1] },
		func(x *script.Trace) { x.Ops[0].Commit = false },
		func(x *script.Trace) { x.Ops[0].Changes[0].Gone = true },
		func(x *script.Trace) { x.Ops[0].Changes = nil },
		func(x *script.Trace) { x.Ops[1].Ended[1] = 3 },
		func(x *script.Trace) { x.Ops[1].Ended = nil },
		func(x *script.Trace) { x.Ops[0].Ask.Key = "z" },
		func(x *script.Trace) { x.Ops[0].Reply = "z" },
		func(x *script.Trace) { x.Sent[0] = "z" },
		func(x *script.Trace) { x.Sent = append(x.Sent, "x") },
		func(x *script.Trace) { x.Got[0] = "z" },
		func(x *script.Trace) { x.Got = nil },
		func(x *script.Trace) { x.Clock = 4 },
	} {
		other := whole()
		change(&other)
		if script.Same(whole(), other) || script.Same(other, whole()) {
			t.Error(i, "is not seen")
		}
	}
}

// A text as long as a value may be.
func long(s string) string { return strings.Repeat(s, 80/len(s)) }

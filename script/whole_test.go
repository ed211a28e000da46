package script_test

import (
	"math/rand"
	"slices"
	"strings"
	"testing"

	"guilloche/api"
	"guilloche/canon"
	"guilloche/frame"
	"guilloche/gate"
	"guilloche/script"
	"guilloche/wire"
)

func reply(t *testing.T, text string) api.Reply {
	t.Helper()
	r, err := frame.GetReply(text)
	if err != api.OK {
		t.Fatalf("%q is no reply", text)
	}
	return r
}

var keys = []string{"a", "ab", "abc", "b", "ba", "c", "\x00", "\xff\xff", "abcdef", "abcdeg", "x"}

// writer makes up blocks; some may not be.
func writer(r *rand.Rand) []api.Change {
	var l []api.Change
	for range r.Intn(5) {
		key := keys[r.Intn(len(keys))]
		if r.Intn(30) == 0 {
			key = ""
		}
		if r.Intn(3) == 0 {
			l = append(l, api.Change{Key: key, Gone: true})
		} else {
			l = append(l, put(key, strings.Repeat(string([]byte{byte('a' + r.Intn(3))}), 1+r.Intn(80))))
		}
	}
	return l
}

// maker makes up scripts: it does them as it goes, to ask of sessions that there are.
type maker struct {
	*rand.Rand
	gate *gate.Gate
	next int
}

// session is one that there is, most times.
func (m *maker) session() int {
	if l := m.gate.Sessions(); len(l) > 0 && m.Intn(12) > 0 {
		return l[m.Intn(len(l))].Id
	}
	return 1 + m.Intn(9)
}

// ask makes up an ask; some are late.
func (m *maker) ask() api.Ask {
	m.next++
	a := api.Ask{Kind: 1 + m.Intn(8), Session: m.session(), Seq: max(1, m.next-m.Intn(3)*m.Intn(3))}
	if len(m.gate.Sessions()) == 0 || m.Intn(10) == 0 {
		a.Kind = m.Intn(2) * 9
	}
	key := keys[m.Intn(len(keys))]
	switch a.Kind {
	case 0:
		a.Session, a.At = 0, max(-1, m.Intn(30)-10)
	case 1, 3:
		a.Key = key
	case 2:
		a.Key, a.Limit = key, 1+m.Intn(8)
	case 4:
		a.Key, a.To, a.Limit = key, keys[m.Intn(len(keys))], 1+m.Intn(8)
	case 7:
		a.At = max(-1, m.Intn(30)-10)
	}
	return a
}

// act makes up an act.
func (m *maker) act() api.Act {
	switch m.Intn(20) {
	case 0, 1, 2, 3, 4:
		return api.Act{Ask: m.ask()}
	case 5:
		return block(writer(m.Rand)...)
	case 6, 7, 8, 9, 10:
		return api.Act{Kind: 2, N: m.Intn(2) * m.session()}
	case 11, 12, 13, 14, 15:
		return api.Act{Kind: 3, N: m.Intn(4) - m.Intn(3)}
	case 16:
		return api.Act{Kind: 4, N: m.Intn(8) - 6}
	case 17:
		return api.Act{Kind: 5, N: m.Intn(8) - 4}
	case 18:
		return api.Act{Kind: 6, N: m.Intn(3)}
	}
	return api.Act{Kind: 7, Text: strings.Repeat("\xc0", m.Intn(4))}
}

// made is a script of all that may happen.
func made(r *rand.Rand, c gate.Config, n int) []api.Act {
	g, _ := gate.New(c)
	m := &maker{r, g, 0}
	var l []api.Act
	for range n {
		l = append(l, m.act())
		g.Do(l[len(l)-1])
	}
	return l
}

func config(r *rand.Rand) gate.Config {
	return gate.Config{Window: r.Intn(5), Room: 5 + r.Intn(80), Cached: r.Intn(6), Sessions: r.Intn(6), Term: 3 + r.Intn(20), Queue: r.Intn(6), Net: 1 + r.Intn(20)}
}

// Whatever the network, the queues and the clock do: it might have been done one by one.
func TestOneByOne(t *testing.T) {
	kinds := map[int]int{}
	for seed := range 150 {
		r := rand.New(rand.NewSource(int64(seed)))
		c := config(r)
		l := made(r, c, 500)
		got := run(t, c, l)
		if again := run(t, c, l); !script.Same(got, again) {
			t.Fatal("not the same, done again")
		}
		var want []string
		for _, op := range got.Ops {
			if op.Reply != "" {
				want = append(want, op.Reply)
				kinds[op.Ask.Kind]++
			}
		}
		sent, err := script.Replay(c, got.Ops)
		if err != api.OK || !slices.Equal(sent, want) {
			for i := range want {
				if sent[i] != want[i] {
					t.Fatalf("seed %d: %v; one by one %v", seed, reply(t, want[i]), reply(t, sent[i]))
				}
			}
			t.Fatal(seed, err)
		}
		// What becomes of frames from the gate changes nothing there.
		if silent := run(t, c, script.Silent(l)); !sameOps(silent.Ops, got.Ops) || !slices.Equal(silent.Sent, got.Sent) || len(silent.Got) != 0 {
			t.Fatal(seed, "frames on their way down did something")
		}
		// What is got was sent.
		for _, text := range got.Got {
			if !slices.Contains(got.Sent, text) {
				t.Fatal(seed, "got what was not sent")
			}
		}
	}
	for kind := range 10 {
		if kinds[kind] < 50 {
			t.Errorf("of kind %d only %d were run", kind, kinds[kind])
		}
	}
}

// A reply tells what the version has that is pinned, or fails by an error of the gate's.
func TestRepliesAreTrue(t *testing.T) {
	known := []api.Errno{api.OK, api.ErrMalformed, api.ErrRoot, api.ErrSession, api.ErrExpired, api.ErrBusy, api.ErrLarge}
	proved, told := 0, 0
	for seed := range 60 {
		r := rand.New(rand.NewSource(int64(seed) + 1000))
		c := config(r)
		l := made(r, c, 400)
		got := run(t, c, l)
		all := [][]api.Entry{nil}
		asked := map[api.Ask]api.Ask{}
		for _, op := range got.Ops {
			if op.Commit {
				m, _ := canon.Apply(all[len(all)-1], op.Changes)
				all = append(all, m)
				continue
			}
			asked[api.Ask{Session: op.Ask.Session, Seq: op.Ask.Seq}] = op.Ask
		}
		for _, text := range got.Sent {
			if frame.Kind(text) != 1 {
				continue
			}
			x := reply(t, text)
			if !slices.Contains(known, x.Err) {
				t.Fatal(x.Err)
			}
			if x.Err != api.OK {
				if text != put1(api.Reply{Session: x.Session, Seq: x.Seq, Err: x.Err}) {
					t.Fatal("one that fails tells more")
				}
				continue
			}
			m := all[x.Version]
			if x.Root != root(m...) {
				t.Fatal("another root")
			}
			for _, e := range x.Entries {
				if v, ok := canon.Find(m, e.Key); v != e.Value || !ok {
					t.Fatal("another value")
				}
				told++
			}
			if x.Proof == "" {
				continue
			}
			p, _ := wire.Get(x.Proof)
			believed, err := wire.Judge(p)
			if err != api.OK || p.Root != x.Root || p.Key != asked[api.Ask{Session: x.Session, Seq: x.Seq}].Key {
				t.Fatal("not believed", err)
			}
			for _, e := range believed {
				if v, ok := canon.Find(m, e.Key); v != e.Value || !ok {
					t.Fatal("what is believed is not true")
				}
			}
			proved++
		}
	}
	if proved < 100 || told < 100 {
		t.Error(proved, told)
	}
}

// An ask is run once, however often its frame comes.
func TestRunOnce(t *testing.T) {
	for seed := range 60 {
		r := rand.New(rand.NewSource(int64(seed) + 2000))
		c := config(r)
		got := run(t, c, made(r, c, 400))
		once := map[api.Ask]int{}
		for _, op := range got.Ops {
			name := api.Ask{Session: op.Ask.Session, Seq: op.Ask.Seq}
			if once[name]++; name.Session > 0 && once[name] > 1 {
				t.Fatal("run twice", op.Ask)
			}
		}
	}
}

// Notices tell block behind block; each tells what makes its map; where one is missed it is told, and none follows.
func TestNoticesInOrder(t *testing.T) {
	seen, lagged := 0, 0
	for seed := range 60 {
		r := rand.New(rand.NewSource(int64(seed) + 3000))
		c := config(r)
		c.Term, c.Sessions = 1000, 3
		got := run(t, c, script.Tail(made(r, c, 500), 8, 8))
		maps := [][]api.Entry{nil}
		// last is what a session was told last: a block, or that it missed some from then on.
		type last struct {
			block  int
			lagged bool
		}
		lasts := map[int]last{}
		for i, op := range got.Ops {
			if op.Commit {
				m, err := canon.Apply(maps[len(maps)-1], op.Changes)
				if err != api.OK {
					t.Fatal(i, err)
				}
				maps = append(maps, m)
			}
		}
		resumed := map[int]int{}
		for _, s := range got.Steps {
			if s.Ran && s.Ask.Kind == 5 {
				resumed[s.Ask.Session]++
			}
			for _, text := range s.Sent {
				n, err := frame.GetNotice(text)
				if err != api.OK {
					continue
				}
				was := lasts[n.Session]
				if n.Block <= was.block && was != (last{}) {
					t.Fatal("a block behind a later one", n.Block, was)
				}
				if n.Block != was.block+1 && was.block > 0 && resumed[n.Session] < 2 {
					t.Fatal("a block is missed", n.Block, was)
				}
				if was.lagged && resumed[n.Session] < 2 {
					t.Fatal("one follows what was missed")
				}
				lasts[n.Session] = last{n.Block, n.Err != api.OK}
				if n.Err != api.OK {
					lagged++
					continue
				}
				m, err := canon.Apply(maps[n.Block-1], n.Changes)
				if err != api.OK || n.Root != root(m...) || !slices.Equal(m, maps[n.Block]) {
					t.Fatal("it does not make its map")
				}
				seen++
			}
		}
	}
	if seen < 100 || lagged < 5 {
		t.Error(seen, lagged)
	}
}

// Picked often enough, all queues are empty.
func TestTailEmptiesQueues(t *testing.T) {
	waited := 0
	for seed := range 60 {
		r := rand.New(rand.NewSource(int64(seed) + 4000))
		c := config(r)
		l := made(r, c, 100)
		g, _ := gate.New(c)
		for _, a := range l {
			g.Do(a)
		}
		for id := range 9 {
			waited += len(g.Queue(id)) + g.Waiting(id)
		}
		for _, a := range script.Tail(nil, 8, 8) {
			g.Do(a)
		}
		for id := range 9 {
			if n := len(g.Queue(id)) + g.Waiting(id); n != 0 {
				t.Fatal(seed, id, n)
			}
		}
	}
	if waited < 20 {
		t.Error(waited)
	}
}

package script_test

import (
	"math"
	"slices"
	"testing"

	"guilloche/api"
	"guilloche/canon"
	"guilloche/gate"
	"guilloche/script"
	"guilloche/store"
	"guilloche/trie"
	"guilloche/wire"
)

func did(a api.Ask) script.Op { return script.Op{Ask: a} }

func wrote(l ...api.Change) script.Op { return script.Op{Commit: true, Changes: l} }

func over(ids ...int) script.Op { return script.Op{Ended: ids} }

// replies tells that ops are replied to so.
func replies(t *testing.T, c gate.Config, ops []script.Op, want ...api.Reply) {
	t.Helper()
	got, err := script.Replay(c, ops)
	if err != api.OK || len(got) != len(want) {
		t.Fatalf("%d replies, %v; want %d", len(got), err, len(want))
	}
	for i, r := range want {
		if got[i] != put1(r) {
			t.Errorf("reply %d: %q; want %q", i, got[i], put1(r))
		}
	}
}

func TestReplayCommit(t *testing.T) {
	replies(t, usual, nil)
	replies(t, usual, []script.Op{wrote(put("a", "1")), wrote()})
	open := did(api.Ask{Seq: 1, At: -1})
	if got, err := script.Replay(usual, []script.Op{open, wrote(put("a", "1")), wrote(put("", "1")), open}); len(got) != 0 || err != api.ErrArg {
		t.Error(got, err)
	}
	var many []api.Change
	for i := range 41 {
		many = append(many, put(string([]byte{'k', byte(i)}), "v"))
	}
	if got, err := script.Replay(usual, []script.Op{open, wrote(many...)}); len(got) != 0 || err != api.ErrMany {
		t.Error(got, err)
	}
	// There is no store that might be full, and of a config no more counts.
	replies(t, gate.Config{Window: 2, Sessions: 4}, []script.Op{wrote(many[:40]...), open}, api.Reply{Session: 1, Seq: 1, Version: 1, Root: func() string {
		l, _ := canon.Apply(nil, many[:40])
		return root(l...)
	}()})
}

// Of a commit, ends, and an ask the first one counts.
func TestReplayOneOfAll(t *testing.T) {
	open := did(api.Ask{Seq: 1, At: -1})
	both := script.Op{Commit: true, Ended: []int{1}, Ask: api.Ask{Kind: 9, Session: 1, Seq: 2}, Reply: "x"}
	ends := script.Op{Changes: []api.Change{put("", "")}, Ended: []int{1}, Ask: api.Ask{Kind: 9, Session: 2, Seq: 2}}
	asked := script.Op{Changes: []api.Change{put("", "")}, Ask: api.Ask{Kind: 8, Session: 1, Seq: 3}, Reply: "x", Ended: []int{}}
	replies(t, usual, []script.Op{open, both, asked, ends, asked},
		api.Reply{Session: 1, Seq: 1, Root: root()}, api.Reply{Session: 1, Seq: 3, Root: root()}, api.Reply{Session: 1, Seq: 3, Err: api.ErrSession})
}

func TestReplayOpen(t *testing.T) {
	for _, x := range []struct{ sessions, most int }{{math.MinInt, 1}, {0, 1}, {1, 1}, {2, 2}, {4, 4}, {5, 4}, {math.MaxInt, 4}} {
		c := usual
		c.Sessions = x.sessions
		var ops []script.Op
		var want []api.Reply
		for i := range 6 {
			ops = append(ops, did(api.Ask{Seq: i + 1, At: 0}))
			if i < x.most {
				want = append(want, api.Reply{Session: i + 1, Seq: i + 1, Root: root()})
			} else {
				want = append(want, api.Reply{Seq: i + 1, Err: api.ErrBusy})
			}
		}
		// That there is no such version is told first.
		ops = append(ops, did(api.Ask{Seq: 7, At: 1}), over(1), did(api.Ask{Seq: 8, At: -1}))
		want = append(want, api.Reply{Seq: 7, Err: api.ErrRoot}, api.Reply{Session: x.most + 1, Seq: 8, Root: root()})
		replies(t, c, ops, want...)
	}
}

// What is pinned stays as long as it is, and no longer.
func TestReplayPins(t *testing.T) {
	c := usual
	c.Window, c.Sessions = 1, 2
	v := []string{root(), root(e("a", "1")), root(e("a", "2")), root(e("a", "3"))}
	open := func(seq, at int) script.Op { return did(api.Ask{Seq: seq, At: at}) }
	ops := []script.Op{
		open(1, 0), wrote(put("a", "1")), open(2, 0), open(3, -1), over(1, 7, -1, 1), wrote(put("a", "2")),
		open(4, 0), open(5, 1), did(api.Ask{Kind: 9, Session: 2, Seq: 1}), open(6, 1), over(9, 3), open(7, 1), open(8, 0), open(9, -1),
	}
	replies(t, c, ops,
		api.Reply{Session: 1, Seq: 1, Root: v[0]},
		api.Reply{Session: 2, Seq: 2, Root: v[0]},
		api.Reply{Seq: 3, Err: api.ErrBusy},
		api.Reply{Session: 3, Seq: 4, Root: v[0]},
		api.Reply{Seq: 5, Err: api.ErrRoot},
		api.Reply{Session: 2, Seq: 1, Root: v[0]},
		api.Reply{Seq: 6, Err: api.ErrRoot},
		api.Reply{Seq: 7, Err: api.ErrRoot},
		api.Reply{Seq: 8, Err: api.ErrRoot},
		api.Reply{Session: 4, Seq: 9, Version: 2, Root: v[2]},
	)
	// A pin of an open that failed is taken again.
	replies(t, gate.Config{Window: 1, Sessions: 1}, []script.Op{open(1, 0), open(2, 0), over(1), wrote(), open(3, 0)},
		api.Reply{Session: 1, Seq: 1, Root: v[0]}, api.Reply{Seq: 2, Err: api.ErrBusy}, api.Reply{Seq: 3, Err: api.ErrRoot})
	// So is that of a version that a session has no longer.
	repin := func(seq, at int) script.Op { return did(api.Ask{Kind: 7, Session: 1, Seq: seq, At: at}) }
	replies(t, gate.Config{Window: 1, Sessions: 4}, []script.Op{open(1, 0), wrote(put("a", "1")), repin(1, 5), repin(2, 0), repin(3, -1), repin(4, 0), wrote(), repin(5, 1), open(6, 0)},
		api.Reply{Session: 1, Seq: 1, Root: v[0]}, api.Reply{Session: 1, Seq: 1, Err: api.ErrRoot}, api.Reply{Session: 1, Seq: 2, Root: v[0]},
		api.Reply{Session: 1, Seq: 3, Version: 1, Root: v[1]}, api.Reply{Session: 1, Seq: 4, Err: api.ErrRoot}, api.Reply{Session: 1, Seq: 5, Version: 1, Root: v[1]}, api.Reply{Seq: 6, Err: api.ErrRoot})
}

// Each kind of ask is answered by the session's version.
func TestReplayAsks(t *testing.T) {
	all := []api.Entry{e("a", long("1")), e("ab", long("2")), e("b", long("3")), e("c", "4")}
	first := wrote(put("b", long("3")), put("a", long("1")), put("ab", long("2")), put("c", "4"))
	s := store.New(99)
	at, _ := s.Add([]string{"\x80"})
	at, _ = trie.Commit(s, at, first.Changes)
	told := func(seq int, l []api.Entry, more bool) api.Reply {
		return api.Reply{Session: 1, Seq: seq, Version: 1, Root: at, Entries: l, More: more}
	}
	asked := func(kind, seq int, key, to string, limit int) script.Op {
		return did(api.Ask{Kind: kind, Session: 1, Seq: seq, Key: key, To: to, Limit: limit})
	}
	newest := root(append(slices.Clone(all), e("x", "5"))...)
	replies(t, usual, []script.Op{
		first, did(api.Ask{Seq: 1, At: -1}), wrote(put("x", "5")),
		asked(1, 1, "ab", "", 0), asked(1, 2, "x", "", 0), asked(1, 3, "", "", 0),
		asked(2, 4, "", "", 4), asked(2, 5, "", "", 3), asked(2, 6, "aa", "", 1), asked(2, 7, "d", "", 8), asked(2, 8, "b", "", 8),
		asked(5, 9, "", "", 0), asked(6, 10, "", "", 0), asked(8, 11, "", "", 0), asked(4, 12, "b", "ab", 1),
		asked(9, 13, "", "", 0), asked(8, 14, "", "", 0), did(api.Ask{Kind: 1, Session: 2, Seq: 1}),
	},
		told(1, nil, false), told(1, all[1:2], false), told(2, nil, false), told(3, nil, false),
		told(4, all, false), told(5, all[:3], true), told(6, all[1:2], true), told(7, nil, false), told(8, all[2:], false),
		api.Reply{Session: 1, Seq: 9, Version: 2, Root: newest}, told(10, nil, false), told(11, nil, false), api.Reply{Session: 1, Seq: 12, Err: api.ErrMalformed},
		told(13, nil, false), api.Reply{Session: 1, Seq: 14, Err: api.ErrSession}, api.Reply{Session: 2, Seq: 1, Err: api.ErrSession},
	)
}

// What it proves is what a gate proves, and is believed.
func TestReplayProofs(t *testing.T) {
	l := []api.Change{put("a", long("1")), put("ab", long("2")), put("b", long("3")), put("c", "4")}
	rows := [][]api.Act{{block(l...)}, asks(api.Ask{Seq: 1, At: -1}), {block(put("x", "5"))}}
	seq := 0
	for _, key := range []string{"", "a", "ab", "x", "abcdef"} {
		seq++
		rows = append(rows, asks(api.Ask{Kind: 3, Session: 1, Seq: seq, Key: key}))
		for _, to := range []string{"", "ab", "x", "abcdef"} {
			for _, limit := range []int{1, 2, 8} {
				seq++
				rows = append(rows, asks(api.Ask{Kind: 4, Session: 1, Seq: seq, Key: key, To: to, Limit: limit}))
			}
		}
	}
	got := run(t, usual, rows...)
	sent, err := script.Replay(usual, got.Ops)
	if !slices.Equal(sent, got.Sent) || err != api.OK || len(sent) != seq+1 {
		t.Fatal(len(sent), err)
	}
	proved := 0
	for _, text := range sent {
		if r := reply(t, text); r.Proof != "" {
			p, err := wire.Get(r.Proof)
			if _, bad := wire.Judge(p); err != api.OK || bad != api.OK || p.Root != r.Root {
				t.Error(p, bad)
			}
			proved++
		}
	}
	if proved < 30 {
		t.Error(proved)
	}
}

// wide are keys with whose greatest values the proof of a range is about as large as it can be.
func wide() []string {
	return []string{"\x10\x1d\xd3|", "\x11", "\x11\x10\"d", "\x11\x11", "\x11\x11\x10\xa9\xa7\\", "\x11\x11\x11", "\x11\x11\x11\x10[\xc7", "\x11\x11\x11\x11",
		"\x11\x11\x11\x11\x10", "\x11\x11\x11\x11\x11", "\x11\x11\x11\x11\x11\x14", "UPWTp\x9a", "UP[\x0fj\xaa", "UUUR\x91^", "UUU]\xf1P", "UUYX[\xae", "YXה\xb2\xf5",
		"Y\\UU\x95'", "Y\\Vf\x8b\x94", "\x99\x99\x99\x99\x99\x9d", "\x99\x99\x99\x99\x99\xab", "\x99\x99\x99\x99\x99\xba", "\x99\x99\x99\x99\x9b\xb7", "\x99\x99\x99\x99\xfcu",
		"\x99\x99\x99\x9e", "\x99\x99\x99\xa9\x99\x9d", "\x99\x99\x99\xf9~", "\x99\x99\x9a\xa4\x99", "\x99\x99\x9d\x99\x99\x1b", "\x99\x99\xfa", "\x99\x9c\x98", "\x99\x9d\x9b\x99",
		"\x99\xf9I\x99\x99", "\x9a\\\xbf\x80\xc7", "\x9c\x99\x99\x99\x99\x9b", "\xa1\x91\x1b\t=", "\xb1\x10\x82\x9b\xd26", "ə\x99\x99", "\xe1\x1e\xf4A\xbb", "\xf9у\xea"}
}

// A proof that has more bytes than a frame may is told by neither; to the last byte both tell it.
func TestReplayLargeProof(t *testing.T) {
	for _, x := range []struct {
		less, size int
		err        api.Errno
	}{{0, 0, api.ErrLarge}, {53, 0, api.ErrLarge}, {54, 4096, api.OK}} {
		var l []api.Change
		for _, key := range wide() {
			l = append(l, put(key, long("v")))
		}
		for i, key := range []string{"UUUR\x91^", "UUU]\xf1P", "UUYX[\xae"} {
			l = append(l, put(key, long("v")[(x.less+i)/3:]))
		}
		got := run(t, usual, []api.Act{block(l...)}, asks(api.Ask{Seq: 1, At: -1}),
			asks(api.Ask{Kind: 4, Session: 1, Seq: 1, Key: "\x11\x11\x11\x11\x11\x15", To: "\x99\x99\x99\x99\x99\x9b", Limit: 8}))
		sent, err := script.Replay(usual, got.Ops)
		if !slices.Equal(sent, got.Sent) || err != api.OK || len(sent) != 2 {
			t.Fatalf("%q, %v", sent, err)
		}
		if r := reply(t, sent[1]); r.Err != x.err || len(r.Proof) != x.size {
			t.Error(r.Err, len(r.Proof))
		}
	}
}

// A session's Id is within bounds, also behind very many opens.
func TestReplayManyOpens(t *testing.T) {
	if testing.Short() {
		t.Skip("it takes some seconds")
	}
	const most = 1 << 20
	ops := make([]script.Op, 0, most+most/4+1)
	for i := range most + 1 {
		ops = append(ops, did(api.Ask{Seq: 1, At: -1}))
		if i%4 == 3 {
			ops = append(ops, over(i-2, i-1, i, i+1))
		}
	}
	got, err := script.Replay(usual, ops)
	if err != api.OK || got[most-1] != put1(api.Reply{Session: most, Seq: 1, Root: root()}) || got[most] != put1(api.Reply{Seq: 1, Err: api.ErrBusy}) {
		t.Errorf("%q, %v", got[len(got)-2:], err)
	}
}

// An ask that may not be does no harm.
func TestReplayWrongAsks(t *testing.T) {
	for _, a := range []api.Ask{{}, {Kind: -1}, {Kind: 10, Seq: 1}, {Kind: 1, Session: 1, Seq: 1, Key: "abcdefgh"}, {Kind: 2, Session: 1, Seq: 1, Limit: -5}, {Kind: 4, Session: 1, Seq: -1, Limit: 1 << 40},
		{Session: math.MinInt, Seq: 1}, {Seq: 1, At: math.MinInt}, {Kind: 7, Session: 1, Seq: math.MaxInt, At: math.MaxInt}} {
		if _, err := script.Replay(usual, []script.Op{did(api.Ask{Seq: 1, At: -1}), did(a)}); err != api.OK {
			t.Error(a, err)
		}
	}
}

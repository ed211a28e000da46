package frame_test

import (
	"math/rand"
	"slices"
	"strings"
	"testing"

	"guilloche/api"
	"guilloche/frame"
	"guilloche/rlp"
)

const most = 1 << 20

func text(n int) string { return strings.Repeat("x", n) }

func num(n int) string { return rlp.Num(uint64(n)) }

func sameReply(a, b api.Reply) bool {
	entries := slices.Equal(a.Entries, b.Entries)
	a.Entries, b.Entries = nil, nil
	return entries && a.Session == b.Session && a.Seq == b.Seq && a.Err == b.Err && a.Version == b.Version && a.Root == b.Root && a.Proof == b.Proof && a.More == b.More
}

func sameNotice(a, b api.Notice) bool {
	return a.Session == b.Session && a.Err == b.Err && a.Block == b.Block && a.Root == b.Root && slices.Equal(a.Changes, b.Changes)
}

// asks are those that may be.
func asks() []api.Ask {
	return []api.Ask{
		{Kind: 0, Seq: 1, At: -1}, {Kind: 0, Seq: most, At: most}, {Kind: 0, Seq: 7},
		{Kind: 1, Session: 1, Seq: 1}, {Kind: 1, Session: most, Seq: most, Key: "abcdef"}, {Kind: 1, Session: 3, Seq: 2, Key: "\x00"},
		{Kind: 2, Session: 1, Seq: 1, Limit: 1}, {Kind: 2, Session: 1, Seq: 1, Key: "abcdef", Limit: 8},
		{Kind: 3, Session: 1, Seq: 1}, {Kind: 3, Session: 128, Seq: 256, Key: "\xff"},
		{Kind: 4, Session: 1, Seq: 1, Limit: 1}, {Kind: 4, Session: 1, Seq: 1, Key: "abcdef", To: "abcdef", Limit: 8}, {Kind: 4, Session: 1, Seq: 1, Key: "b", To: "a", Limit: 3},
		{Kind: 5, Session: 1, Seq: 1}, {Kind: 6, Session: 2, Seq: 1}, {Kind: 7, Session: 1, Seq: 1, At: -1}, {Kind: 7, Session: 1, Seq: 1, At: most}, {Kind: 7, Session: 1, Seq: 1},
		{Kind: 8, Session: 1, Seq: 55}, {Kind: 9, Session: 1, Seq: 1},
	}
}

func TestExample(t *testing.T) {
	s, err := frame.PutAsk(api.Ask{Seq: 1, At: -1})
	if s != "\xc8\x80\x80\x80\x01\x80\x80\x80\x80" || err != api.OK {
		t.Errorf("%x, %v", s, err)
	}
}

func TestAsks(t *testing.T) {
	for i, a := range asks() {
		want := rlp.List(num(0), num(a.Kind), num(a.Session), num(a.Seq), num(a.At+1), rlp.Text(a.Key), rlp.Text(a.To), num(a.Limit))
		s, err := frame.PutAsk(a)
		if s != want || err != api.OK || !frame.ValidAsk(a) {
			t.Errorf("%d: PutAsk = %x, %v", i, s, err)
		}
		if got, err := frame.GetAsk(s); got != a || err != api.OK {
			t.Errorf("%d: GetAsk = %v, %v", i, got, err)
		}
		if r, err := frame.GetReply(s); !sameReply(r, api.Reply{}) || err != api.ErrMalformed {
			t.Error(i, r, err)
		}
		if n, err := frame.GetNotice(s); !sameNotice(n, api.Notice{}) || err != api.ErrMalformed {
			t.Error(i, n, err)
		}
		if frame.Kind(s) != 0 {
			t.Error(i, frame.Kind(s))
		}
	}
}

func TestAsksThatMayNotBe(t *testing.T) {
	var all []api.Ask
	for _, a := range asks() {
		with := func(change func(a *api.Ask)) {
			other := a
			change(&other)
			all = append(all, other)
		}
		for _, n := range []int{0, -1, most + 1, -1 << 63, 1<<63 - 1} {
			with(func(a *api.Ask) { a.Seq = n })
			if a.Kind > 0 {
				with(func(a *api.Ask) { a.Session = n })
			} else if n != 0 {
				with(func(a *api.Ask) { a.Session = n })
			}
		}
		if a.Kind == 0 {
			with(func(a *api.Ask) { a.Session = 1 })
		}
		for _, n := range []int{-2, most + 1, -1 << 63, 1<<63 - 1} {
			with(func(a *api.Ask) { a.At = n })
		}
		if a.Kind != 0 && a.Kind != 7 {
			with(func(a *api.Ask) { a.At = -1 })
			with(func(a *api.Ask) { a.At = 1 })
		}
		with(func(a *api.Ask) { a.Key = "abcdefg" })
		with(func(a *api.Ask) { a.To = "abcdefg" })
		if a.Kind < 1 || a.Kind > 4 {
			with(func(a *api.Ask) { a.Key = "a" })
		}
		if a.Kind != 4 {
			with(func(a *api.Ask) { a.To = "a" })
		}
		for _, n := range []int{-1, 9, 1 << 40, -1 << 63} {
			with(func(a *api.Ask) { a.Limit = n })
		}
		if a.Kind == 2 || a.Kind == 4 {
			with(func(a *api.Ask) { a.Limit = 0 })
		} else {
			with(func(a *api.Ask) { a.Limit = 1 })
		}
		for _, n := range []int{-1, 10, 1 << 40, -1 << 63} {
			with(func(a *api.Ask) { a.Kind = n })
		}
	}
	all = append(all, api.Ask{}, api.Ask{Kind: 10, Session: 1, Seq: 1}, api.Ask{Kind: -1, Session: 1, Seq: 1})
	for _, a := range all {
		if frame.ValidAsk(a) {
			t.Errorf("%+v is valid", a)
		}
		if s, err := frame.PutAsk(a); s != "" || err != api.ErrArg {
			t.Errorf("PutAsk(%+v) = %x, %v", a, s, err)
		}
		if a.Kind < 0 || a.Session < 0 || a.Seq < 0 || a.At < -1 || a.Limit < 0 {
			continue
		}
		s := rlp.List(num(0), num(a.Kind), num(a.Session), num(a.Seq), rlp.Num(uint64(a.At)+1), rlp.Text(a.Key), rlp.Text(a.To), num(a.Limit))
		if got, err := frame.GetAsk(s); got != (api.Ask{}) || err != api.ErrMalformed {
			t.Errorf("GetAsk of %+v: %v, %v", a, got, err)
		}
		if frame.Kind(s) != -1 {
			t.Errorf("Kind of %+v: %d", a, frame.Kind(s))
		}
	}
}

// replies are those that may be.
func replies() []api.Reply {
	var page []api.Entry
	for i := range 8 {
		page = append(page, api.Entry{Key: text(i % 7), Value: text(i * 10)})
	}
	page[7] = api.Entry{Key: text(6), Value: text(80)}
	return []api.Reply{
		{}, {Session: most, Seq: most, Err: 12, Version: most, Root: text(32), Entries: page, Proof: text(65536), More: true}, {Session: 1, Seq: 2, Err: 3, Version: 4},
		{Err: 1, Root: text(32), Entries: []api.Entry{{}}, Proof: "\x80", More: true}, {Entries: page[:3], More: true}, {Seq: 1, Version: 1, Root: text(32), Entries: []api.Entry{{Key: "b", Value: "1"}, {Key: "a", Value: "2"}}},
	}
}

func TestReplies(t *testing.T) {
	for i, r := range replies() {
		var rows []string
		for _, e := range r.Entries {
			rows = append(rows, rlp.List(rlp.Text(e.Key), rlp.Text(e.Value)))
		}
		more := num(0)
		if r.More {
			more = num(1)
		}
		want := rlp.List(num(1), num(r.Session), num(r.Seq), num(int(r.Err)), num(r.Version), rlp.Text(r.Root), rlp.List(rows...), rlp.Text(r.Proof), more)
		before := slices.Clone(r.Entries)
		s, err := frame.PutReply(r)
		if s != want || err != api.OK || !frame.ValidReply(r) {
			t.Errorf("%d: PutReply = %x, %v", i, s, err)
		}
		if got, err := frame.GetReply(s); !sameReply(got, r) || err != api.OK {
			t.Errorf("%d: GetReply = %v, %v", i, got, err)
		}
		if a, err := frame.GetAsk(s); a != (api.Ask{}) || err != api.ErrMalformed {
			t.Error(i, a, err)
		}
		if n, err := frame.GetNotice(s); !sameNotice(n, api.Notice{}) || err != api.ErrMalformed {
			t.Error(i, n, err)
		}
		if frame.Kind(s) != 1 || !slices.Equal(r.Entries, before) {
			t.Error(i, frame.Kind(s))
		}
	}
}

func TestRepliesThatMayNotBe(t *testing.T) {
	for i, r := range []api.Reply{
		{Session: -1}, {Session: most + 1}, {Seq: -1}, {Seq: most + 1}, {Version: -1}, {Version: most + 1}, {Err: -1}, {Err: 13}, {Err: 1 << 40}, {Session: -1 << 63},
		{Root: "x"}, {Root: text(31)}, {Root: text(33)}, {Entries: make([]api.Entry, 9)}, {Entries: []api.Entry{{}, {Key: text(7)}}}, {Entries: []api.Entry{{Value: text(81)}, {}}}, {Proof: text(65537)},
	} {
		if frame.ValidReply(r) {
			t.Error(i, "is valid")
		}
		if s, err := frame.PutReply(r); s != "" || err != api.ErrArg {
			t.Error(i, len(s), err)
		}
		if r.Session < 0 || r.Seq < 0 || r.Version < 0 || r.Err < 0 {
			continue
		}
		var rows []string
		for _, e := range r.Entries {
			rows = append(rows, rlp.List(rlp.Text(e.Key), rlp.Text(e.Value)))
		}
		s := rlp.List(num(1), num(r.Session), num(r.Seq), num(int(r.Err)), num(r.Version), rlp.Text(r.Root), rlp.List(rows...), rlp.Text(r.Proof), num(0))
		if got, err := frame.GetReply(s); !sameReply(got, api.Reply{}) || err != api.ErrMalformed || frame.Kind(s) != -1 {
			t.Error(i, err)
		}
	}
}

// notices are those that may be.
func notices() []api.Notice {
	all := make([]api.Change, 80)
	for i := range all {
		all[i] = api.Change{Key: text(i % 7), Value: text(i + 1), Gone: i%3 == 0}
	}
	return []api.Notice{
		{}, {Session: most, Err: api.ErrLagged, Block: most, Root: text(32), Changes: all}, {Session: 1, Block: 2, Root: text(32), Changes: []api.Change{{Gone: true}, {}, {Key: "a"}, {Value: "b", Gone: true}}},
		{Session: 3, Err: api.ErrLagged, Block: 1},
	}
}

func TestNotices(t *testing.T) {
	for i, n := range notices() {
		var rows []string
		for _, c := range n.Changes {
			gone := num(0)
			if c.Gone {
				gone = num(1)
			}
			rows = append(rows, rlp.List(rlp.Text(c.Key), rlp.Text(c.Value), gone))
		}
		want := rlp.List(num(2), num(n.Session), num(int(n.Err)), num(n.Block), rlp.Text(n.Root), rlp.List(rows...))
		before := slices.Clone(n.Changes)
		s, err := frame.PutNotice(n)
		if s != want || err != api.OK || !frame.ValidNotice(n) {
			t.Errorf("%d: PutNotice = %x, %v", i, s, err)
		}
		if got, err := frame.GetNotice(s); !sameNotice(got, n) || err != api.OK {
			t.Errorf("%d: GetNotice = %v, %v", i, got, err)
		}
		if a, err := frame.GetAsk(s); a != (api.Ask{}) || err != api.ErrMalformed {
			t.Error(i, a, err)
		}
		if r, err := frame.GetReply(s); !sameReply(r, api.Reply{}) || err != api.ErrMalformed {
			t.Error(i, r, err)
		}
		if frame.Kind(s) != 2 || !slices.Equal(n.Changes, before) {
			t.Error(i, frame.Kind(s))
		}
	}
}

func TestNoticesThatMayNotBe(t *testing.T) {
	for i, n := range []api.Notice{
		{Session: -1}, {Session: most + 1}, {Block: -1}, {Block: most + 1}, {Err: 1}, {Err: 10}, {Err: 12}, {Err: -1}, {Root: "x"}, {Root: text(31)}, {Root: text(33)},
		{Changes: make([]api.Change, 81)}, {Changes: []api.Change{{}, {Key: text(7)}}}, {Changes: []api.Change{{Value: text(81)}, {}}}, {Changes: []api.Change{{Key: text(7), Gone: true}}},
	} {
		if frame.ValidNotice(n) {
			t.Error(i, "is valid")
		}
		if s, err := frame.PutNotice(n); s != "" || err != api.ErrArg {
			t.Error(i, len(s), err)
		}
		if n.Session < 0 || n.Block < 0 || n.Err < 0 {
			continue
		}
		var rows []string
		for _, c := range n.Changes {
			rows = append(rows, rlp.List(rlp.Text(c.Key), rlp.Text(c.Value), num(0)))
		}
		s := rlp.List(num(2), num(n.Session), num(int(n.Err)), num(n.Block), rlp.Text(n.Root), rlp.List(rows...))
		if got, err := frame.GetNotice(s); !sameNotice(got, api.Notice{}) || err != api.ErrMalformed || frame.Kind(s) != -1 {
			t.Error(i, err)
		}
	}
}

// Items that are laid otherwise than a frame's.
func TestMalformed(t *testing.T) {
	z := "\x80"
	for _, s := range []string{
		"", "x", "\x80", "\xc0", "\xff", "\xc1\x80", rlp.List(z, z, z, "\x01", z, z, z), rlp.List(z, z, z, "\x01", z, z, z, z, z), rlp.List(z, z, z, "\x01", z, z, z, z) + "x", "x" + rlp.List(z, z, z, "\x01", z, z, z, z),
		rlp.Text(rlp.List(z, z, z, "\x01", z, z, z, z)), rlp.List(rlp.List(z, z, z, "\x01", z, z, z, z)), rlp.List("\x00", z, z, "\x01", z, z, z, z), rlp.List(z, z, z, "\x81\x01", z, z, z, z), rlp.List(z, z, z, "\x01", z, z, z, "\xc0"),
		rlp.List(z, z, z, "\x01", z, "\xc0", z, z), rlp.List(z, "\x01", "\x01", "\x01", z, "\xc1a", z, z), rlp.List(z, "\x01", "\x01", "\x01", z, "\x81a", z, z), rlp.List("\x03", z, z, "\x01", z, z, z, z), rlp.List(z, z, z, "\xc1\x01", z, z, z, z),
		rlp.List(z, z, z, "\x88\xff\xff\xff\xff\xff\xff\xff\xff", z, z, z, z), rlp.List(z, z, z, "\x01", "\x88\xff\xff\xff\xff\xff\xff\xff\xff", z, z, z), rlp.List(z, z, z, "\x89\x01\x00\x00\x00\x00\x00\x00\x00\x01", z, z, z, z),
		rlp.List("\x01", z, z, z, z, z, "\xc0", z), rlp.List("\x01", z, z, z, z, z, "\xc0", z, "\x02"), rlp.List("\x01", z, z, z, z, z, "\xc0", z, "\x00"), rlp.List("\x01", z, z, z, z, z, z, z, z), rlp.List("\x01", z, z, z, z, z, "\xc0", "\xc0", z),
		rlp.List("\x01", z, z, z, z, z, "\xc1\xc0", z, z), rlp.List("\x01", z, z, z, z, z, rlp.List(rlp.List(z)), z, z), rlp.List("\x01", z, z, z, z, z, rlp.List(rlp.List(z, z, z)), z, z), rlp.List("\x01", z, z, z, z, z, rlp.List(z, z), z, z),
		rlp.List("\x01", z, z, z, z, z, rlp.List(rlp.List(z, "\xc0")), z, z), rlp.List("\x01", z, z, z, z, z, "\xc1\x81", z, z), rlp.List("\x01", z, z, z, z, z, "\xc0", z, z, z), rlp.List("\x01", z, z, z, z, "\xc0", "\xc0", z, z),
		rlp.List("\x02", z, z, z, z), rlp.List("\x02", z, z, z, z, z), rlp.List("\x02", z, z, z, z, "\xc0", z), rlp.List("\x02", z, z, z, z, rlp.List(rlp.List(z, z))), rlp.List("\x02", z, z, z, z, rlp.List(rlp.List(z, z, "\x02"))),
		rlp.List("\x02", z, z, z, z, rlp.List(rlp.List(z, z, z, z))), rlp.List("\x02", z, z, z, z, rlp.List(rlp.List(z, z, "\xc0"))), rlp.List("\x02", z, z, z, z, rlp.List(rlp.List(z, z, "\x00"))), strings.Repeat("\xc1", 200), strings.Repeat("\xf8", 200),
	} {
		if a, err := frame.GetAsk(s); a != (api.Ask{}) || err != api.ErrMalformed {
			t.Errorf("GetAsk(%x) = %v, %v", s, a, err)
		}
		if r, err := frame.GetReply(s); !sameReply(r, api.Reply{}) || err != api.ErrMalformed {
			t.Errorf("GetReply(%x) = %v, %v", s, r, err)
		}
		if n, err := frame.GetNotice(s); !sameNotice(n, api.Notice{}) || err != api.ErrMalformed {
			t.Errorf("GetNotice(%x) = %v, %v", s, n, err)
		}
		if frame.Kind(s) != -1 {
			t.Errorf("Kind(%x) = %d", s, frame.Kind(s))
		}
	}
}

// Bytes that are a little otherwise are the frame of something else, or of nothing; never of two.
func TestNothingElseIsGot(t *testing.T) {
	r := rand.New(rand.NewSource(1))
	var frames []string
	for _, a := range asks() {
		s, _ := frame.PutAsk(a)
		frames = append(frames, s)
	}
	for _, x := range replies() {
		s, _ := frame.PutReply(x)
		frames = append(frames, s[:min(len(s), 300)])
	}
	for _, n := range notices() {
		s, _ := frame.PutNotice(n)
		frames = append(frames, s[:min(len(s), 300)])
	}
	met := map[int]int{}
	for range 60000 {
		b := []byte(frames[r.Intn(len(frames))])
		for range r.Intn(3) {
			b[r.Intn(len(b))] = byte(r.Intn(256))
		}
		s, kind := string(b), -1
		a, err := frame.GetAsk(s)
		if again, _ := frame.PutAsk(a); err == api.OK {
			if kind = 0; again != s {
				t.Fatalf("%x is got as another ask's frame", s)
			}
		}
		x, err := frame.GetReply(s)
		if again, _ := frame.PutReply(x); err == api.OK {
			if kind != -1 || again != s {
				t.Fatalf("%x is got as another reply's frame", s)
			}
			kind = 1
		}
		n, err := frame.GetNotice(s)
		if again, _ := frame.PutNotice(n); err == api.OK {
			if kind != -1 || again != s {
				t.Fatalf("%x is got as another notice's frame", s)
			}
			kind = 2
		}
		if met[kind]++; frame.Kind(s) != kind {
			t.Fatalf("Kind(%x) = %d; want %d", s, frame.Kind(s), kind)
		}
	}
	if len(met) != 4 {
		t.Error(met)
	}
}

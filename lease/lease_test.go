package lease_test

import (
	"math/rand"
	"slices"
	"strconv"
	"testing"

	"guilloche/api"
	"guilloche/lease"
)

// open opens a session that must get an Id.
func open(t *testing.T, x *lease.Table, block, clock, want int) {
	t.Helper()
	if id, err := x.Open(block, clock); id != want || err != api.OK {
		t.Fatalf("Open = %d, %v; want %d", id, err, want)
	}
}

func find(t *testing.T, x *lease.Table, id, clock int, want lease.Session) {
	t.Helper()
	if s, err := x.Find(id, clock); s != want || err != api.OK {
		t.Errorf("Find(%d, %d) = %v, %v; want %v", id, clock, s, err, want)
	}
}

// missing tells that nothing is told of a session but an error.
func missing(t *testing.T, x *lease.Table, id, clock int, want api.Errno) {
	t.Helper()
	before := x.All()
	if s, err := x.Find(id, clock); s != (lease.Session{}) || err != want {
		t.Errorf("Find(%d, %d) = %v, %v; want %v", id, clock, s, err, want)
	}
	if err := x.Renew(id, clock); err != want {
		t.Errorf("Renew(%d, %d) = %v; want %v", id, clock, err, want)
	}
	if block, err := x.Repin(id, 99, clock); block != 0 || err != want {
		t.Errorf("Repin(%d, %d) = %d, %v; want %v", id, clock, block, err, want)
	}
	if block, err := x.Release(id, clock); block != 0 || err != want {
		t.Errorf("Release(%d, %d) = %d, %v; want %v", id, clock, block, err, want)
	}
	if !slices.Equal(x.All(), before) {
		t.Error("an error changed the table")
	}
}

func all(t *testing.T, x *lease.Table, ids ...int) {
	t.Helper()
	var got []int
	for _, s := range x.All() {
		got = append(got, s.Id)
	}
	if !slices.Equal(got, ids) {
		t.Errorf("All = %v; want %v", got, ids)
	}
}

func TestExample(t *testing.T) {
	x := lease.New(1, 3)
	open(t, x, 7, 0, 1)
	find(t, x, 1, 0, lease.Session{Id: 1, Block: 7, Deadline: 3})
	find(t, x, 1, 2, lease.Session{Id: 1, Block: 7, Deadline: 3})
	missing(t, x, 1, 3, api.ErrExpired)
	missing(t, x, 1, 4, api.ErrExpired)
	all(t, x, 1)
}

func TestNew(t *testing.T) {
	for _, c := range []struct{ most, want int }{{1, 1}, {4, 4}, {3, 3}, {0, 1}, {-1 << 63, 1}, {5, 4}, {1 << 40, 4}} {
		x := lease.New(c.most, 1)
		all(t, x)
		for i := range c.want {
			open(t, x, 0, 0, i+1)
		}
		if id, err := x.Open(0, 0); id != 0 || err != api.ErrMany {
			t.Error(c.most, id, err)
		}
		if len(x.All()) != c.want {
			t.Error(c.most, x.All())
		}
	}
	for _, c := range []struct{ term, want int }{{1, 1}, {1000, 1000}, {17, 17}, {0, 1}, {-1 << 63, 1}, {1001, 1000}, {1 << 40, 1000}} {
		x := lease.New(1, c.term)
		open(t, x, 0, 5, 1)
		find(t, x, 1, 5, lease.Session{Id: 1, Deadline: 5 + c.want})
	}
}

func TestIdsRise(t *testing.T) {
	x := lease.New(2, 10)
	open(t, x, 0, 0, 1)
	open(t, x, 0, 0, 2)
	if id, err := x.Open(0, 0); id != 0 || err != api.ErrMany {
		t.Error(id, err)
	}
	x.Release(1, 0)
	// A failed Open gives no Id; a slot that is free again gives a new one.
	open(t, x, 0, 0, 3)
	all(t, x, 2, 3)
	x.Expire(10)
	open(t, x, 0, 0, 4)
	open(t, x, 0, 0, 5)
	x.Release(4, 0)
	open(t, x, 0, 0, 6)
	all(t, x, 5, 6)
}

func TestRenewRepinRelease(t *testing.T) {
	x := lease.New(4, 10)
	open(t, x, 3, 0, 1)
	open(t, x, 4, 1, 2)
	if err := x.Renew(1, 9); err != api.OK {
		t.Error(err)
	}
	find(t, x, 1, 18, lease.Session{Id: 1, Block: 3, Deadline: 19})
	if block, err := x.Repin(1, 8, 12); block != 3 || err != api.OK {
		t.Error(block, err)
	}
	find(t, x, 1, 12, lease.Session{Id: 1, Block: 8, Deadline: 19})
	find(t, x, 2, 10, lease.Session{Id: 2, Block: 4, Deadline: 11})
	if block, err := x.Release(1, 12); block != 8 || err != api.OK {
		t.Error(block, err)
	}
	missing(t, x, 1, 12, api.ErrSession)
	missing(t, x, 2, 11, api.ErrExpired)
	all(t, x, 2)
	// A clock that is behind may set a deadline that is behind.
	if err := x.Renew(2, -100); err != api.OK {
		t.Error(err)
	}
	find(t, x, 2, -91, lease.Session{Id: 2, Block: 4, Deadline: -90})
}

func TestDeadlinesGoRound(t *testing.T) {
	const last = 1<<63 - 1
	x := lease.New(4, 10)
	open(t, x, 0, last, 1)
	missing(t, x, 1, last, api.ErrExpired)
	find(t, x, 1, -1<<63, lease.Session{Id: 1, Deadline: -1<<63 + 9})
	open(t, x, 0, last-10, 2)
	find(t, x, 2, last-1, lease.Session{Id: 2, Deadline: last})
	missing(t, x, 2, last, api.ErrExpired)
	if err := x.Renew(2, last-3); err != api.OK {
		t.Error(err)
	}
	find(t, x, 2, -1<<63+5, lease.Session{Id: 2, Deadline: -1<<63 + 6})
}

func TestExpire(t *testing.T) {
	x := lease.New(4, 10)
	for i := range 4 {
		open(t, x, i, 5-i, i+1)
	}
	x.Store(2, 6, "r")
	if got := x.Expire(11); len(got) != 0 {
		t.Error(got)
	}
	// In order of their Ids, and as they were.
	if got := x.Expire(14); !slices.Equal(got, []lease.Session{{Id: 2, Block: 1, Deadline: 14, Last: 6}, {Id: 3, Block: 2, Deadline: 13}, {Id: 4, Block: 3, Deadline: 12}}) {
		t.Error(got)
	}
	all(t, x, 1)
	for _, id := range []int{2, 3, 4} {
		// Whatever the clock is.
		missing(t, x, id, 0, api.ErrExpired)
		missing(t, x, id, 100, api.ErrExpired)
		if err := x.Store(id, 9, ""); err != api.ErrSession {
			t.Error(err)
		}
	}
	if got := x.Expire(14); len(got) != 0 || x.Kept() != 0 {
		t.Error(got, x.Kept())
	}
	find(t, x, 1, 14, lease.Session{Id: 1, Deadline: 15})
}

func TestTheEightThatEndedLast(t *testing.T) {
	x := lease.New(3, 1)
	ended := []int{}
	for id := 1; id <= 30; id++ {
		open(t, x, 0, 0, id)
		switch {
		case id%5 == 0:
			// One that was released did not end by Expire.
			x.Release(id, 0)
		case id%3 == 0:
			for _, s := range x.Expire(1) {
				ended = append(ended, s.Id)
			}
		}
		for old := range id + 1 {
			at := slices.Index(ended, old)
			there := slices.ContainsFunc(x.All(), func(s lease.Session) bool { return s.Id == old })
			switch {
			case there:
				find(t, x, old, 0, lease.Session{Id: old, Deadline: 1})
			case at >= 0 && at >= len(ended)-8:
				missing(t, x, old, 0, api.ErrExpired)
			default:
				missing(t, x, old, 0, api.ErrSession)
			}
		}
		if len(x.All()) == 3 {
			for _, s := range x.Expire(1) {
				ended = append(ended, s.Id)
			}
		}
	}
	if len(ended) < 16 {
		t.Error(ended)
	}
}

func TestNoSession(t *testing.T) {
	x := lease.New(2, 5)
	open(t, x, 0, 0, 1)
	for _, id := range []int{0, -1, 2, 1 << 40, -1 << 63} {
		missing(t, x, id, 0, api.ErrSession)
		if err := x.Store(id, 1, "r"); err != api.ErrSession {
			t.Error(id, err)
		}
		for _, seq := range []int{-1, 0, 1} {
			if r, err := x.Replay(id, seq); r != "" || err != api.ErrSession {
				t.Error(id, r, err)
			}
		}
	}
	if x.Kept() != 0 {
		t.Error(x.Kept())
	}
}

func TestStoreAndReplay(t *testing.T) {
	x := lease.New(2, 5)
	open(t, x, 0, 0, 1)
	open(t, x, 0, 0, 2)
	replay := func(seq int, want string, err api.Errno) {
		t.Helper()
		if r, got := x.Replay(1, seq); r != want || got != err {
			t.Errorf("Replay(%d) = %q, %v; want %q, %v", seq, r, got, want, err)
		}
	}
	replay(1, "", api.ErrNone)
	replay(0, "", api.ErrBusy)
	replay(-5, "", api.ErrBusy)
	store := func(seq int, reply string, err api.Errno) {
		t.Helper()
		if got := x.Store(1, seq, reply); got != err {
			t.Errorf("Store(%d) = %v; want %v", seq, got, err)
		}
	}
	store(0, "zero", api.ErrArg)
	store(-1, "less", api.ErrArg)
	store(3, "three", api.OK)
	replay(3, "three", api.OK)
	replay(4, "", api.ErrNone)
	replay(2, "", api.ErrBusy)
	store(3, "again", api.ErrArg)
	store(2, "two", api.ErrArg)
	replay(3, "three", api.OK)
	replay(2, "", api.ErrBusy)
	store(9, "", api.OK)
	replay(9, "", api.OK)
	replay(3, "three", api.OK)
	replay(5, "", api.ErrBusy)
	replay(0, "", api.ErrBusy)
	if x.Kept() != 2 {
		t.Error(x.Kept())
	}
	store(10, "ten", api.OK)
	replay(3, "", api.ErrBusy)
	replay(9, "", api.OK)
	replay(10, "ten", api.OK)
	replay(11, "", api.ErrNone)
	find(t, x, 1, 0, lease.Session{Id: 1, Deadline: 5, Last: 10})
	x.Store(2, 1, "other")
	if x.Kept() != 3 {
		t.Error(x.Kept())
	}
	// One whose deadline is over is there till Expire.
	missing(t, x, 1, 5, api.ErrExpired)
	store(11, "eleven", api.OK)
	replay(11, "eleven", api.OK)
	if id, err := x.Open(0, 5); id != 0 || err != api.ErrMany {
		t.Error(id, err)
	}
	x.Release(2, 0)
	if x.Kept() != 2 {
		t.Error(x.Kept())
	}
	x.Expire(5)
	if x.Kept() != 0 {
		t.Error(x.Kept())
	}
	// A new session in an old one's place has nothing of it.
	open(t, x, 0, 5, 3)
	if r, err := x.Replay(3, 0); r != "" || err != api.ErrBusy {
		t.Error(r, err)
	}
	if r, err := x.Replay(3, 11); r != "" || err != api.ErrNone {
		t.Error(r, err)
	}
	find(t, x, 3, 5, lease.Session{Id: 3, Deadline: 10})
}

func TestAtMostSoManyAreOpened(t *testing.T) {
	x := lease.New(1, 1)
	for i := range 1 << 20 {
		if id, err := x.Open(0, 0); id != i+1 || err != api.OK {
			t.Fatal(id, err)
		}
		x.Release(i+1, 0)
	}
	if id, err := x.Open(0, 0); id != 0 || err != api.ErrMany {
		t.Error(id, err)
	}
	all(t, x)
}

func TestAnswersAreApart(t *testing.T) {
	x := lease.New(2, 5)
	open(t, x, 1, 0, 1)
	clear(x.All())
	s, _ := x.Find(1, 0)
	s.Block = 99
	find(t, x, 1, 0, lease.Session{Id: 1, Block: 1, Deadline: 5})
	y := lease.New(2, 5)
	open(t, y, 2, 0, 1)
	find(t, x, 1, 0, lease.Session{Id: 1, Block: 1, Deadline: 5})
}

// kept is a session as another program keeps it.
type kept struct {
	lease.Session
	seqs []int
}

func TestAgainstASimpleOne(t *testing.T) {
	r := rand.New(rand.NewSource(1))
	x := lease.New(3, 6)
	var live []*kept
	var ended []int
	opened := 0
	for clock := range 5000 {
		id := 1 + r.Intn(opened+1)
		if len(live) > 0 && r.Intn(3) > 0 {
			id = live[r.Intn(len(live))].Id
		}
		at := slices.IndexFunc(live, func(k *kept) bool { return k.Id == id })
		want := api.OK
		switch {
		case at >= 0 && live[at].Deadline <= clock || slices.Contains(ended[max(0, len(ended)-8):], id):
			want = api.ErrExpired
		case at < 0:
			want = api.ErrSession
		}
		switch r.Intn(8) {
		case 0, 1:
			got, err := x.Open(clock, clock)
			if full := len(live) == 3; full != (err == api.ErrMany) || !full && got != opened+1 {
				t.Fatal(got, err)
			} else if !full {
				opened++
				live = append(live, &kept{Session: lease.Session{Id: got, Block: clock, Deadline: clock + 6}})
			}
		case 2:
			if err := x.Renew(id, clock); err != want {
				t.Fatal(err, want)
			} else if err == api.OK {
				live[at].Deadline = clock + 6
			}
		case 3:
			if block, err := x.Repin(id, -clock, clock); err != want || err == api.OK && block != live[at].Block {
				t.Fatal(block, err, want)
			} else if err == api.OK {
				live[at].Block = -clock
			}
		case 4:
			if block, err := x.Release(id, clock); err != want || err == api.OK && block != live[at].Block {
				t.Fatal(block, err, want)
			} else if err == api.OK {
				live = slices.Delete(live, at, at+1)
			}
		case 5:
			var over []lease.Session
			for _, k := range live {
				if k.Deadline <= clock {
					over = append(over, k.Session)
					ended = append(ended, k.Id)
				}
			}
			if got := x.Expire(clock); !slices.Equal(got, over) {
				t.Fatal(got, over)
			}
			live = slices.DeleteFunc(live, func(k *kept) bool { return k.Deadline <= clock })
		case 6:
			seq := r.Intn(4)
			if at >= 0 {
				seq += live[at].Last - 1
			}
			err := x.Store(id, seq, strconv.Itoa(seq))
			switch {
			case at < 0 && err == api.ErrSession:
			case at >= 0 && seq <= live[at].Last && err == api.ErrArg:
			case at >= 0 && seq > live[at].Last && err == api.OK:
				live[at].Last = seq
				live[at].seqs = append(live[at].seqs, seq)
			default:
				t.Fatal(seq, err)
			}
		default:
			if at < 0 {
				continue
			}
			for seq := live[at].Last - 5; seq <= live[at].Last+1; seq++ {
				reply, err := x.Replay(id, seq)
				seqs := live[at].seqs
				switch {
				case seq > live[at].Last && err == api.ErrNone && reply == "":
				case slices.Contains(seqs[max(0, len(seqs)-2):], seq) && err == api.OK && reply == strconv.Itoa(seq):
				case seq <= live[at].Last && !slices.Contains(seqs[max(0, len(seqs)-2):], seq) && err == api.ErrBusy && reply == "":
				default:
					t.Fatal(seq, reply, err)
				}
			}
		}
		var want2 []lease.Session
		count := 0
		for _, k := range live {
			want2 = append(want2, k.Session)
			count += min(2, len(k.seqs))
		}
		if !slices.Equal(x.All(), want2) || x.Kept() != count {
			t.Fatal(x.All(), want2, x.Kept(), count)
		}
	}
}

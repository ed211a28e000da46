package model_test

import (
	"math/rand"
	"slices"
	"strings"
	"testing"

	"guilloche/api"
	"guilloche/canon"
	"guilloche/model"
)

const most = 1 << 20

func e(key, value string) api.Entry { return api.Entry{Key: key, Value: value} }

func put(key, value string) api.Change { return api.Change{Key: key, Value: value} }

func gone(key string) api.Change { return api.Change{Key: key, Gone: true} }

// commit commits what must be taken.
func commit(t *testing.T, m model.Model, c ...api.Change) model.Model {
	t.Helper()
	next, block, err := model.Commit(m, c)
	if block != m.Next || err != api.OK || !model.Valid(next) {
		t.Fatal(block, err)
	}
	return next
}

func pin(t *testing.T, m model.Model, at int) model.Model {
	t.Helper()
	next, _, err := model.Pin(m, at)
	if err != api.OK {
		t.Fatal(err)
	}
	return next
}

func blocks(m model.Model) []int {
	var all []int
	for _, v := range m.All {
		all = append(all, v.Block)
	}
	return all
}

func has(t *testing.T, m model.Model, want ...int) {
	t.Helper()
	if !slices.Equal(blocks(m), want) {
		t.Errorf("versions %v; want %v", blocks(m), want)
	}
}

// deep is a model that shares nothing with another one.
func deep(m model.Model) model.Model {
	m.All = slices.Clone(m.All)
	for i, v := range m.All {
		m.All[i].Entries, m.All[i].Changes = slices.Clone(v.Entries), slices.Clone(v.Changes)
	}
	return m
}

func TestNew(t *testing.T) {
	for _, x := range []struct{ window, want int }{{1, 1}, {8, 8}, {3, 3}, {0, 1}, {-1 << 63, 1}, {9, 8}, {1<<63 - 1, 8}} {
		m := model.New(x.window)
		if m.Window != x.want || m.Next != 1 || len(m.All) != 1 || !model.Valid(m) {
			t.Fatal(x.window, m)
		}
		if v := m.All[0]; v.Block != 0 || len(v.Entries) != 0 || len(v.Changes) != 0 || v.Pins != 0 {
			t.Error(v)
		}
	}
}

func TestExample(t *testing.T) {
	m := commit(t, model.New(1), put("a", "1"))
	has(t, m, 1)
	m = commit(t, pin(t, model.New(1), 0), put("a", "1"))
	has(t, m, 0, 1)
}

func TestCommit(t *testing.T) {
	m := commit(t, model.New(8), put("b", "1"), put("a", "2"), put("x", "1"), gone("x"))
	m = commit(t, m, gone("b"), put("a", "2"), put("c", "3"))
	want := model.Model{Window: 8, Next: 3, All: []model.Version{
		{},
		{Block: 1, Entries: []api.Entry{e("a", "2"), e("b", "1")}, Changes: []api.Change{put("a", "2"), put("b", "1")}},
		{Block: 2, Entries: []api.Entry{e("a", "2"), e("c", "3")}, Changes: []api.Change{gone("b"), put("c", "3")}},
	}}
	if !model.Same(m, want) {
		t.Error(m)
	}
	// A block of no changes is one, too.
	m = commit(t, m)
	if v := m.All[3]; v.Block != 3 || len(v.Changes) != 0 || !slices.Equal(v.Entries, want.All[2].Entries) {
		t.Error(v)
	}
}

func TestWindow(t *testing.T) {
	for window := 1; window <= 8; window++ {
		m := model.New(window)
		for i := range 20 {
			m = commit(t, m, put("a", strings.Repeat("v", 1+i)))
			var want []int
			for b := max(0, m.Next-window); b < m.Next; b++ {
				want = append(want, b)
			}
			has(t, m, want...)
		}
	}
}

func TestCommitErrors(t *testing.T) {
	m := commit(t, model.New(2), put("a", "1"))
	before := deep(m)
	var many []api.Change
	for i := range 40 {
		many = append(many, put(string([]byte{'k', byte(i)}), "v"))
	}
	for i, x := range []struct {
		c   []api.Change
		err api.Errno
	}{
		{[]api.Change{put("", "1")}, api.ErrArg}, {[]api.Change{put("b", "1"), put("a", "")}, api.ErrArg}, {[]api.Change{{Key: "a", Value: "1", Gone: true}}, api.ErrArg},
		{many, api.ErrMany}, {append(many[:40:40], gone("")), api.ErrArg},
	} {
		next, block, err := model.Commit(m, x.c)
		if !model.Same(next, before) || block != 0 || err != x.err || !model.Same(m, before) {
			t.Error(i, block, err)
		}
	}
	if next := commit(t, m, append(many, gone("a"))...); len(next.All[1].Entries)+len(next.All[0].Entries) != 41 {
		t.Error(next.Next)
	}
}

func TestLastBlock(t *testing.T) {
	m := model.Model{Window: 2, Next: most - 1, All: []model.Version{{Block: most - 2}}}
	m = commit(t, m, put("a", "1"))
	has(t, m, most-2, most-1)
	next, block, err := model.Commit(m, []api.Change{put("a", "2")})
	if !model.Same(next, m) || block != 0 || err != api.ErrMany {
		t.Error(block, err)
	}
	// What is wrong with changes is told ahead of that.
	if next, block, err := model.Commit(m, []api.Change{{}}); !model.Same(next, m) || block != 0 || err != api.ErrArg {
		t.Error(block, err)
	}
}

func TestPinAndUnpin(t *testing.T) {
	m := commit(t, model.New(2), put("a", "1"))
	for i, x := range []struct{ at, block int }{{-1, 1}, {0, 0}, {1, 1}, {0, 0}} {
		next, block, err := model.Pin(m, x.at)
		if block != x.block || err != api.OK {
			t.Error(i, block, err)
		}
		for j, v := range next.All {
			want := m.All[j].Pins
			if v.Block == x.block {
				want++
			}
			if v.Pins != want || v.Block != m.All[j].Block {
				t.Error(i, v)
			}
		}
		m = next
	}
	if m.All[0].Pins != 2 || m.All[1].Pins != 2 {
		t.Fatal(m)
	}
	for range 5 {
		m = commit(t, m, put("a", "2"))
	}
	has(t, m, 0, 1, 5, 6)
	for _, x := range []struct {
		block int
		want  []int
	}{{0, []int{0, 1, 5, 6}}, {1, []int{0, 1, 5, 6}}, {1, []int{0, 5, 6}}, {0, []int{5, 6}}} {
		next, err := model.Unpin(m, x.block)
		if err != api.OK {
			t.Fatal(err)
		}
		m = next
		has(t, m, x.want...)
	}
	// What is in the window stays without pins.
	m = pin(t, m, 5)
	m, err := model.Unpin(m, 5)
	if err != api.OK {
		t.Error(err)
	}
	has(t, m, 5, 6)
}

func TestPinErrors(t *testing.T) {
	m := commit(t, commit(t, commit(t, model.New(2), put("a", "1"))), put("b", "1"))
	before := deep(m)
	for _, at := range []int{0, 1, 4, -2, most, -1 << 63, 1<<63 - 1} {
		if next, block, err := model.Pin(m, at); !model.Same(next, before) || block != 0 || err != api.ErrRoot {
			t.Error(at, block, err)
		}
	}
	for _, block := range []int{0, 1, 2, 3, 4, -1, -2} {
		if next, err := model.Unpin(m, block); !model.Same(next, before) || err != api.ErrRoot {
			t.Error(block, err)
		}
	}
	m.All[1].Pins = most - 1
	m = pin(t, m, -1)
	for _, at := range []int{-1, 3} {
		if next, block, err := model.Pin(m, at); !model.Same(next, m) || block != 0 || err != api.ErrMany {
			t.Error(at, block, err)
		}
	}
	// A pin of the newest one is not asked for by -1 of Unpin, and there is no such map.
	if next, err := model.Unpin(m, -1); !model.Same(next, m) || err != api.ErrRoot {
		t.Error(err)
	}
	if next, err := model.Unpin(m, 3); next.All[1].Pins != most-1 || err != api.OK {
		t.Error(err)
	}
}

func TestAtAndBetween(t *testing.T) {
	m := pin(t, model.New(1), 0)
	m = commit(t, m, put("a", "1"), put("b", "2"))
	m = commit(t, pin(t, m, 1), gone("a"), put("c", "3"))
	m = commit(t, m, put("c", "4"))
	has(t, m, 0, 1, 3)
	maps := map[int][]api.Entry{0: nil, 1: {e("a", "1"), e("b", "2")}, 3: {e("b", "2"), e("c", "4")}}
	for from := -2; from < 6; from++ {
		want, in := maps[from]
		l, err := model.At(m, from)
		if in && (!slices.Equal(l, want) || err != api.OK) || !in && (len(l) != 0 || err != api.ErrRoot) {
			t.Error(from, l, err)
		}
		for to := -2; to < 6; to++ {
			other, is := maps[to]
			c, err := model.Between(m, from, to)
			if in && is && (!slices.Equal(c, canon.Diff(want, other)) || err != api.OK) || !(in && is) && (len(c) != 0 || err != api.ErrRoot) {
				t.Error(from, to, c, err)
			}
		}
	}
}

func TestValid(t *testing.T) {
	fill := func(n int) []api.Entry {
		var l []api.Entry
		for i := range n {
			l = append(l, e(string([]byte{'k', byte(i)}), "v"))
		}
		return l
	}
	v := func(block, pins int) model.Version { return model.Version{Block: block, Pins: pins} }
	for i, m := range []model.Model{
		{Window: 1, Next: 1, All: []model.Version{v(0, 0)}}, {Window: 8, Next: most, All: []model.Version{v(0, 1), v(most-9, most), v(most-8, 0), v(most-1, 0)}},
		{Window: 2, Next: 5, All: []model.Version{v(4, 0)}}, {Window: 2, Next: 5, All: []model.Version{v(1, 2), v(3, 0), v(4, 5)}},
		{Window: 2, Next: 5, All: []model.Version{{Block: 4, Entries: fill(40), Changes: []api.Change{{}, {Key: "much too long"}}}}},
	} {
		if !model.Valid(m) {
			t.Error(i, "is not valid")
		}
	}
	for i, m := range []model.Model{
		{}, {Window: 0, Next: 1, All: []model.Version{v(0, 0)}}, {Window: 9, Next: 1, All: []model.Version{v(0, 0)}}, {Window: -1, Next: 1, All: []model.Version{v(0, 0)}},
		{Window: 1, Next: 1}, {Window: 1, Next: 0, All: []model.Version{v(-1, 0)}}, {Window: 1, Next: 2, All: []model.Version{v(0, 0)}}, {Window: 1, Next: 1, All: []model.Version{v(1, 0)}},
		{Window: 1, Next: most + 1, All: []model.Version{v(most, 0)}}, {Window: 2, Next: 3, All: []model.Version{v(2, 0), v(2, 0)}}, {Window: 8, Next: 3, All: []model.Version{v(1, 0), v(0, 0), v(2, 0)}},
		{Window: 8, Next: 2, All: []model.Version{v(-1, 1), v(1, 0)}}, {Window: 1, Next: 2, All: []model.Version{v(0, 0), v(1, 0)}}, {Window: 2, Next: 4, All: []model.Version{v(1, 0), v(3, 0)}},
		{Window: 2, Next: 4, All: []model.Version{v(2, -1), v(3, 0)}}, {Window: 2, Next: 4, All: []model.Version{v(2, most+1), v(3, 0)}}, {Window: 2, Next: 4, All: []model.Version{v(2, 0), v(3, -1)}},
		{Window: 2, Next: 4, All: []model.Version{{Block: 2, Entries: []api.Entry{e("", "1")}}, v(3, 0)}}, {Window: 2, Next: 4, All: []model.Version{{Block: 3, Entries: fill(41)}}},
		{Window: 2, Next: 4, All: []model.Version{{Block: 3, Entries: []api.Entry{e("b", "1"), e("a", "1")}}}}, {Window: 1, Next: -1 << 63, All: []model.Version{v(1<<63-1, 0)}},
	} {
		if model.Valid(m) {
			t.Error(i, "is valid")
		}
		before := deep(m)
		same := func(next model.Model) bool { return model.Same(next, before) && model.Same(m, before) }
		if next, block, err := model.Commit(m, []api.Change{put("a", "1")}); !same(next) || block != 0 || err != api.ErrArg {
			t.Error(i, block, err)
		}
		for _, at := range []int{-1, 0, 3} {
			if next, block, err := model.Pin(m, at); !same(next) || block != 0 || err != api.ErrArg {
				t.Error(i, block, err)
			}
			if next, err := model.Unpin(m, at); !same(next) || err != api.ErrArg {
				t.Error(i, err)
			}
			if l, err := model.At(m, at); len(l) != 0 || err != api.ErrArg {
				t.Error(i, l, err)
			}
			if c, err := model.Between(m, at, at); len(c) != 0 || err != api.ErrArg {
				t.Error(i, c, err)
			}
		}
	}
}

func TestSame(t *testing.T) {
	whole := func() model.Model {
		return model.Model{Window: 2, Next: 3, All: []model.Version{{Block: 1, Entries: []api.Entry{e("a", "1")}, Changes: []api.Change{put("a", "1")}, Pins: 1}, {Block: 2}}}
	}
	if !model.Same(whole(), whole()) || !model.Same(model.Model{}, model.Model{All: []model.Version{}}) {
		t.Error("alike ones are not")
	}
	for i, change := range []func(m *model.Model){
		func(m *model.Model) { m.Window++ }, func(m *model.Model) { m.Next-- }, func(m *model.Model) { m.All = m.All[:1] }, func(m *model.Model) { m.All = append(m.All, model.Version{}) },
		func(m *model.Model) { m.All[0].Block = 0 }, func(m *model.Model) { m.All[0].Pins = 0 }, func(m *model.Model) { m.All[1].Pins = 1 }, func(m *model.Model) { m.All[0].Entries = nil },
		func(m *model.Model) { m.All[0].Entries[0].Value = "2" }, func(m *model.Model) { m.All[0].Entries[0].Key = "b" }, func(m *model.Model) { m.All[0].Changes = nil },
		func(m *model.Model) { m.All[0].Changes[0].Gone = true }, func(m *model.Model) { m.All[1].Changes = []api.Change{{}} }, func(m *model.Model) { m.All[0], m.All[1] = m.All[1], m.All[0] },
	} {
		other := whole()
		change(&other)
		if model.Same(whole(), other) || model.Same(other, whole()) {
			t.Error(i, "is alike")
		}
	}
}

// overwrite writes into all memory of a model.
func overwrite(m model.Model) {
	for i := range m.All {
		for j := range m.All[i].Entries {
			m.All[i].Entries[j] = e("zzz", "zzz")
		}
		for j := range m.All[i].Changes {
			m.All[i].Changes[j] = put("zzz", "zzz")
		}
		m.All[i].Block, m.All[i].Pins = 777, 777
	}
}

func TestAnswersShareNothing(t *testing.T) {
	whole := func() model.Model {
		m := commit(t, pin(t, commit(t, model.New(2), put("a", "1"), put("b", "2")), 1), put("c", "3"))
		return commit(t, m, gone("a"))
	}
	m := whole()
	for i, call := range []func(){
		func() { next, _, _ := model.Commit(m, nil); overwrite(next) },
		func() { next, _, _ := model.Pin(m, -1); overwrite(next) },
		func() { next, _ := model.Unpin(m, 1); overwrite(next) },
		func() { l, _ := model.At(m, 1); clear(l) },
		func() { c, _ := model.Between(m, 1, 3); clear(c) },
	} {
		if call(); !model.Same(m, whole()) {
			t.Fatal(i, "the answer shares memory with the argument")
		}
	}
	// A version's Entries are not those of the one ahead.
	next := commit(t, m)
	clear(next.All[len(next.All)-1].Entries)
	if v := next.All[len(next.All)-2]; v.Block != 3 || !slices.Equal(v.Entries, m.All[len(m.All)-1].Entries) {
		t.Error("two versions share memory")
	}
	c := []api.Change{put("x", "1"), gone("b")}
	commit(t, m, c...)
	if !slices.Equal(c, []api.Change{put("x", "1"), gone("b")}) {
		t.Error("changes were changed")
	}
}

// Each version is the one ahead, with its changes; what is pinned stays as it was.
func TestManyBlocks(t *testing.T) {
	r := rand.New(rand.NewSource(1))
	m := model.New(3)
	maps := map[int][]api.Entry{0: nil}
	pins := map[int]int{}
	for range 2000 {
		switch r.Intn(4) {
		case 0:
			at := r.Intn(m.Next+1) - 1
			next, block, err := model.Pin(m, at)
			_, there := maps[at]
			if there = there || at == -1; there != (err == api.OK) {
				t.Fatal(at, err)
			}
			if m = next; there {
				pins[block]++
			}
		case 1:
			block := r.Intn(m.Next)
			next, err := model.Unpin(m, block)
			if (pins[block] > 0) != (err == api.OK) {
				t.Fatal(block, err)
			}
			if m = next; err == api.OK {
				pins[block]--
			}
		default:
			newest := m.All[len(m.All)-1].Entries
			c := []api.Change{put(string([]byte{byte(r.Intn(20))}), strings.Repeat("v", 1+r.Intn(3))), gone(string([]byte{byte(r.Intn(20))}))}
			m = commit(t, m, c...)
			maps[m.Next-1], _ = canon.Apply(newest, c)
			if v := m.All[len(m.All)-1]; !slices.Equal(v.Changes, canon.Diff(newest, v.Entries)) {
				t.Fatal(v)
			}
		}
		for block := range maps {
			if block < m.Next-3 && block != m.Next-1 && pins[block] == 0 {
				delete(maps, block)
			}
		}
		if len(maps) != len(m.All) || !model.Valid(m) {
			t.Fatal(blocks(m))
		}
		for block, want := range maps {
			if l, err := model.At(m, block); !slices.Equal(l, want) || err != api.OK {
				t.Fatal(block, l, err)
			}
		}
		for _, v := range m.All {
			if v.Pins != pins[v.Block] {
				t.Fatal(v)
			}
		}
	}
}

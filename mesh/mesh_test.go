package mesh_test

import (
	"math"
	"math/rand"
	"slices"
	"strconv"
	"testing"

	"guilloche/mesh"
)

// laid is a mesh in which some frames are on their way.
func laid(room int, l ...string) *mesh.Mesh {
	m := mesh.New(room)
	for _, s := range l {
		m.Send(s)
	}
	return m
}

func all(t *testing.T, m *mesh.Mesh, want ...string) {
	t.Helper()
	if got := m.All(); !slices.Equal(got, want) {
		t.Errorf("All = %q; want %q", got, want)
	}
}

func TestExample(t *testing.T) {
	m := mesh.New(2)
	all(t, m)
	if !m.Send("x") || !m.Send("y") {
		t.Error("no room")
	}
	if s, ok := m.Take(1); s != "y" || !ok {
		t.Error(s, ok)
	}
	all(t, m, "x")
	if s, ok := m.Take(0); s != "x" || !ok {
		t.Error(s, ok)
	}
	all(t, m)
}

func TestRoom(t *testing.T) {
	for _, x := range []struct{ room, want int }{{math.MinInt, 1}, {-1, 1}, {0, 1}, {1, 1}, {2, 2}, {63, 63}, {64, 64}, {65, 64}, {math.MaxInt, 64}} {
		m := mesh.New(x.room)
		for i := range 70 {
			if ok := m.Send(strconv.Itoa(i)); ok != (i < x.want) {
				t.Errorf("room %d: Send %d = %v", x.room, i, ok)
			}
		}
		if n := len(m.All()); n != x.want {
			t.Error(x.room, n)
		}
		if m.Double(0) {
			t.Errorf("room %d: doubled without room", x.room)
		}
		if n := len(m.All()); n != x.want || m.Count("0") != 1 {
			t.Error(x.room, n)
		}
		if !m.Drop(0) || !m.Send("new") || m.Send("newer") {
			t.Error(x.room)
		}
	}
}

// Where no frame is nothing is done.
func TestNoPlace(t *testing.T) {
	for _, l := range [][]string{nil, {"x"}, {"x", "y", "z"}} {
		for _, n := range []int{-1, len(l), len(l) + 1, 64, 1 << 40, math.MinInt, math.MaxInt} {
			m := laid(9, l...)
			if s, ok := m.Take(n); s != "" || ok {
				t.Error(n, s, ok)
			}
			if m.Drop(n) || m.Double(n) || m.Move(n, 0) || m.Move(0, n) || m.Move(n, n) {
				t.Error(n)
			}
			all(t, m, l...)
		}
	}
}

func TestDrop(t *testing.T) {
	m := laid(9, "x", "y", "z")
	if !m.Drop(1) {
		t.Error("not dropped")
	}
	all(t, m, "x", "z")
}

func TestDouble(t *testing.T) {
	m := laid(4, "x", "y", "z")
	if !m.Double(0) {
		t.Error("not doubled")
	}
	all(t, m, "x", "y", "z", "x")
	if m.Double(0) || m.Double(3) {
		t.Error("no room")
	}
	all(t, m, "x", "y", "z", "x")
}

func TestMove(t *testing.T) {
	for _, x := range []struct {
		n, to int
		want  string
	}{{0, 3, "bcda"}, {3, 0, "dabc"}, {1, 2, "acbd"}, {2, 1, "acbd"}, {1, 3, "acdb"}, {3, 1, "adbc"}, {0, 0, "abcd"}, {3, 3, "abcd"}} {
		// It needs no room of its own.
		m := laid(4, "a", "b", "c", "d")
		if !m.Move(x.n, x.to) {
			t.Error(x)
		}
		var got string
		for _, s := range m.All() {
			got += s
		}
		if got != x.want {
			t.Errorf("Move(%d, %d): %s; want %s", x.n, x.to, got, x.want)
		}
	}
}

func TestCount(t *testing.T) {
	m := laid(9, "x", "", "x", "y", "xx", "")
	for s, want := range map[string]int{"x": 2, "": 2, "y": 1, "xx": 1, "z": 0} {
		if n := m.Count(s); n != want {
			t.Errorf("Count(%q) = %d; want %d", s, n, want)
		}
	}
}

// An empty frame is one, too.
func TestEmptyFrame(t *testing.T) {
	m := laid(2, "")
	all(t, m, "")
	if s, ok := m.Take(0); s != "" || !ok {
		t.Error(s, ok)
	}
}

func TestAllIsApart(t *testing.T) {
	m := laid(9, "x", "y")
	got := m.All()
	clear(got)
	_ = append(got[:0], "q", "q", "q")
	all(t, m, "x", "y")
	before := m.All()
	m.Move(0, 1)
	m.Drop(0)
	if !slices.Equal(before, []string{"x", "y"}) {
		t.Error(before)
	}
}

// It does as a plain row does, and nothing is taken more often than it was sent and doubled.
func TestAgainstARow(t *testing.T) {
	r := rand.New(rand.NewSource(1))
	for round := range 60 {
		room := 1 + round%8
		m, row := mesh.New(room), []string(nil)
		sent, taken := map[string]int{}, map[string]int{}
		for range 200 {
			n, to, s := r.Intn(room+2)-1, r.Intn(room+2)-1, strconv.Itoa(r.Intn(5))
			in := n >= 0 && n < len(row)
			var ok, want bool
			switch r.Intn(5) {
			case 0, 1:
				if ok, want = m.Send(s), len(row) < room; want {
					row = append(row, s)
					sent[s]++
				}
			case 2:
				var got string
				if got, ok = m.Take(n); in {
					want = true
					taken[got]++
					if got != row[n] {
						t.Fatalf("Take(%d) = %q of %q", n, got, row)
					}
					row = slices.Delete(row, n, n+1)
				}
			case 3:
				if ok, want = m.Double(n), in && len(row) < room; want {
					sent[row[n]]++
					row = append(row, row[n])
				}
			case 4:
				if ok, want = m.Move(n, to), in && to >= 0 && to < len(row); want {
					s := row[n]
					row = slices.Insert(slices.Delete(row, n, n+1), to, s)
				}
			}
			if ok != want {
				t.Fatalf("%v; want %v", ok, want)
			}
			all(t, m, row...)
			if taken[s]+m.Count(s) > sent[s] {
				t.Fatalf("%q: %d taken of %d", s, taken[s], sent[s])
			}
		}
	}
}

package cache_test

import (
	"math/rand"
	"slices"
	"strconv"
	"testing"

	"guilloche/cache"
)

// get asks for a key, and tells what it must find ("" stands for nothing).
func get(t *testing.T, c *cache.Cache, key, want string) {
	t.Helper()
	if v, ok := c.Get(key); v != want || ok != (want != "") {
		t.Errorf("Get(%q) = %q, %v; want %q", key, v, ok, want)
	}
}

func offer(t *testing.T, c *cache.Cache, key, value string, want bool) {
	t.Helper()
	if c.Offer(key, value) != want {
		t.Errorf("Offer(%q) = %v", key, !want)
	}
}

func keys(t *testing.T, c *cache.Cache, want ...string) {
	t.Helper()
	if got := c.Keys(); !slices.Equal(got, want) {
		t.Errorf("Keys = %q; want %q", got, want)
	}
}

func often(t *testing.T, c *cache.Cache, key string, want int) {
	t.Helper()
	if got := c.Often(key); got != want {
		t.Errorf("Often(%q) = %d; want %d", key, got, want)
	}
}

func TestExample(t *testing.T) {
	c := cache.New(1)
	keys(t, c)
	offer(t, c, "a", "1", true)
	offer(t, c, "b", "2", false)
	get(t, c, "a", "1")
	get(t, c, "b", "")
	offer(t, c, "b", "2", false)
	keys(t, c, "a")
	get(t, c, "b", "")
	offer(t, c, "b", "2", true)
	keys(t, c, "b")
	get(t, c, "b", "2")
	get(t, c, "a", "")
}

func TestOrder(t *testing.T) {
	c := cache.New(3)
	for _, k := range []string{"a", "b", "c"} {
		offer(t, c, k, k+k, true)
	}
	keys(t, c, "c", "b", "a")
	get(t, c, "a", "aa")
	keys(t, c, "a", "c", "b")
	get(t, c, "c", "cc")
	keys(t, c, "c", "a", "b")
	get(t, c, "x", "")
	keys(t, c, "c", "a", "b")
	// What is there has the new value, and is the first one.
	offer(t, c, "b", "new", true)
	keys(t, c, "b", "c", "a")
	get(t, c, "b", "new")
	offer(t, c, "d", "dd", false)
	keys(t, c, "b", "c", "a")
	// The last one goes, not one that is counted less.
	get(t, c, "d", "")
	offer(t, c, "d", "dd", false)
	get(t, c, "d", "")
	offer(t, c, "d", "dd", true)
	keys(t, c, "d", "b", "c")
	get(t, c, "d", "dd")
	get(t, c, "a", "")
}

func TestOfferCountsNothing(t *testing.T) {
	c := cache.New(2)
	for range 50 {
		c.Offer("a", "1")
		c.Offer("b", "1")
		c.Offer("c", "1")
	}
	often(t, c, "a", 0)
	if c.Counted() != 0 {
		t.Error(c.Counted())
	}
}

func TestForget(t *testing.T) {
	c := cache.New(3)
	offer(t, c, "a", "1", true)
	offer(t, c, "b", "2", true)
	get(t, c, "a", "1")
	if !c.Forget("a") || c.Forget("a") || c.Forget("x") {
		t.Error("Forget tells otherwise")
	}
	keys(t, c, "b")
	often(t, c, "a", 1)
	get(t, c, "a", "")
	often(t, c, "a", 2)
	offer(t, c, "a", "3", true)
	keys(t, c, "a", "b")
	get(t, c, "a", "3")
}

func TestNeverAbove15(t *testing.T) {
	c := cache.New(64)
	for i := range 40 {
		get(t, c, "a", "")
		often(t, c, "a", min(i+1, 15))
	}
	if c.Counted() != 1 {
		t.Error(c.Counted())
	}
}

func TestHalving(t *testing.T) {
	c := cache.New(2)
	for range 3 {
		get(t, c, "a", "")
	}
	get(t, c, "b", "")
	for range 15 {
		get(t, c, "c", "")
	}
	often(t, c, "c", 15)
	often(t, c, "a", 3)
	if c.Counted() != 3 {
		t.Error(c.Counted())
	}
	// The twentieth ask halves all, behind it: c is counted no higher, but was asked for.
	get(t, c, "c", "")
	often(t, c, "c", 7)
	often(t, c, "a", 1)
	often(t, c, "b", 0)
	if c.Counted() != 2 {
		t.Error(c.Counted())
	}
	// And the twentieth from there on.
	for range 19 {
		get(t, c, "d", "")
	}
	often(t, c, "d", 15)
	often(t, c, "c", 7)
	get(t, c, "e", "")
	often(t, c, "d", 7)
	often(t, c, "c", 3)
	often(t, c, "a", 0)
	often(t, c, "e", 0)
	if c.Counted() != 2 {
		t.Error(c.Counted())
	}
}

// What is found is asked for, too.
func TestHalvingBehindWhatIsFound(t *testing.T) {
	c := cache.New(1)
	offer(t, c, "a", "1", true)
	for i := range 9 {
		get(t, c, "a", "1")
		often(t, c, "a", i+1)
	}
	get(t, c, "a", "1")
	often(t, c, "a", 5)
	keys(t, c, "a")
}

func TestSizes(t *testing.T) {
	for _, size := range []int{0, -1, -1 << 63} {
		c := cache.New(size)
		for range 30 {
			offer(t, c, "a", "1", false)
			get(t, c, "a", "")
		}
		keys(t, c)
		often(t, c, "a", 0)
		if c.Counted() != 0 || c.Forget("a") {
			t.Error("of size 0 something is there")
		}
	}
	for _, x := range []struct{ size, most int }{{1, 1}, {63, 63}, {64, 64}, {65, 64}, {1<<63 - 1, 64}} {
		c := cache.New(x.size)
		for i := range 100 {
			offer(t, c, strconv.Itoa(i), "1", i < x.most)
		}
		if len(c.Keys()) != x.most {
			t.Error(x.size, len(c.Keys()))
		}
		// It halves when it was asked ten times as often as it has things at most.
		for i := range 10*x.most - 1 {
			get(t, c, "z"+strconv.Itoa(i), "")
		}
		if c.Counted() != 10*x.most-1 {
			t.Error(x.size, c.Counted())
		}
		if get(t, c, "z0", ""); c.Counted() != 1 {
			t.Error(x.size, c.Counted())
		}
		often(t, c, "z0", 1)
	}
}

func TestAnyText(t *testing.T) {
	c := cache.New(2)
	offer(t, c, "", "", true)
	if v, ok := c.Get(""); v != "" || !ok {
		t.Error(v, ok)
	}
	often(t, c, "", 1)
	offer(t, c, "\xff\x00", "v", true)
	keys(t, c, "\xff\x00", "")
	clear(c.Keys())
	keys(t, c, "\xff\x00", "")
}

// simple is the same, kept in another way.
type simple struct {
	size, asked int
	keys        []string
	values      map[string]string
	often       map[string]int
}

func (s *simple) first(key string) {
	s.keys = append([]string{key}, slices.DeleteFunc(s.keys, func(k string) bool { return k == key })...)
}

func (s *simple) get(key string) (string, bool) {
	s.asked++
	if s.often[key] < 15 {
		s.often[key]++
	}
	there := slices.Contains(s.keys, key)
	if there {
		s.first(key)
	}
	if s.asked%(10*s.size) == 0 {
		for k := range s.often {
			s.often[k] /= 2
		}
	}
	if !there {
		return "", false
	}
	return s.values[key], true
}

func (s *simple) offer(key, value string) bool {
	if !slices.Contains(s.keys, key) && len(s.keys) == s.size {
		last := s.keys[len(s.keys)-1]
		if s.often[key] <= s.often[last] {
			return false
		}
		s.keys = s.keys[:len(s.keys)-1]
	}
	s.first(key)
	s.values[key] = value
	return true
}

func TestAgainstASimpleOne(t *testing.T) {
	r := rand.New(rand.NewSource(1))
	for size := 1; size < 8; size++ {
		c := cache.New(size)
		s := &simple{size: size, values: map[string]string{}, often: map[string]int{}}
		for range 4000 {
			key, value := strconv.Itoa(r.Intn(2+r.Intn(12))), strconv.Itoa(r.Intn(100))
			switch r.Intn(8) {
			case 0, 1, 2, 3:
				v, ok := c.Get(key)
				if w, is := s.get(key); v != w || ok != is {
					t.Fatalf("Get(%q) = %q, %v; want %q, %v", key, v, ok, w, is)
				}
			case 4, 5, 6:
				if ok, is := c.Offer(key, value), s.offer(key, value); ok != is {
					t.Fatalf("Offer(%q) = %v", key, ok)
				}
			default:
				if c.Forget(key) != slices.Contains(s.keys, key) {
					t.Fatalf("Forget(%q) tells otherwise", key)
				}
				s.keys = slices.DeleteFunc(s.keys, func(k string) bool { return k == key })
			}
			if !slices.Equal(c.Keys(), s.keys) || len(s.keys) > size {
				t.Fatalf("Keys = %q; want %q", c.Keys(), s.keys)
			}
			counted := 0
			for i := range 14 {
				key := strconv.Itoa(i)
				if often(t, c, key, s.often[key]); s.often[key] > 0 {
					counted++
				}
			}
			if c.Counted() != counted {
				t.Fatal(c.Counted(), counted)
			}
		}
	}
}

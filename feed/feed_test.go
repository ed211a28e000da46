package feed_test

import (
	"math/rand"
	"slices"
	"strings"
	"testing"

	"guilloche/api"
	"guilloche/feed"
)

// block is a notice of a block.
func block(n int) api.Notice {
	return api.Notice{Block: n, Root: strings.Repeat("r", 32), Changes: []api.Change{{Key: "k", Value: strings.Repeat("v", n)}, {Key: "x", Gone: true}}}
}

func same(a, b api.Notice) bool {
	return a.Session == b.Session && a.Err == b.Err && a.Block == b.Block && a.Root == b.Root && slices.Equal(a.Changes, b.Changes)
}

// told is a notice as a session is told it.
func told(session, n int) api.Notice {
	x := block(n)
	x.Session = session
	return x
}

func lag(session, n int) api.Notice {
	return api.Notice{Session: session, Err: api.ErrLagged, Block: n}
}

func push(t *testing.T, f *feed.Feed, n int, lagged ...int) {
	t.Helper()
	if got := f.Push(block(n)); !slices.Equal(got, lagged) {
		t.Errorf("Push(%d) = %v; want %v", n, got, lagged)
	}
}

func pop(t *testing.T, f *feed.Feed, session int, want api.Notice) {
	t.Helper()
	if got, ok := f.Pop(session); !same(got, want) || !ok {
		t.Errorf("Pop(%d) = %v, %v; want %v", session, got, ok, want)
	}
}

func empty(t *testing.T, f *feed.Feed, session int) {
	t.Helper()
	if got, ok := f.Pop(session); !same(got, api.Notice{}) || ok || f.Waiting(session) != 0 {
		t.Errorf("Pop(%d) = %v, %v", session, got, ok)
	}
}

func sessions(t *testing.T, f *feed.Feed, want ...int) {
	t.Helper()
	if got := f.Sessions(); !slices.Equal(got, want) {
		t.Errorf("Sessions = %v; want %v", got, want)
	}
}

func TestExample(t *testing.T) {
	f := feed.New(1)
	f.Subscribe(1)
	push(t, f, 1)
	push(t, f, 2, 1)
	pop(t, f, 1, told(1, 1))
	pop(t, f, 1, lag(1, 2))
	empty(t, f, 1)
	if f.Follows(1) {
		t.Error("it follows")
	}
}

func TestRooms(t *testing.T) {
	for _, x := range []struct{ room, want int }{{1, 1}, {4, 4}, {2, 2}, {0, 1}, {-1 << 63, 1}, {5, 4}, {1 << 40, 4}} {
		f := feed.New(x.room)
		f.Subscribe(7)
		for n := 1; n <= x.want; n++ {
			push(t, f, n)
		}
		if f.Waiting(7) != x.want || !f.Follows(7) {
			t.Error(x.room, f.Waiting(7))
		}
		push(t, f, 9, 7)
		push(t, f, 10)
		if f.Waiting(7) != x.want+1 || f.Follows(7) {
			t.Error(x.room, f.Waiting(7))
		}
		for n := 1; n <= x.want; n++ {
			pop(t, f, 7, told(7, n))
		}
		pop(t, f, 7, lag(7, 9))
		empty(t, f, 7)
		sessions(t, f)
	}
}

func TestSubscribe(t *testing.T) {
	f := feed.New(2)
	sessions(t, f)
	for _, s := range []int{5, -3, 0, 1 << 40} {
		if f.Follows(s) || !f.Subscribe(s) || !f.Follows(s) || f.Subscribe(s) || !f.Follows(s) {
			t.Error(s)
		}
	}
	sessions(t, f, -3, 0, 5, 1<<40)
	if f.Subscribe(9) || f.Follows(9) {
		t.Error("a fifth one follows")
	}
	if f.Unsubscribe(9) || !f.Unsubscribe(0) || f.Unsubscribe(0) || f.Follows(0) {
		t.Error("Unsubscribe tells otherwise")
	}
	sessions(t, f, -3, 5, 1<<40)
	if !f.Subscribe(9) || f.Subscribe(0) {
		t.Error("there is a place for one")
	}
	// One that lagged leaves its place.
	for n := range 3 {
		f.Push(block(n))
	}
	if !f.Subscribe(1) || !f.Subscribe(2) || !f.Subscribe(3) || !f.Subscribe(4) || f.Subscribe(6) {
		t.Error("there are four places")
	}
	sessions(t, f, -3, 1, 2, 3, 4, 5, 9, 1<<40)
}

func TestUnsubscribeKeepsTheQueue(t *testing.T) {
	f := feed.New(3)
	f.Subscribe(1)
	push(t, f, 1)
	push(t, f, 2)
	f.Unsubscribe(1)
	push(t, f, 3)
	sessions(t, f, 1)
	if f.Waiting(1) != 2 {
		t.Error(f.Waiting(1))
	}
	f.Subscribe(1)
	push(t, f, 4)
	pop(t, f, 1, told(1, 1))
	pop(t, f, 1, told(1, 2))
	pop(t, f, 1, told(1, 4))
	empty(t, f, 1)
	sessions(t, f, 1)
	f.Unsubscribe(1)
	sessions(t, f)
}

func TestOrderOfThoseThatLag(t *testing.T) {
	f := feed.New(1)
	for _, s := range []int{9, 2, 5} {
		f.Subscribe(s)
	}
	push(t, f, 1)
	pop(t, f, 5, told(5, 1))
	push(t, f, 2, 2, 9)
	push(t, f, 3, 5)
	pop(t, f, 5, told(5, 2))
	pop(t, f, 5, lag(5, 3))
	pop(t, f, 2, told(2, 1))
	pop(t, f, 2, lag(2, 2))
}

// One that subscribes again, behind having lagged, with what is in its queue still there.
func TestLaggedAgain(t *testing.T) {
	f := feed.New(2)
	f.Subscribe(1)
	push(t, f, 1)
	push(t, f, 2)
	push(t, f, 3, 1)
	// Its queue has no place at all: nothing is put.
	f.Subscribe(1)
	push(t, f, 4, 1)
	if f.Waiting(1) != 3 || f.Follows(1) {
		t.Error(f.Waiting(1))
	}
	pop(t, f, 1, told(1, 1))
	// It has room notices, the one that told that it lagged counted: it lags again.
	f.Subscribe(1)
	push(t, f, 5, 1)
	pop(t, f, 1, told(1, 2))
	pop(t, f, 1, lag(1, 3))
	f.Subscribe(1)
	// One is there, and there is room for one more.
	push(t, f, 6)
	push(t, f, 7, 1)
	pop(t, f, 1, lag(1, 5))
	pop(t, f, 1, told(1, 6))
	pop(t, f, 1, lag(1, 7))
	empty(t, f, 1)
}

func TestForget(t *testing.T) {
	f := feed.New(2)
	f.Subscribe(1)
	f.Subscribe(2)
	push(t, f, 1)
	push(t, f, 2)
	push(t, f, 3, 1, 2)
	if n := f.Forget(1); n != 3 || f.Waiting(1) != 0 || f.Follows(1) {
		t.Error(n)
	}
	if n := f.Forget(1); n != 0 {
		t.Error(n)
	}
	if n := f.Forget(-8); n != 0 {
		t.Error(n)
	}
	sessions(t, f, 2)
	f.Subscribe(3)
	if n := f.Forget(3); n != 0 || f.Follows(3) {
		t.Error(n)
	}
	sessions(t, f, 2)
	empty(t, f, 1)
}

// A notice is put as it is, whatever it is.
func TestAsItIs(t *testing.T) {
	f := feed.New(2)
	f.Subscribe(1)
	f.Push(api.Notice{Session: 77, Err: 5, Block: -1, Root: "x", Changes: []api.Change{{}}})
	pop(t, f, 1, api.Notice{Session: 1, Err: 5, Block: -1, Root: "x", Changes: []api.Change{{}}})
	f.Push(api.Notice{})
	pop(t, f, 1, api.Notice{Session: 1})
}

func TestQueuesAreApart(t *testing.T) {
	f := feed.New(2)
	f.Subscribe(1)
	f.Subscribe(2)
	n := block(3)
	f.Push(n)
	if !same(n, block(3)) {
		t.Error("the notice was changed")
	}
	clear(n.Changes)
	got, _ := f.Pop(1)
	if !same(got, told(1, 3)) {
		t.Error(got)
	}
	clear(got.Changes)
	clear(f.Sessions())
	pop(t, f, 2, told(2, 3))
	sessions(t, f, 1, 2)
}

// Block behind block; where one is missed it is told, and none follows.
func TestAgainstASimpleOne(t *testing.T) {
	r := rand.New(rand.NewSource(1))
	for room := 1; room <= 4; room++ {
		f := feed.New(room)
		queues, follows := map[int][]api.Notice{}, map[int]int{}
		for n := range 3000 {
			s := r.Intn(6)
			switch r.Intn(6) {
			case 0:
				if want := follows[s] == 0 && len(follows) < 4; f.Subscribe(s) != want {
					t.Fatal(s)
				} else if want {
					follows[s] = 1
				}
			case 1:
				if r.Intn(4) == 0 {
					if f.Unsubscribe(s) != (follows[s] == 1) {
						t.Fatal(s)
					}
					delete(follows, s)
				}
			case 2, 3:
				if len(queues[s]) == 0 {
					empty(t, f, s)
				} else {
					pop(t, f, s, queues[s][0])
					queues[s] = queues[s][1:]
				}
			case 4:
				if r.Intn(8) == 0 {
					if f.Forget(s) != len(queues[s]) {
						t.Fatal(s)
					}
					delete(queues, s)
					delete(follows, s)
				}
			default:
				var lagged []int
				for s := range 6 {
					switch {
					case follows[s] == 0:
					case len(queues[s]) < room:
						queues[s] = append(queues[s], told(s, n%50))
					default:
						if len(queues[s]) == room {
							queues[s] = append(queues[s], lag(s, n%50))
						}
						delete(follows, s)
						lagged = append(lagged, s)
					}
				}
				push(t, f, n%50, lagged...)
			}
			var want []int
			for s := range 6 {
				if follows[s] > 0 || len(queues[s]) > 0 {
					want = append(want, s)
				}
				if f.Waiting(s) != len(queues[s]) || f.Follows(s) != (follows[s] > 0) {
					t.Fatal(s, f.Waiting(s))
				}
			}
			sessions(t, f, want...)
		}
	}
}

package rlp_test

import (
	"errors"
	"math/rand"
	"slices"
	"strings"
	"testing"

	"guilloche/api"
	"guilloche/rlp"
)

func text(n int) string { return strings.Repeat("x", n) }

func TestText(t *testing.T) {
	for _, x := range []struct{ b, s string }{
		{"dog", "\x83dog"}, {"", "\x80"}, {"\x00", "\x00"}, {"a", "a"}, {"\x7f", "\x7f"}, {"\x80", "\x81\x80"}, {"\xff", "\x81\xff"},
		{text(2), "\x82xx"}, {text(55), "\xb7" + text(55)}, {text(56), "\xb8\x38" + text(56)}, {text(255), "\xb8\xff" + text(255)},
		{text(256), "\xb9\x01\x00" + text(256)}, {text(65535), "\xb9\xff\xff" + text(65535)}, {text(65536), "\xba\x01\x00\x00" + text(65536)},
		{text(1<<24 + 1), "\xbb\x01\x00\x00\x01" + text(1<<24+1)},
	} {
		if s := rlp.Text(x.b); s != x.s {
			t.Errorf("Text of %d bytes: %x", len(x.b), s[:min(9, len(s))])
		}
	}
}

func TestList(t *testing.T) {
	for _, x := range []struct {
		items []string
		s     string
	}{
		{nil, "\xc0"}, {[]string{"a"}, "\xc1a"}, {[]string{"\x83dog", "\xc0"}, "\xc5\x83dog\xc0"}, {[]string{""}, "\xc0"},
		{[]string{text(55)}, "\xf7" + text(55)}, {[]string{text(50), text(6)}, "\xf8\x38" + text(56)},
		{[]string{text(255), "y"}, "\xf9\x01\x00" + text(255) + "y"}, {[]string{text(1 << 24)}, "\xfb\x01\x00\x00\x00" + text(1<<24)},
	} {
		if s := rlp.List(x.items...); s != x.s {
			t.Errorf("List of %d items: %x", len(x.items), s[:min(9, len(s))])
		}
	}
}

func TestListLeavesItsItems(t *testing.T) {
	items := []string{"a", "\x83dog", "\xc0"}
	rlp.List(items...)
	if !slices.Equal(items, []string{"a", "\x83dog", "\xc0"}) {
		t.Error("items were changed", items)
	}
}

func TestSplit(t *testing.T) {
	for _, x := range []struct {
		s          string
		list       bool
		body, rest string
	}{
		{"a", false, "a", ""}, {"ab", false, "a", "b"}, {"\x00", false, "\x00", ""}, {"\x80", false, "", ""}, {"\x80\x80", false, "", "\x80"},
		{"\x83dogs", false, "dog", "s"}, {"\x81\x80", false, "\x80", ""}, {"\xc0", true, "", ""}, {"\xc1a", true, "a", ""},
		{"\xc1\x81\x05", true, "\x81", "\x05"}, {"\xb8\x38" + text(57), false, text(56), "x"}, {"\xf8\x38" + text(57), true, text(56), "x"},
		{"\xb9\x01\x00" + text(256), false, text(256), ""}, {"\xf7" + text(55), true, text(55), ""}, {"\xb7" + text(55), false, text(55), ""},
	} {
		list, body, rest, err := rlp.Split(x.s)
		if list != x.list || body != x.body || rest != x.rest || err != api.OK {
			t.Errorf("Split(%x) = %v, %x, %x, %v", x.s[:min(9, len(x.s))], list, body, rest, err)
		}
	}
}

func TestSplitOfNoItem(t *testing.T) {
	for _, s := range []string{
		"", "\x81", "\x83do", "\x81\x05", "\x81\x00", "\x81\x7f", "\xc1", "\xc2a", "\xb7" + text(54), "\xf7" + text(54),
		"\xb8", "\xf8", "\xb8\x38", "\xb8\x37" + text(55), "\xf8\x37" + text(55), "\xb8\x38" + text(55), "\xf8\x38" + text(55),
		"\xb8\x00", "\xb9\x00\x38" + text(56), "\xf9\x00\x38" + text(56), "\xb9\x00\xff" + text(255), "\xb9\x01", "\xba\x01\x00", "\xb9\x01\x00" + text(255),
		"\xba\x10\x00\x01" + text(1<<20+1), "\xfa\x10\x00\x01" + text(1<<20+1), "\xbb\x01\x00\x00\x00" + text(1<<24), "\xbb\x00\x00\x00\x38" + text(56),
		"\xbf\xff\xff\xff\xff\xff\xff\xff\xff", "\xff\xff\xff\xff\xff\xff\xff\xff\xff", "\xbf\x80\x00\x00\x00\x00\x00\x00\x00", "\xff\x7f\xff\xff\xff\xff\xff\xff\xff" + text(100),
		"\xbf\x00\x00\x00\x00\x00\x00\x00\x38" + text(56), "\xbb", "\xff",
	} {
		list, body, rest, err := rlp.Split(s)
		if list || body != "" || rest != "" || err != api.ErrMalformed {
			t.Errorf("Split(%x) = %v, %d bytes, %d bytes, %v", s[:min(9, len(s))], list, len(body), len(rest), err)
		}
	}
}

func TestSplitUpToItsBound(t *testing.T) {
	most := text(1 << 20)
	for _, s := range []string{rlp.Text(most), rlp.List(most)} {
		if _, body, rest, err := rlp.Split(s + "y"); body != most || rest != "y" || err != api.OK {
			t.Errorf("%x: %d bytes, %v", s[:4], len(body), err)
		}
	}
	for _, s := range []string{rlp.Text(most + "x"), rlp.List(most, "x")} {
		if _, body, rest, err := rlp.Split(s); body != "" || rest != "" || err != api.ErrMalformed {
			t.Errorf("%x: %d bytes, %v", s[:4], len(body), err)
		}
	}
}

// Every text of up to two bytes, with something behind: what is split is put again alike, and what is not is none of what is put.
func TestSplitInNoOtherWay(t *testing.T) {
	for a := 0; a < 256; a++ {
		for b := 0; b < 256; b++ {
			s := string([]byte{byte(a), byte(b)})
			list, body, rest, err := rlp.Split(s)
			if err != api.OK {
				continue
			}
			again := rlp.Text(body)
			if list {
				again = rlp.List(body)
			}
			if again+rest != s {
				t.Fatalf("Split(%x) = %v, %x, %x", s, list, body, rest)
			}
		}
	}
	r := rand.New(rand.NewSource(1))
	for range 300 {
		b := text(r.Intn(400))
		if list, body, rest, err := rlp.Split(rlp.Text(b) + "behind"); list || body != b || rest != "behind" || err != api.OK {
			t.Fatalf("a text of %d bytes is not split again", len(b))
		}
		if list, body, rest, err := rlp.Split(rlp.List(b) + "behind"); !list || body != b || rest != "behind" || err != api.OK {
			t.Fatalf("a list of %d bytes is not split again", len(b))
		}
	}
}

func TestItems(t *testing.T) {
	long := rlp.Text(text(300))
	for _, all := range [][]string{{}, {"a"}, {"a", "a"}, {"\x80", "\xc0", "\x83dog", "\xc1a", long, "\x81\xff", rlp.List(long, long)}} {
		got, err := rlp.Items(strings.Join(all, ""))
		if !slices.Equal(got, all) || err != api.OK {
			t.Errorf("Items of %d: %d, %v", len(all), len(got), err)
		}
	}
	// What is in a list is not looked at.
	if got, err := rlp.Items("\xc1\x81\x01"); len(got) != 2 || err != api.OK {
		t.Error(got, err)
	}
	for _, s := range []string{"\x81", "a\x81\x05", "aa\xc1", "\x80\x80\xb8", "\xc1a\x83do"} {
		if got, err := rlp.Items(s); len(got) != 0 || err != api.ErrMalformed {
			t.Errorf("Items(%x) = %x, %v", s, got, err)
		}
	}
}

func nest(s string, lists int) string {
	for range lists {
		s = rlp.List(s)
	}
	return s
}

func TestCheck(t *testing.T) {
	for _, s := range []string{
		"a", "\x80", "\x83dog", "\xc0", "\xc1a", "\xc2\xc1a", "\xc8\x83cat\x83dog", "\xc7\xc0\xc1\xc0\xc3\xc0\xc1\xc0",
		nest("", 32), nest("a", 32), nest(rlp.Text("dog"), 32), rlp.List(nest("a", 31), nest("b", 31), "c"), rlp.Text(text(70000)),
	} {
		if err := rlp.Check(s); err != api.OK {
			t.Errorf("Check(%x) = %v", s[:min(40, len(s))], err)
		}
	}
	for _, s := range []string{
		"", "ab", "\x80\x80", "\xc0\xc0", "\x81\x05", "\xc1", "\xc1\x81", "\xc2\x81\x05", "\xc3\xc2\x81\x05", "\xc3\xc0\xc1\x81", "\xc3a\x82b",
		nest("", 33), nest("a", 33), nest("a", 500), rlp.List("a", nest("a", 32)), rlp.List(nest("\x81\x05", 31)), rlp.List("a", "b", "\xc1"),
	} {
		if err := rlp.Check(s); err != api.ErrMalformed {
			t.Errorf("Check(%x) = %v", s[:min(40, len(s))], err)
		}
	}
}

func TestNum(t *testing.T) {
	for _, x := range []struct {
		n uint64
		s string
	}{
		{0, "\x80"}, {1, "\x01"}, {127, "\x7f"}, {128, "\x81\x80"}, {255, "\x81\xff"}, {256, "\x82\x01\x00"}, {1024, "\x82\x04\x00"},
		{65536, "\x83\x01\x00\x00"}, {1 << 56, "\x88\x01\x00\x00\x00\x00\x00\x00\x00"}, {1<<64 - 1, "\x88\xff\xff\xff\xff\xff\xff\xff\xff"},
	} {
		if s := rlp.Num(x.n); s != x.s {
			t.Errorf("Num(%d) = %x", x.n, s)
		}
		if n, err := rlp.GetNum(x.s); n != x.n || err != api.OK {
			t.Errorf("GetNum(%x) = %d, %v", x.s, n, err)
		}
	}
	for shift := range 64 {
		for _, n := range []uint64{1 << shift, 1<<shift - 1, 1<<shift + 1} {
			if got, err := rlp.GetNum(rlp.Num(n)); got != n || err != api.OK {
				t.Errorf("GetNum(Num(%d)) = %d, %v", n, got, err)
			}
		}
	}
}

func TestGetNumOfNone(t *testing.T) {
	for _, s := range []string{
		"", "\x00", "\x81\x00", "\x81\x05", "\x82\x00\x80", "\x82\x00\x01", "\xc0", "\xc1\x01", "\x01\x01", "\x80\x80", "\x82\x01", "\x01a",
		"\x89\x01\x00\x00\x00\x00\x00\x00\x00\x00", "\x89\x00\x00\x00\x00\x00\x00\x00\x00\x01", "\x88\x00\xff\xff\xff\xff\xff\xff\xff",
	} {
		if n, err := rlp.GetNum(s); n != 0 || err != api.ErrMalformed {
			t.Errorf("GetNum(%x) = %d, %v", s, n, err)
		}
	}
}

type placed struct {
	at   int
	next error
}

func (p placed) Error() string { return "placed" }
func (p placed) Unwrap() error { return p.next }
func (p placed) At() int       { return p.at }

type plain struct{ next error }

func (p plain) Error() string { return "plain" }
func (p plain) Unwrap() error { return p.next }

func TestWhy(t *testing.T) {
	for i, x := range []struct {
		err    error
		at     int
		number api.Errno
	}{
		{nil, -1, api.OK}, {errors.New("other"), -1, api.OK}, {api.ErrMalformed, -1, api.ErrMalformed}, {api.Errno(77), -1, 77},
		{placed{5, nil}, 5, api.OK}, {placed{5, api.ErrArg}, 5, api.ErrArg}, {placed{0, api.ErrArg}, 0, api.ErrArg}, {placed{-9, errors.New("x")}, -9, api.OK},
		{plain{placed{7, plain{api.ErrMany}}}, 7, api.ErrMany}, {plain{api.ErrFull}, -1, api.ErrFull},
		{placed{1, placed{2, api.ErrRoot}}, 1, api.ErrRoot}, {plain{nil}, -1, api.OK},
		{errors.Join(plain{api.ErrNone}, placed{3, nil}), 3, api.ErrNone}, {errors.Join(api.ErrArg, api.ErrMany), -1, api.ErrArg},
	} {
		if at, number := rlp.Why(x.err); at != x.at || number != x.number {
			t.Errorf("%d: Why = %d, %v", i, at, number)
		}
	}
}

// Whatever the bytes are, no call panics, and beside an error all is zero.
func TestAnyBytes(t *testing.T) {
	r := rand.New(rand.NewSource(2))
	heads := "\x00\x7f\x80\x81\xb7\xb8\xb9\xbf\xc0\xc1\xc2\xf7\xf8\xf9\xff\x01\x38\x37"
	for range 30000 {
		b := make([]byte, r.Intn(12))
		for i := range b {
			b[i] = heads[r.Intn(len(heads))]
		}
		s := string(b)
		list, body, rest, err := rlp.Split(s)
		if err != api.OK && (list || body != "" || rest != "") {
			t.Fatalf("Split(%x) tells something beside %v", s, err)
		}
		all, bad := rlp.Items(s)
		if bad == api.OK && strings.Join(all, "") != s || bad != api.OK && len(all) > 0 {
			t.Fatalf("Items(%x) = %x, %v", s, all, bad)
		}
		if rlp.Check(s) == api.OK && (err != api.OK || rest != "") {
			t.Fatalf("Check(%x) is OK", s)
		}
		if n, err := rlp.GetNum(s); err == api.OK && rlp.Num(n) != s || err != api.OK && n != 0 {
			t.Fatalf("GetNum(%x) = %d, %v", s, n, err)
		}
	}
}

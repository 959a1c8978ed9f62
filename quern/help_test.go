package quern

import (
	"strconv"
	"strings"
	"testing"
	"unsafe"

	"quern/api"
)

const (
	widest  = "abcdefghijkl" // a name of MaxName bytes
	tooWide = widest + "m"
)

func at(kind api.Errno, line int) api.Error { return api.Error{Kind: kind, Line: line} }

// name makes the names n100, n101, and so on: of one length, and in order.
func name(i int) string { return "n" + strconv.Itoa(100+i) }

// copies makes a file that says as many facts of the same two names.
func copies(n int) string { return strings.Repeat("a = b\n", n) }

// fill makes a text of that many bytes out of lines of nothing.
func fill(text string, size int) string {
	for len(text) < size {
		text += strings.Repeat(" ", min(size-len(text)-1, api.MaxLine)) + "\n"
	}
	return text
}

func factsOf(n int, f func(i int) api.Fact) []api.Fact {
	var l []api.Fact
	for i := range n {
		l = append(l, f(i))
	}
	return l
}

// shares tells whether two texts lie in the same memory.
func shares(a, b string) bool {
	if a == "" || b == "" {
		return false
	}
	p, q := uintptr(unsafe.Pointer(unsafe.StringData(a))), uintptr(unsafe.Pointer(unsafe.StringData(b)))
	return p < q+uintptr(len(b)) && q < p+uintptr(len(a))
}

func TestLimits(t *testing.T) {
	if len(widest) != api.MaxName {
		t.Fatal("the tests' widest name is not at the limit")
	}
	if s := fill("p = q\n", api.MaxFile); len(s) != api.MaxFile {
		t.Fatal("fill misses the size: ", len(s))
	}
}

package queue

import (
	"slices"
	"testing"
)

func TestOrder(t *testing.T) {
	q := New(func(one int, other int) bool { return one < other })
	var want []int
	x := 1
	for range 200 {
		x = x * 75 % 65537
		want = append(want, x%50)
		q.Put(x % 50)
	}
	slices.Sort(want)
	for i, w := range want {
		if got, ok := q.Take(); got != w || !ok {
			t.Fatalf("taken as number %d: %d, %v, want %d", i, got, ok, w)
		}
	}
	if got, ok := q.Take(); got != 0 || ok {
		t.Errorf("taken of nothing: %d, %v", got, ok)
	}
}

func TestPutBetween(t *testing.T) {
	q := New(func(one string, other string) bool { return len(one) < len(other) })
	take := func(want string) {
		t.Helper()
		if got, _ := q.Take(); got != want {
			t.Errorf("taken: %q, want %q", got, want)
		}
	}
	q.Put("aaa")
	q.Put("a")
	take("a")
	q.Put("")
	q.Put("aa")
	take("")
	take("aa")
	take("aaa")
	q.Put("b")
	take("b")
}

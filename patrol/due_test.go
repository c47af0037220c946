package patrol_test

import (
	"slices"
	"testing"

	"blackboard/census"
	"blackboard/patrol"
)

// refresh is how many wrong ones a codeword has that is written anew.
const refresh = 4

// P19.1: Due.

// due tells what Due answers, asked twice, and that it changes nothing of what is handed in.
func due(t *testing.T, l []census.Row, want bool) {
	t.Helper()
	was := slices.Clone(l[:cap(l)])
	for range 2 {
		if got := patrol.Due(l); got != want {
			t.Errorf("Due(%v) = %v, want %v", l, got, want)
		}
	}
	if !slices.Equal(l[:cap(l)], was) {
		t.Errorf("%v became %v", was, l[:cap(l)])
	}
}

func TestDueOfNone(t *testing.T) {
	due(t, nil, false)
	due(t, []census.Row{}, false)
}

func TestDueOfOne(t *testing.T) {
	for wrong := -3; wrong < 20; wrong++ {
		due(t, []census.Row{{Wrong: wrong, Ok: true}}, wrong >= refresh)
	}
	due(t, []census.Row{{Wrong: least, Ok: true}}, false)
	due(t, []census.Row{{Wrong: greatest, Ok: true}}, true)
}

// What can't be read can't be written anew, whatever it has as wrong.
func TestDueOfWhatIsNotOk(t *testing.T) {
	for _, wrong := range []int{least, -4, -1, 0, 1, 3, 4, 5, 8, 9, 16, greatest} {
		due(t, []census.Row{{Wrong: wrong}}, false)
		due(t, []census.Row{{Wrong: wrong}, {Wrong: 3, Ok: true}}, false)
		due(t, []census.Row{{Wrong: 3, Ok: true}, {Wrong: wrong}}, false)
		due(t, []census.Row{{Wrong: wrong}, {Wrong: 4, Ok: true}}, true)
		due(t, []census.Row{{Wrong: 4, Ok: true}, {Wrong: wrong}}, true)
	}
}

// One that is due among many that are not, at each place.
func TestDueAtEachPlace(t *testing.T) {
	for many := 1; many <= 70; many++ {
		l := make([]census.Row, many)
		for i := range l {
			l[i] = census.Row{Wrong: 3 - i%4, Ok: i%5 != 2}
			if i%7 == 2 {
				l[i] = census.Row{Wrong: 8}
			}
		}
		due(t, l, false)
		for i, was := range l {
			for _, wrong := range []int{4, 5, 8, 9} {
				l[i] = census.Row{Wrong: wrong, Ok: true}
				due(t, l, true)
			}
			l[i] = census.Row{Wrong: 3, Ok: true}
			due(t, l, false)
			l[i] = was
		}
	}
}

// Wrong ones of codewords aren't added up: each stands by itself.
func TestDueAddsNothingUp(t *testing.T) {
	l := make([]census.Row, 4)
	for i := range l {
		l[i] = census.Row{Wrong: 3, Ok: true}
	}
	due(t, l, false)
	due(t, []census.Row{{Wrong: 8}, {Wrong: 0, Ok: true}}, false)
	due(t, []census.Row{{Wrong: greatest, Ok: true}, {Wrong: greatest, Ok: true}}, true)
}

// Rows behind the end of the list are no rows of it.
func TestDueOfSpareRoom(t *testing.T) {
	l := []census.Row{{Wrong: 3, Ok: true}, {Wrong: 9, Ok: true}, {Wrong: 4, Ok: true}}
	due(t, l[:0], false)
	due(t, l[:1], false)
	due(t, l[:2], true)
	due(t, l[2:], true)
}

// All lists of up to four rows, of codewords with three, four or five wrong, Ok or not.
func TestDueOfAllLists(t *testing.T) {
	kinds := []census.Row{{Wrong: 3, Ok: true}, {Wrong: 4, Ok: true}, {Wrong: 5, Ok: true}, {Wrong: 3}, {Wrong: 4}, {Wrong: 5}}
	isDue := []bool{false, true, true, false, false, false}
	all := 1
	for many := range 5 {
		for which := range all {
			var l []census.Row
			want := false
			for rest, n := which, 0; n < many; rest, n = rest/len(kinds), n+1 {
				l = append(l, kinds[rest%len(kinds)])
				want = want || isDue[rest%len(kinds)]
			}
			due(t, l, want)
		}
		all *= len(kinds)
	}
}

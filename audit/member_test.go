package audit_test

import (
	"fmt"
	"math"
	"slices"
	"testing"

	"tabulary/api"
	"tabulary/audit"
)

// wantMember fails the test, unless Member answers just that.
func wantMember(t *testing.T, what string, want api.Errno, a api.Auditor, i int, m mail, path []api.Node) {
	t.Helper()
	if e := audit.Member(a, i, m.s, m.b, path); e != want {
		t.Errorf("%s: place %d of %d, %d steps: %d, not %d", what, i, a.S.N, len(path), e, want)
	}
}

// P19.3: each event of a log is in it, kept or not, also where it was deleted since.
func TestMember(t *testing.T) {
	for n := 1; n <= 22; n++ {
		l := mails(n)
		slots := slotsOf(l)
		for what, x := range map[string][]api.Slot{"as it is": slots, "all deleted": dropped(slots, func(int) bool { return true })} {
			a, leaves := knowing(stateOf(x)), leavesOf(x)
			for i, m := range l {
				wantMember(t, what, api.OK, a, i, m, pathOf(leaves, i))
			}
		}
	}
	for i, m := range fitting() {
		for _, keep := range []bool{false, true} {
			m.b.Keep = keep
			l := append(mails(i%5), m)
			slots := slotsOf(l)
			wantMember(t, m.s, api.OK, knowing(stateOf(slots)), i%5, m, pathOf(leavesOf(slots), i%5))
		}
	}
}

// P19.3: some events of as many as a log may have.
func TestMemberOfMany(t *testing.T) {
	l := mails(4096)
	slots := slotsOf(l)
	a, leaves := knowing(stateOf(slots)), leavesOf(slots)
	for _, i := range []int{0, 1, 2047, 2048, 3000, 4095} {
		wantMember(t, "many", api.OK, a, i, l[i], pathOf(leaves, i))
		wantMember(t, "beside it", api.ErrProof, a, i^1, l[i], pathOf(leaves, i))
	}
}

// P19.3: ErrNone goes ahead of all others.
func TestMemberOfNoState(t *testing.T) {
	l := mails(5)
	leaves := leavesOf(slotsOf(l))
	left := fresh(ourKeys())
	left.S = stateOf(slotsOf(l))
	for _, a := range []api.Auditor{fresh(ourKeys()), left, {}, {Height: -1, Bits: -1, S: api.State{N: -1}}} {
		wantMember(t, "all right", api.ErrNone, a, 3, l[3], pathOf(leaves, 3))
		wantMember(t, "no message", api.ErrNone, a, 3, mail{"", l[3].b}, pathOf(leaves, 3))
		wantMember(t, "none that fits", api.ErrNone, a, 3, mail{l[3].s, l[2].b}, nil)
		wantMember(t, "no place", api.ErrNone, a, -1, l[3], pathOf(leaves, 3))
		wantMember(t, "no path", api.ErrNone, a, 3, l[3], nil)
	}
}

// P19.3: ErrForm goes ahead of chapter 14's errors, also where the tree is made of such a leaf.
func TestMemberThatFitsNot(t *testing.T) {
	l := mails(6)
	slots := slotsOf(l)
	wrong := []mail{{l[2].s, api.Brief{}}, {l[2].s, l[3].b}, {l[3].s, l[2].b}, {l[2].s, rootOf(leavesOf(slots)).B}}
	for _, s := range noMessages() {
		wrong = append(wrong, mail{s, l[2].b}, mail{s, api.Brief{}})
	}
	for _, b := range changesOf(l[2].b) {
		wrong = append(wrong, mail{l[2].s, b})
	}
	for _, m := range wrong {
		what := fmt.Sprintf("%q, %+v", m.s, m.b)
		a, leaves := knowing(stateOf(slots)), leavesOf(slots)
		for _, i := range []int{2, 0, -1, 6, math.MinInt, math.MaxInt} {
			wantMember(t, what, api.ErrForm, a, i, m, pathOf(leaves, 2))
			wantMember(t, what, api.ErrForm, a, i, m, nil)
			wantMember(t, what, api.ErrForm, knowing(api.State{N: -1}), i, m, nil)
		}
		made := slices.Concat(slots[:2], []api.Slot{m.slot()}, slots[3:])
		a.S.Root = rootOf(leavesOf(made))
		wantMember(t, what+", in a tree", api.ErrForm, a, 2, m, pathOf(leavesOf(made), 2))
	}
}

// P19.3: chapter 14's ErrArg, of a place that isn't one of the log, and of a number that may not be.
func TestMemberAtNoPlace(t *testing.T) {
	for n := range 9 {
		slots := slotsOf(mails(n))
		a, m := knowing(stateOf(slots)), mails(1)[0]
		for _, i := range append(farNumbers(), -1, n, n+1, 4096) {
			wantMember(t, "no place", api.ErrArg, a, i, m, nil)
			if n > 0 {
				wantMember(t, "no place", api.ErrArg, a, i, m, pathOf(leavesOf(slots), 0))
			}
		}
		for _, many := range append(farNumbers(), -1, 4097) {
			a.S.N = many
			wantMember(t, "no number", api.ErrArg, a, 0, m, nil)
		}
	}
}

// P19.3: chapter 14's ErrProof: of another place, of another event, of a path that isn't that one, of another root.
func TestMemberUnproved(t *testing.T) {
	for _, n := range []int{1, 2, 3, 5, 8, 13} {
		l := mails(n)
		slots := slotsOf(l)
		a, leaves := knowing(stateOf(slots)), leavesOf(slots)
		for i, m := range l {
			path := pathOf(leaves, i)
			for k := range l {
				if k != i {
					wantMember(t, "another place", api.ErrProof, a, k, m, path)
					wantMember(t, "another place by its path", api.ErrProof, a, k, m, pathOf(leaves, k))
					wantMember(t, "another event", api.ErrProof, a, i, l[k], path)
				}
			}
			turned := m
			turned.b.Keep = !m.b.Keep
			wantMember(t, "Keep turned round", api.ErrProof, a, i, turned, path)
			wantMember(t, "an event of nowhere", api.ErrProof, a, i, mail{m.s + ".", m.b}, path)
			for _, other := range slices.Concat(less(path), more(path, anyNode(1)), more(path, api.Node{})) {
				wantMember(t, "another path", api.ErrProof, a, i, m, other)
			}
			for k, step := range path {
				for _, other := range changedNodes(step) {
					wantMember(t, "a changed step", api.ErrProof, a, i, m, slices.Concat(path[:k], []api.Node{other}, path[k+1:]))
				}
			}
			for _, root := range changedNodes(a.S.Root) {
				wantMember(t, "another root", api.ErrProof, knowing(with(a.S, func(s *api.State) { s.Root = root })), i, m, path)
			}
		}
	}
}

// P19.3: of the auditor the state's number and root are asked for, nothing else.
func TestMemberHangsOnTree(t *testing.T) {
	l := mails(7)
	slots := slotsOf(l)
	a := api.Auditor{Keys: anyHash(1), Height: -5, Bits: 1000, Has: true, S: with(stateOf(slots), func(s *api.State) { s.Head = anyHash(2) })}
	wantMember(t, "other keys, another head", api.OK, a, 4, l[4], pathOf(leavesOf(slots), 4))
	wantEntries(t, "other keys, another head", a, everything(), itemsOf(slots, everything()), entriesOf(slots, everything()))
}

// P19.3: a path isn't written into, nor what is behind it.
func TestMemberLeavesPath(t *testing.T) {
	l := mails(7)
	leaves := leavesOf(slotsOf(l))
	path, same := behind(pathOf(leaves, 4), anyNode(1))
	wantMember(t, "the path itself", api.OK, knowing(stateOf(slotsOf(l))), 4, l[4], path)
	wantMember(t, "of another place", api.ErrProof, knowing(stateOf(slotsOf(l))), 5, l[4], path)
	if !same() {
		t.Error("written into")
	}
}

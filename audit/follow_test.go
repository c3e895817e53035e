package audit_test

import (
	"fmt"
	"math"
	"math/rand"
	"slices"
	"strings"
	"testing"

	"tabulary/api"
	"tabulary/audit"
	"tabulary/disk"
	"tabulary/keeper"
	"tabulary/keys"
	"tabulary/member"
	"tabulary/span"
)

// A play is one who keeps a log, those who check it, and what is known of it.
type play struct {
	r     *rand.Rand
	g     api.Logger
	taken []mail       // all messages, as they were taken
	gone  map[int]bool // which of these were deleted
	told  []api.Signed // all states that were told
	who   []api.Auditor
	seen  map[string]int // how often what came to pass
}

// playOf is a log that begins, and those who check it: one who takes each state, and others who take some.
func playOf(t *testing.T, r *rand.Rand, rule api.Rule) *play {
	t.Helper()
	k := api.Keys{Seed: fmt.Sprint("seed ", r.Intn(99)), Height: 1 + r.Intn(5), Bits: 4}
	d, _ := disk.New(300, 128)
	g, e := keeper.New(d, k, rule)
	if e != api.OK {
		t.Fatal(e)
	}
	a, e := audit.New(keys.Root(k), k.Height, k.Bits)
	if e != api.OK {
		t.Fatal(e)
	}
	return &play{r: r, g: g, gone: map[int]bool{}, who: []api.Auditor{a, a, a}, seen: map[string]int{}}
}

// act is one of the calls, or a crash.
func (p *play) act(t *testing.T) {
	t.Helper()
	var e api.Errno
	switch p.r.Intn(12) {
	case 0:
		p.g, _ = keeper.Sync(p.g)
	case 1, 2:
		var x api.Signed
		if p.g, x, e = keeper.Commit(p.g); e == api.OK {
			p.told = append(p.told, x)
			p.tell(t, x)
			p.tellAnew(t)
		}
	case 3, 4:
		i := p.r.Intn(len(p.taken) + 1)
		if p.g, e = keeper.Delete(p.g, i); e == api.OK {
			p.gone[i] = true
		}
	case 5:
		p.crash(t)
	default:
		m := mailOf(p.r.Intn(8), p.r.Intn(24), p.r.Intn(60), strings.Repeat("m", 1+p.r.Intn(60)), false)
		m.b.Keep = p.g.R.Grave >= 0 && m.b.Grave < 2<<p.g.R.Grave
		if p.g, _, e = keeper.Ingest(p.g, m.s); e == api.OK {
			p.taken = append(p.taken, m)
		}
	}
}

// crash takes some of the writes, and finds the one who keeps the log again.
func (p *play) crash(t *testing.T) {
	t.Helper()
	var keep []int
	for range p.r.Intn(len(p.g.D.W) + 2) {
		keep = append(keep, []int{0, 128, 128, p.r.Intn(128)}[p.r.Intn(4)])
	}
	found, e := keeper.Recover(disk.Crash(p.g.D, keep), p.g.G.K, p.g.R)
	if e != api.OK {
		t.Fatal(e)
	}
	p.g, p.taken = found, p.taken[:len(found.L.L)]
	p.seen["crash"]++
}

// tell tells a state to those who take it.
func (p *play) tell(t *testing.T, x api.Signed) {
	t.Helper()
	for i, a := range p.who {
		if i > 0 && p.r.Intn(2*i+1) > 0 {
			continue
		}
		// Who has no state needs no proofs.
		g, way, e := keeper.Grown(p.g, a.S.N)
		if e != api.OK {
			t.Fatal(a.S.N, e)
		}
		what := fmt.Sprintf("from %d to %d", a.S.N, x.S.N)
		wantTaken(t, what, a, x, g, way)
		p.who[i], _ = audit.Take(a, x, g, way)
		p.seen["taken"]++
	}
}

// tellAnew tells states that were told before: they are old, or that of the auditor.
func (p *play) tellAnew(t *testing.T) {
	t.Helper()
	for i, a := range p.who {
		x := p.told[p.r.Intn(len(p.told))]
		switch {
		case !a.Has || x.S.N > a.S.N:
			continue
		case x.S.N < a.S.N:
			g, way, _ := keeper.Grown(p.g, x.S.N)
			wantRefused(t, fmt.Sprintf("%d behind %d", x.S.N, a.S.N), api.ErrOld, a, x, g, way)
			p.seen["old"]++
		default:
			wantTaken(t, fmt.Sprintf("%d once more", x.S.N), a, x, api.Growth{}, nil)
		}
		if audit.Fork(a, x, p.told[len(p.told)-1]) || audit.Fork(p.who[(i+1)%3], p.told[0], x) {
			t.Errorf("a fork of an honest one: %+v", x.S)
		}
	}
}

// ask asks about events, by what each of those who check the log has.
func (p *play) ask(t *testing.T) {
	t.Helper()
	for _, a := range p.who {
		if !a.Has {
			continue
		}
		slots := p.g.L.L[:a.S.N]
		if a.S.N > 0 {
			i := p.r.Intn(a.S.N)
			path, _ := member.Path(span.Nodes(slots), i)
			wantMember(t, "by an honest one", api.OK, a, i, p.taken[i], path)
		}
		all := queries(60)
		q := all[p.r.Intn(len(all))]
		var want []api.Entry
		for i, m := range p.taken[:a.S.N] {
			switch {
			case !isAsked(q, m.b):
			case p.gone[i]:
				want = append(want, api.Entry{At: i, Gone: true, B: m.b})
				p.seen["gone"]++
			default:
				want = append(want, api.Entry{At: i, S: m.s, B: m.b})
				p.seen["live"]++
			}
		}
		wantEntries(t, fmt.Sprintf("by an honest one, %+v", q), a, q, span.Ask(slots, q), want)
	}
}

// P19.4: what an honest keeper tells is taken: states, that an event is there, answers; with many messages, deletions, states and crashes.
func TestPlays(t *testing.T) {
	r := rand.New(rand.NewSource(19))
	seen := map[string]int{}
	for range 30 {
		p := playOf(t, r, api.Rule{Grave: r.Intn(5) - 1, Bytes: 110, Events: 60})
		for range 80 {
			p.act(t)
			p.ask(t)
		}
		for what, n := range p.seen {
			seen[what] += n
		}
	}
	for _, what := range []string{"crash", "taken", "old", "gone", "live"} {
		if seen[what] < 100 {
			t.Errorf("too little by chance: %v", seen)
		}
	}
}

// P19.4: no state of a log that is another one in an event both have is taken, by whichever proofs of the two logs.
func TestForksAreRefused(t *testing.T) {
	for n := 1; n <= 9; n++ {
		for from := range n {
			one, other := logOf(n), otherLog(n, from)
			x := told(stateOf(other))
			for m := from + 1; m <= n; m++ {
				a, want := knowing(stateOf(one[:m])), api.ErrProof
				if m == n {
					want = api.ErrFork
				}
				for _, g := range []api.Growth{growthOf(one, m), growthOf(other, m), {Old: growthOf(one, m).Old, New: growthOf(other, m).New}, {Old: growthOf(other, m).Old, New: growthOf(one, m).New}} {
					for _, way := range [][]api.Hop{wayOf(one, m), wayOf(other, m)} {
						wantRefused(t, fmt.Sprintf("from %d to %d, unlike from %d on", m, n, from), want, a, x, g, way)
					}
				}
			}
			wantTaken(t, fmt.Sprintf("from %d to %d, unlike behind it", from, n), knowing(stateOf(one[:from])), x, growthOf(other, from), wayOf(other, from))
		}
	}
}

// P19.4: nor a state of which the tree alone is another one, or the chain alone.
func TestHalfForksAreRefused(t *testing.T) {
	one, other := logOf(9), otherLog(9, 2)
	x, y := stateOf(one), stateOf(other)
	tree, chain := api.State{N: 9, Root: y.Root, Head: x.Head}, api.State{N: 9, Root: x.Root, Head: y.Head}
	for m := 3; m <= 9; m++ {
		a, want := knowing(stateOf(one[:m])), api.ErrProof
		if m == 9 {
			want = api.ErrFork
		}
		wantRefused(t, "another tree", want, a, told(tree), growthOf(other, m), wayOf(one, m))
		wantRefused(t, "another chain", want, a, told(chain), growthOf(one, m), wayOf(other, m))
	}
}

// P19.4: of one N one state is taken: of two who took unlike ones, neither takes the other's, and both are a fork to each.
func TestOneStateOfN(t *testing.T) {
	for _, n := range []int{1, 2, 6} {
		x, y := signedBy(ourKeys(), 0, stateOf(logOf(n))), signedBy(ourKeys(), 1, stateOf(otherLog(n, n-1)))
		a, _ := audit.Take(fresh(ourKeys()), x, api.Growth{}, nil)
		b, _ := audit.Take(fresh(ourKeys()), y, api.Growth{}, nil)
		wantRefused(t, "the other one's", api.ErrFork, a, y, api.Growth{}, nil)
		wantRefused(t, "the other one's", api.ErrFork, b, x, api.Growth{}, nil)
		if !audit.Fork(a, x, y) || !audit.Fork(b, y, x) {
			t.Errorf("no fork of %d", n)
		}
	}
}

// P19.4: states that are taken one behind the other have the same events as far as both go.
func TestSameEvents(t *testing.T) {
	r := rand.New(rand.NewSource(4))
	for range 40 {
		n := 2 + r.Intn(14)
		m := 1 + r.Intn(n-1)
		l, others := mails(n), slotsOf(mails(n))
		old := knowing(stateOf(slotsOf(l[:m])))
		now, e := audit.Take(old, told(stateOf(slotsOf(l))), growthOf(slotsOf(l), m), wayOf(slotsOf(l), m))
		if e != api.OK {
			t.Fatal(m, n, e)
		}
		i := r.Intn(m)
		another := l[i]
		another.s += "!"
		others[i] = another.slot()
		for _, who := range []struct {
			a    api.Auditor
			many int
		}{{old, m}, {now, n}} {
			leaves := leavesOf(slotsOf(l[:who.many]))
			wantMember(t, "the same one", api.OK, who.a, i, l[i], pathOf(leaves, i))
			wantMember(t, "another one", api.ErrProof, who.a, i, another, pathOf(leaves, i))
			wantMember(t, "another one, in its tree", api.OK, knowing(stateOf(others[:who.many])), i, another, pathOf(leaves, i))
			wantNoEntries(t, "another one", api.ErrProof, who.a, everything(), itemsOf(others[:who.many], everything()))
			wantEntries(t, "the same ones", who.a, everything(), itemsOf(slotsOf(l[:who.many]), everything()), entriesOf(slotsOf(l[:who.many]), everything()))
		}
	}
}

// P19.4: calls end and none panics, at any auditor and any arguments.
func TestAnyArguments(t *testing.T) {
	r := rand.New(rand.NewSource(7))
	numbers := append(farNumbers(), -1, 0, 1, 2, 3, 4, 5, 8, 4096, 4097)
	number := func() int { return numbers[r.Intn(len(numbers))] }
	nodes := func() []api.Node { return slices.Repeat([]api.Node{anyNode(byte(r.Intn(3))), {}}, r.Intn(4)) }
	hashes := func() []api.Hash { return slices.Repeat([]api.Hash{anyHash(byte(r.Intn(3)))}, r.Intn(12)) }
	state := func() api.State {
		return api.State{N: number(), Root: anyNode(byte(r.Intn(3))), Head: anyHash(byte(r.Intn(3)))}
	}
	for range 20000 {
		a := api.Auditor{Keys: anyHash(1), Height: number(), Bits: number(), Has: r.Intn(4) > 0, S: state()}
		x := api.Signed{S: state(), G: api.Sig{Key: number(), L: hashes(), Path: hashes()}}
		y := api.Signed{S: state(), G: api.Sig{Key: number(), L: hashes(), Path: hashes()}}
		m := mail{noMessages()[r.Intn(5)], anyNode(1).B}
		if r.Intn(2) == 0 {
			m = mailOf(3, 3, 3, "x", false)
		}
		wantLike := func(e api.Errno, of ...api.Errno) {
			t.Helper()
			if !slices.Contains(of, e) {
				t.Errorf("%d of %+v, %+v", e, a, x)
			}
		}
		got, e := audit.Take(a, x, api.Growth{Old: nodes(), New: nodes()}, slices.Repeat(anyWay(), r.Intn(4)))
		wantLike(e, api.ErrArg, api.ErrSig)
		if got != a || audit.Fork(a, x, y) {
			t.Errorf("%+v of %+v, %+v", got, a, x)
		}
		wantLike(audit.Member(a, number(), m.s, m.b, nodes()), api.ErrNone, api.ErrForm, api.ErrArg, api.ErrProof)
		l, e := audit.Range(a, api.Query{First: int64(number()), Last: int64(number()), Grave: math.MaxUint32, From: math.MaxUint32}, slices.Repeat([]api.Item{{Kind: r.Intn(5) - 1, S: m.s, B: m.b}}, r.Intn(5)))
		wantLike(e, api.ErrNone, api.ErrForm, api.ErrArg, api.ErrProof)
		if len(l) > 0 {
			t.Errorf("%+v", l)
		}
	}
}

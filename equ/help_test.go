package equ_test

import (
	"maps"
	"math"
	"math/rand"
	"slices"
	"strconv"
	"testing"

	"spandrel/api"
	"spandrel/equ"
	"spandrel/expr"
	"spandrel/lex"
)

const most = math.MaxUint32

// lin answers the expression that s says.
func lin(s string) api.Lin {
	tokens, _, why := lex.Tokens(s)
	if why != api.OK {
		panic(s)
	}
	x, why := expr.Parse(tokens)
	if why != api.OK {
		panic(s)
	}
	return x
}

// equs answers a list of equs: each of l is a name, and the one behind it what it is a name for.
func equs(l ...string) []api.Equ {
	var out []api.Equ
	for i := 0; i < len(l); i += 2 {
		out = append(out, api.Equ{Name: l[i], E: lin(l[i+1])})
	}
	return out
}

// numbered answers a name with a number in it.
func numbered(name string, n int) string {
	return name + strconv.Itoa(n)
}

// told answers l in words.
func told(l []api.Equ) string {
	s := ""
	for i, q := range l {
		if i > 0 {
			s += ", "
		}
		if i == 12 {
			return s + ".."
		}
		s += q.Name + " = " + short(q.E)
	}
	return s
}

// short answers x in words, but no more of them than one reads.
func short(x api.Lin) string {
	s := expr.Text(x)
	if len(s) > 200 {
		return s[:200] + ".."
	}
	return s
}

func sameEqu(a, b api.Equ) bool {
	return a.Name == b.Name && expr.Same(a.E, b.E)
}

func same(a, b []api.Equ) bool {
	return slices.EqualFunc(a, b, sameEqu)
}

// solves asks that Solve(l) is want, and that none of l comes back.
func solves(t *testing.T, l, want []api.Equ) {
	t.Helper()
	got, n, why := equ.Solve(l)
	if !same(got, want) || n != 0 || why != api.OK {
		t.Errorf("Solve(%s): %s; %d, %v; not %s", told(l), told(got), n, why, told(want))
	}
	if back := equ.Cycle(l); len(back) != 0 {
		t.Errorf("Cycle(%s): %v, but none comes back", told(l), back)
	}
}

// comesBack asks that the equ with the number n is the first of l that comes back to itself, and that all that do have the names back.
func comesBack(t *testing.T, l []api.Equ, n int, back ...string) {
	t.Helper()
	got, at, why := equ.Solve(l)
	if len(got) != 0 || at != n || why != api.ErrCycle {
		t.Errorf("Solve(%s): %s; %d, %v; not ErrCycle at %d", told(l), told(got), at, why, n)
	}
	if names := equ.Cycle(l); !slices.Equal(names, back) {
		t.Errorf("Cycle(%s): %v, not %v", told(l), names, back)
	}
}

// The chapter's words, gone anew in another way: slow, for few equs.

// leads answers of each two equs of l whether a way of names leads from the first to the second.
func leads(l []api.Equ) [][]bool {
	way := make([][]bool, len(l))
	for i, q := range l {
		way[i] = make([]bool, len(l))
		for j, r := range l {
			for _, t := range q.E.Terms {
				way[i][j] = way[i][j] || t.Name == r.Name
			}
		}
	}
	for over := range l {
		for i := range l {
			for j := range l {
				way[i][j] = way[i][j] || way[i][over] && way[over][j]
			}
		}
	}
	return way
}

// returning answers the numbers of those of l that come back to themselves.
func returning(l []api.Equ) []int {
	var out []int
	for i, row := range leads(l) {
		if row[i] {
			out = append(out, i)
		}
	}
	return out
}

// replaced answers x in terms of names that are none of l's, none of which comes back: one term after the other is taken out, and its expression put in.
func replaced(x api.Lin, l []api.Equ) api.Lin {
	coefs, n := map[string]uint32{}, x.Const
	for _, t := range x.Terms {
		coefs[t.Name] += t.Coef
	}
	for {
		at := slices.IndexFunc(l, func(q api.Equ) bool { return coefs[q.Name] != 0 })
		if at < 0 {
			return fromCoefs(coefs, n)
		}
		times := coefs[l[at].Name]
		delete(coefs, l[at].Name)
		n += times * l[at].E.Const
		for _, t := range l[at].E.Terms {
			coefs[t.Name] += times * t.Coef
		}
	}
}

// once answers x with the expressions of l's names in their places, and no more than that.
func once(x api.Lin, l []api.Equ) api.Lin {
	coefs, n := map[string]uint32{}, x.Const
	for _, t := range x.Terms {
		at := slices.IndexFunc(l, func(q api.Equ) bool { return q.Name == t.Name })
		if at < 0 {
			coefs[t.Name] += t.Coef
			continue
		}
		n += t.Coef * l[at].E.Const
		for _, u := range l[at].E.Terms {
			coefs[u.Name] += t.Coef * u.Coef
		}
	}
	return fromCoefs(coefs, n)
}

func fromCoefs(coefs map[string]uint32, n uint32) api.Lin {
	x := api.Lin{Const: n}
	for _, name := range slices.Sorted(maps.Keys(coefs)) {
		if coefs[name] != 0 {
			x.Terms = append(x.Terms, api.Term{Name: name, Coef: coefs[name]})
		}
	}
	return x
}

// Drawn lists.

var (
	ownNames   = []string{"B", "_", "a", "a1", "b", "c", "d", "r8"}
	otherNames = []string{"A", "a0", "bb", "x", "y", "z4"}
)

// drawnLin answers a right Lin with some of names: few of them, so that they meet, and coefficients that pass 2^32 together.
func drawnLin(r *rand.Rand, names []string, some int) api.Lin {
	edges := []uint32{1, 1, 2, 3, 1 << 16, 1 << 31, most, most, most - 1, 0x55555555}
	coefs := map[string]uint32{}
	for range r.Intn(some + 1) {
		coefs[names[r.Intn(len(names))]] += edges[r.Intn(len(edges))]
	}
	return fromCoefs(coefs, edges[r.Intn(len(edges))]*uint32(r.Intn(2)))
}

// drawnEqus answers equs with legal names, each once, and right Lins; rings are met now and then.
func drawnEqus(r *rand.Rand) []api.Equ {
	names := slices.Concat(ownNames, otherNames)
	var l []api.Equ
	for _, i := range r.Perm(len(ownNames))[:r.Intn(len(ownNames)+1)] {
		l = append(l, api.Equ{Name: ownNames[i], E: drawnLin(r, names, 3)})
	}
	return l
}

// drawnWays answers equs of which none comes back: each leads to those that were drawn ahead of it; they stand in any order.
func drawnWays(r *rand.Rand) []api.Equ {
	var l []api.Equ
	names := slices.Clone(otherNames)
	for _, i := range r.Perm(len(ownNames)) {
		l = append(l, api.Equ{Name: ownNames[i], E: drawnLin(r, names, 6)})
		names = append(names, ownNames[i])
	}
	r.Shuffle(len(l), func(i, j int) { l[i], l[j] = l[j], l[i] })
	return l
}

// solved answers what l is solved to; none of it may come back.
func solved(t *testing.T, l []api.Equ) []api.Equ {
	t.Helper()
	out, n, why := equ.Solve(l)
	if n != 0 || why != api.OK {
		t.Fatalf("Solve(%s): %d, %v", told(l), n, why)
	}
	return out
}

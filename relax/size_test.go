package relax_test

import (
	"slices"
	"strconv"
	"testing"

	"spandrel/api"
	"spandrel/expr"
	"spandrel/relax"
)

// As many items as a unit may have, and as many units as a program; addresses past 32 bits; very many rounds.

// 64 units of 8191 jumps to the unit's end.
func TestManyJumps(t *testing.T) {
	units := make([]api.Unit, 64)
	for n := range units {
		units[n].Text = append(slices.Repeat([]api.Item{jump(expr.Named("a"))}, 8191), label("a"))
	}
	p := program(units...)
	forms, rounds, why := relax.Relax(p)
	if len(forms) != 64*8191 || rounds != 2 || why != api.OK {
		t.Fatalf("%d forms, %d rounds, %v", len(forms), rounds, why)
	}
	for i, form := range forms {
		// 63 jumps of two bytes lie behind the first that reaches with one byte.
		want := 2
		if left := 8190 - i%8191; left <= 63 {
			want = 1
		}
		if form != want {
			t.Fatalf("the form of jump %d is %d, not %d", i, form, want)
		}
	}
	for l := range relax.Rounds(p) {
		if !slices.Equal(l, slices.Repeat([]int{1}, 64*8191)) {
			t.Error("the first round does not begin with form 1 for all")
		}
		break
	}
}

// Jumps of 63 units to the end of the last one: those that lie far need four bytes.
func TestJumpsOverUnits(t *testing.T) {
	units := make([]api.Unit, 64)
	for n := range units {
		units[n].Text = slices.Concat([]api.Item{jump(expr.Named("end"))}, filler(999))
	}
	units[63] = api.Unit{Text: []api.Item{label("end")}, Globals: []string{"end"}}
	want := slices.Repeat([]int{2}, 63)
	// By form 1 a unit has 1001 bytes: of the unit n the displacement is 999 and 1001 for each of 62 - n units.
	for n := range want {
		if 999+1001*(62-n) > 32767 {
			want[n] = 4
		}
	}
	goes(t, program(units...), slices.Repeat([]int{1}, 63), want)
}

// A target beyond 2^32 bytes, which is reckoned modulo 2^32: 64 * 8190 * 2^20 is 2^32 less 2^27.
func TestGreatestSpaces(t *testing.T) {
	units := make([]api.Unit, 64)
	for n := range units {
		units[n].Data = slices.Repeat([]api.Item{{Kind: api.Space, N: api.MaxImage}}, 8190)
	}
	units[63].Data = append(units[63].Data, label("x"))
	for _, c := range []struct{ more, rounds, form int }{{0, 2, 4}, {1 << 27, 1, 1}, {1<<27 + 200, 2, 2}} {
		units[63].Text = []api.Item{jump(named("x", c.more))}
		p := program(units...)
		relaxes(t, p, c.rounds, c.form)
		if d := displacements(p, []int{c.form}); !holds(d[0], c.form) {
			t.Errorf("%d bytes do not hold %d", c.form, d[0])
		}
	}
}

// A chain of jumps, each of which takes two rounds of its own.
func TestManyRounds(t *testing.T) {
	const n = 200
	p := linked(slowest(n))
	relaxes(t, p, 2*n+1, slices.Repeat([]int{4}, n)...)
	i := 0
	for l := range relax.Rounds(p) {
		// All ahead of jump i/2 have four bytes, itself two in each second round, and all behind it one.
		want := slices.Concat(slices.Repeat([]int{4}, i/2), slices.Repeat([]int{1}, n-i/2))
		if i%2 == 1 {
			want[i/2] = 2
		}
		if !slices.Equal(l, want) {
			t.Fatalf("ahead of round %d: %v, not %v", i, l, want)
		}
		i++
	}
	if i != 2*n+1 {
		t.Errorf("%d rounds", i)
	}
}

// A target of very many terms.
func TestManyTerms(t *testing.T) {
	const labels = 4000
	var u api.Unit
	var sum api.Lin
	at := uint32(0)
	for i := range labels {
		name := "x" + strconv.Itoa(10000+i)
		u.Text = append(u.Text, label(name))
		u.Text = append(u.Text, filler(1)...)
		sum.Terms = append(sum.Terms, api.Term{Name: name, Coef: uint32(1000003 * (i + 1))})
		at += uint32(i) * uint32(1000003*(i+1))
	}
	for _, far := range []int{0, 127, 128, -128, -129, 32767, 32768, -32770} {
		// The displacement by form 1; the labels lie ahead of the jump, which moves none of them.
		sum.Const = uint32(labels+2+far) - at
		want := [][]int{{1}}
		if form := leastOf(far); form != 1 {
			want = append(want, []int{form})
		}
		goes(t, program(api.Unit{Text: append(slices.Clone(u.Text), jump(sum))}), want...)
	}
}

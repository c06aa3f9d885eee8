package layout_test

import (
	"strconv"
	"testing"

	"spandrel/api"
	"spandrel/expr"
	"spandrel/layout"
)

// As many items as a unit may have, and as many units as a program; addresses past 32 bits.

func jump(x api.Lin) api.Item {
	return api.Item{Kind: api.Code, Inst: api.Inst{Op: 40}, E: x}
}

func load(x api.Lin) api.Item {
	return api.Item{Kind: api.Code, Inst: api.Inst{Op: 39, A: 1}, E: x}
}

func label(name string) api.Item {
	return api.Item{Kind: api.Label, Name: name}
}

// 64 units of 8191 jumps and a label, in turn by each form.
func TestManyJumps(t *testing.T) {
	units := make([]api.Unit, 64)
	for n := range units {
		for range 8191 {
			units[n].Text = append(units[n].Text, jump(expr.Named("a")))
		}
		units[n].Text = append(units[n].Text, label("a"))
	}
	p := program(units...)
	forms := make([]int, 64*8191)
	for i := range forms {
		forms[i] = []int{1, 2, 4}[i%3]
	}
	l := of(t, p, forms...)
	at := 0
	for n := range units {
		for i := range 8191 {
			if l.Text[n][i] != at {
				t.Fatalf("the item %d of unit %d lies at %d, not %d", i, n, l.Text[n][i], at)
			}
			at += 1 + forms[n*8191+i]
		}
		if l.Labels[n] != at || l.Text[n][8191] != at {
			t.Fatalf("the label of unit %d lies at %d, not %d", n, l.Labels[n], at)
		}
	}
	if l.Code != at || l.Size != l.Start {
		t.Errorf("%d, %d, %d", l.Code, l.Start, l.Size)
	}
	for _, n := range []int{0, 1, 63} {
		for _, i := range []int{0, 1, 4096, 8190} {
			spansBy(t, p, l, n, i, l.Labels[n]-l.Text[n][i+1])
		}
	}
	judged(t, p, l, api.ErrImage)
	for _, i := range []int{0, 1, 8191, len(forms) - 1} {
		wrong := append([]int(nil), forms...)
		wrong[i] = 3
		if l, why := layout.Of(p, wrong); why != api.ErrArg || !isNone(l) {
			t.Errorf("the form %d is none: %v", i, why)
		}
	}
	if _, why := layout.Of(p, forms[1:]); why != api.ErrArg {
		t.Errorf("one form too few: %v", why)
	}
}

// 64 units of 8192 items, each second one an item Pool with a pool.
func TestManyPools(t *testing.T) {
	units := make([]api.Unit, 64)
	for n := range units {
		for i := range 4096 {
			units[n].Text = append(units[n].Text, load(expr.Of(uint32(i))), api.Item{Kind: api.Pool})
		}
	}
	p := program(units...)
	l := of(t, p)
	if len(l.Pools) != 64*4096 || l.Code != 9*64*4096 {
		t.Fatalf("%d pools, %d bytes", len(l.Pools), l.Code)
	}
	for i, at := range l.Pools {
		if at != 9*i+4 || l.Text[i/4096][i%4096*2] != 9*i || l.Text[i/4096][i%4096*2+1] != at {
			t.Fatalf("pool %d lies at %d", i, at)
		}
	}
	for _, n := range []int{0, 63} {
		loadsBy(t, p, l, n, 0, 1)
		loadsBy(t, p, l, n, 8190, 1)
		noLoad(t, p, l, n, 8191)
	}
	judged(t, p, l, api.ErrImage)
}

// 64 units of 8192 loads, each with a literal of its own: none reaches.
func TestManyLiterals(t *testing.T) {
	units := make([]api.Unit, 64)
	for n := range units {
		for i := range 8192 {
			units[n].Text = append(units[n].Text, load(expr.Of(uint32(i))))
		}
	}
	p := program(units...)
	l := of(t, p)
	unit := 8192*8 + 1
	if len(l.Pools) != 64 || l.Pools[63] != 63*unit+8192*4 || l.Code != 64*unit {
		t.Fatalf("%d pools, %d bytes", len(l.Pools), l.Code)
	}
	loadsBy(t, p, l, 0, 8191, 8192*4-3)
	loadsBy(t, p, l, 63, 0, 8192*4-3)
	judged(t, p, l, api.ErrReach)
}

// 64 units of 8190 greatest spaces: addresses beyond 2^32, which expressions take modulo 2^32.
func TestGreatestSpaces(t *testing.T) {
	units := make([]api.Unit, 64)
	for n := range units {
		for range 8190 {
			units[n].Data = append(units[n].Data, api.Item{Kind: api.Space, N: api.MaxImage})
		}
		units[n].Data = append(units[n].Data, label("x"+strconv.Itoa(n)))
		units[n].Globals = []string{"x" + strconv.Itoa(n)}
	}
	units[0].Text = []api.Item{jump(expr.Named("x63"))}
	p := program(units...)
	l := of(t, p, 4)
	if want := 16 + 64*8190*api.MaxImage; l.Size != want || l.Labels[63] != want {
		t.Errorf("%d bytes, not %d", l.Size, want)
	}
	for n, at := range l.Labels {
		want := 16 + (n+1)*8190*api.MaxImage
		if at != want || layout.Value(l, lin("L"+strconv.Itoa(n)+"+1")) != uint32(want+1) {
			t.Errorf("x%d lies at %d, not %d", n, at, want)
		}
	}
	// 64 * 8190 * 2^20 + 16 - 5, modulo 2^32, with its sign.
	spansBy(t, p, l, 0, 0, -(128<<20)+11)
	judged(t, p, l, api.ErrImage)
}

// Expressions of very many terms.
func TestManyTerms(t *testing.T) {
	const labels = 4000
	var u api.Unit
	var sum api.Lin
	want := uint32(0)
	for i := range labels {
		name := "x" + strconv.Itoa(10000+i)
		u.Text = append(u.Text, label(name), example(1))
		sum.Terms = append(sum.Terms, api.Term{Name: name, Coef: uint32(1000003 * (i + 1))})
		want += uint32(i) * uint32(1000003*(i+1))
	}
	u.Text = append(u.Text, jump(sum), load(sum))
	p := program(u)
	l := of(t, p, 2)
	items := p.Items(0, text)
	if got := layout.Value(l, items[2*labels].E); got != want {
		t.Errorf("%d, not %d", got, want)
	}
	spansBy(t, p, l, 0, 2*labels, int(int32(want-labels-3)))
	loadsBy(t, p, l, 0, 2*labels+1, 1)
	judged(t, p, l, api.OK)
}

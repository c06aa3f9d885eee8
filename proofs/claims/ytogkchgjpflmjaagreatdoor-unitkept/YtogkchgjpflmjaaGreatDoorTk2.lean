/- unit's take: what the line says; what is refused. -/
import Derived.Test.YtogkchgjpflmjaaGreatDoorTk1
namespace Go.Proofs.YtogkchgjpflmjaaGreatDoor
open Go.ChangeShapes Go.WideShapes Go.ChangeAt Go.RowKit
set_option linter.unusedVariables false
set_option maxRecDepth 100000
variable {lo b m N : Nat} {w : World} {A : Asm} {pt pd : List (Itm × Value)} {pe : List ((List UInt8 × Lin) × Value)} {tv dv ev av : Value} {L : Ln} {a : Option Addr} {c g : Nat} {W W' : World}
theorem ThOwn.weaken {lo B : Nat} {w : World} {R : Except Int Thg} {e : Ending} (h : ThOwn lo w R e) (hB : B ≤ lo) : ThOwn B w R e := by
  cases R with
  | error k => exact h
  | ok t =>
    obtain ⟨vi, va, n, vc, h1, h2⟩ := h
    exact ⟨vi, va, n, vc, h1, h2.weaken hB⟩
theorem TkS.read (h : TkS lo w b m N A pt pd pe tv dv ev av L a c g W) (hal : L.args.length ≤ 1100000) (hfew : FewA L.args) (hlo : lo ≤ w.heap.size) : ∀ W', Below W.heap.size W W' →
    Calls Tryz.prog 69 #[.agg #[.string (str L.label), .string (str L.op), .slice a L.args.length c], .int .i64 A.sec] W' fun e w2 => Below W.heap.size W w2 ∧ Below W'.heap.size W' w2 ∧ ThOwn lo w2 (readF L.op L.args A.sec) e := fun W' hb => by
  have h' := h.below hb
  have hs := hb.size
  have hs0 := h.bel.size
  refine (read_any L.label L.op a c L.args hal hfew A.sec W' (h'.args.mono (by have := blk_lt h'.line; omega) (Nat.le_refl _)) h'.tab).mono ?_
  rintro e w2 ⟨h1, h2⟩
  exact ⟨hb.trans (h1.mono hs), h1, h2.weaken (by omega)⟩
structure TkR (lo : Nat) (w : World) (b m N : Nat) (A : Asm) (pt pd : List (Itm × Value)) (pe : List ((List UInt8 × Lin) × Value)) (tv dv ev av : Value) (L : Ln) (g : Nat) (x : Thg) (vi : Value) (va : Option Addr) (nt vc gt : Nat) (W : World) : Prop where
  bel : BelN lo m w W
  asm : AsmAt lo W b m N A pt pd pe tv dv ev av
  line : ∃ o a, W.heap[g]? = some (.cells #[.string (str L.label), o, a] 133 (0, 0))
  thing : W.heap[gt]? = some (.cells (six x.kind vi x.name (.slice va nt vc) x.e.const x.sec) 137 (0, 0))
  own : ThO lo W vi x.items (.slice va nt vc) x.e.terms
theorem ThO.kept {lo : Nat} {w w' : World} {vi : Value} {l : List Itm} {vt : Value} {ts : List Tm} {k : Option Nat} (h : ThO lo w vi l vt ts) (hg : w.grownBy w' k) (h1 : Off w k 91) (h2 : Off w k 123) : ThO lo w' vi l vt ts := by
  obtain ⟨p, e1, e2, e3⟩ := h
  exact ⟨p, e1, e2.kept hg (h1.off e2.row) h2, e3.kept hg (h2.off e3)⟩
section
variable {x : Thg} {vi : Value} {va : Option Addr} {nt vc gt : Nat}
theorem TkR.cells (h : TkR lo w b m N A pt pd pe tv dv ev av L g x vi va nt vc gt W) : W.cell? ⟨g, 0, none⟩ = some (.string (str L.label)) ∧ W.cell? ⟨b, 5, none⟩ = some (.map (some m)) ∧ W.cell? ⟨gt, 0, none⟩ = some (.int .i64 x.kind) ∧ W.cell? ⟨gt, 1, none⟩ = some vi ∧ W.cell? ⟨gt, 2, none⟩ = some (.string (str x.name)) ∧ W.cell? ⟨gt, 3, none⟩ = some (.slice va nt vc) ∧ W.cell? ⟨gt, 4, none⟩ = some (.int .u32 x.e.const) ∧ W.cell? ⟨gt, 5, none⟩ = some (.int .i64 x.sec) := by
  obtain ⟨o, a, hl⟩ := h.line
  obtain ⟨t0, t1, t2, t3, t4, t5⟩ := six_read h.thing
  exact ⟨(cell_blockT hl 0).trans rfl, (h.asm.cell 5).trans rfl, t0, t1, t2, t3, t4, t5⟩
theorem TkR.below (h : TkR lo w b m N A pt pd pe tv dv ev av L g x vi va nt vc gt W) (hb : Below W.heap.size W W') : TkR lo w b m N A pt pd pe tv dv ev av L g x vi va nt vc gt W' := by
  obtain ⟨o, a, hl⟩ := h.line
  have h1 := h.asm.blo
  have h2 := h.asm.lt
  exact ⟨h.bel.trans (BelN.of hb (by omega)), h.asm.below hb, ⟨o, a, by rw [hb.block g (blk_lt hl)]; exact hl⟩, by rw [hb.block gt (blk_lt h.thing)]; exact h.thing, h.own.below hb⟩
theorem TkR.named (h : TkR lo w b m N A pt pd pe tv dv ev av L g x vi va nt vc gt W) (hg : W.grownBy W' (some m)) {N' : Nat} {gs : List (List UInt8)} (hS : SetIs W' m N' gs) : TkR lo w b m N' { A with given := gs } pt pd pe tv dv ev av L g x vi va nt vc gt W' := by
  obtain ⟨o, a, hl⟩ := h.line
  obtain ⟨es, ck, hm⟩ := h.asm.set.blk
  have ne : ∀ {k : Nat} {cs : Array Value} {T : TypeId} {r : Nat × Nat}, W.heap[k]? = some (.cells cs T r) → some k ≠ some m := fun {k cs T r} hk e => by
    injection e with e
    subst e
    rw [hk] at hm
    injection hm with hm
    cases hm
  have h1 := h.asm.mlo
  have h2 := h.asm.mlt
  exact ⟨h.bel.trans ⟨(Below.refl lo W).grown hg (by omega) (fun j hj => by cases hj; exact h1), fun k o hk _ hm => by rw [hg.block k (blk_lt hk) (by simpa using hm)]; exact hk⟩, h.asm.named hg hS, ⟨o, a, by rw [hg.block g (blk_lt hl) (ne hl)]; exact hl⟩, by rw [hg.block gt (blk_lt h.thing) (ne h.thing)]; exact h.thing, h.own.kept hg (off_map hm) (off_map hm)⟩
theorem tkr_behind (hS : TkS lo w b m N A pt pd pe tv dv ev av L a c g W) (hlo : lo ≤ w.heap.size) {w2 : World} (hb : Below W.heap.size W w2) (hO : ThO lo w2 vi x.items (.slice va nt vc) x.e.terms) :
    TkR lo w b m N A pt pd pe tv dv ev av L g x vi va nt vc w2.heap.size (w2.alloc (.cells (six x.kind vi x.name (.slice va nt vc) x.e.const x.sec) 137)) := by
  have h2 := (hS.below hb).below (below_alloc w2 (.cells (six x.kind vi x.name (.slice va nt vc) x.e.const x.sec) 137))
  exact ⟨BelN.of h2.bel hlo, h2.asm, ⟨_, _, h2.line⟩, heap_alloc_new w2 _, hO.below (below_alloc w2 _)⟩
theorem tkr_ahead (hS : TkS lo w b m N A pt pd pe tv dv ev av L a c g W) (hlo : lo ≤ w.heap.size) {w2 w3 : World} (hb : Below W.heap.size W w2) {cs : Array Value} (hx : w2.heap[W.heap.size]? = some (.cells cs 137 (0, 0))) (hO : ThO lo w2 vi x.items (.slice va nt vc) x.e.terms) (hg : w2.grownBy w3 (some W.heap.size)) (h3 : w3.heap[W.heap.size]? = some (.cells (six x.kind vi x.name (.slice va nt vc) x.e.const x.sec) 137 (0, 0))) :
    TkR lo w b m N A pt pd pe tv dv ev av L g x vi va nt vc W.heap.size w3 := by
  have hb3 : Below W.heap.size W w3 := hb.grown hg hb.size (fun j hj => by cases hj; exact Nat.le_refl _)
  have h3' := hS.below hb3
  exact ⟨BelN.of h3'.bel hlo, h3'.asm, ⟨_, _, h3'.line⟩, h3, hO.kept hg (off_blk hx (by decide)) (off_blk hx (by decide))⟩
end
theorem uname_none (b m n : Nat) (g : List (List UInt8)) (s : List UInt8) (hs : s.length ≤ 1100000) (hn : n ≤ 3000000) (w : World) (hc : w.cell? ⟨b, 5, none⟩ = some (.map (some m))) (hS : SetIs w m n g) (hb : b < w.heap.size) (h : nameU g s = none) :
    Calls Tryz.prog 70 #[.pointer (some ⟨b, 0, none⟩), .string (str s)] w fun e w' => e = .returned (.bool false) ∧ SetIs w' m (n + 1) g ∧ w.grownBy w' (some m) := by
  refine (uname_any b m n g s hs hn w hc hS hb).mono ?_
  intro e w' he
  unfold NameOut at he
  rw [h] at he
  exact he
theorem uname_some (b m n : Nat) (g g' : List (List UInt8)) (s : List UInt8) (hs : s.length ≤ 1100000) (hn : n ≤ 3000000) (w : World) (hc : w.cell? ⟨b, 5, none⟩ = some (.map (some m))) (hS : SetIs w m n g) (hb : b < w.heap.size) (h : nameU g s = some g') :
    Calls Tryz.prog 70 #[.pointer (some ⟨b, 0, none⟩), .string (str s)] w fun e w' => e = .returned (.bool true) ∧ SetIs w' m (n + 1) g' ∧ w.grownBy w' (some m) := by
  refine (uname_any b m n g s hs hn w hc hS hb).mono ?_
  intro e w' he
  unfold NameOut at he
  rw [h] at he
  exact he
theorem thown_ok {lo : Nat} {w : World} {t : Thg} {e : Ending} (h : ThOwn lo w (.ok t) e) : ∃ vi va n vc, e = .returned (.tuple #[thgV t.kind vi t.name (.slice va n vc) t.e.const t.sec, .int .i64 0]) ∧ ThO lo w vi t.items (.slice va n vc) t.e.terms := h
theorem thO_slice {lo : Nat} {w : World} {vi : Value} {l : List Itm} {vt : Value} {ts : List Tm} (h : ThO lo w vi l vt ts) : ∃ ai ci, vi = .slice ai l.length ci := by
  obtain ⟨p, e1, e2, e3⟩ := h
  obtain ⟨a, c, hv⟩ := own_slice e2.row
  exact ⟨a, c, by rw [hv, e1, List.length_map]⟩
theorem AsmAt.more (h : AsmAt lo w b m N A pt pd pe tv dv ev av) {N' : Nat} (hN : N ≤ N') : AsmAt lo w b m N' A pt pd pe tv dv ev av :=
  ⟨h.blk, h.text, h.data, h.equs, h.asked, h.set.more hN, h.blo, h.mlo, h.td, h.et, h.ed, h.ee⟩
section
variable {x : Thg} {vi : Value} {va : Option Addr} {nt vc gt : Nat} {ai : Option Addr} {ci : Nat}
theorem TkR.name_some (h : TkR lo w b m N A pt pd pe tv dv ev av L g x vi va nt vc gt W) {s : List UInt8} (hs : s.length ≤ 1100000) (hN : N ≤ 3000000) {g' : List (List UInt8)} (hn : nameU A.given s = some g') :
    Calls Tryz.prog 70 #[.pointer (some ⟨b, 0, none⟩), .string (str s)] W fun e w' => e = .returned (.bool true) ∧ TkR lo w b m (N + 1) { A with given := g' } pt pd pe tv dv ev av L g x vi va nt vc gt w' := by
  refine (uname_some b m N A.given g' s hs hN W h.cells.2.1 h.asm.set h.asm.lt hn).mono ?_
  rintro e w' ⟨rfl, h1, h2⟩
  exact ⟨rfl, h.named h2 h1⟩
theorem TkR.name_none (h : TkR lo w b m N A pt pd pe tv dv ev av L g x vi va nt vc gt W) {s : List UInt8} (hs : s.length ≤ 1100000) (hN : N ≤ 3000000) (hn : nameU A.given s = none) :
    Calls Tryz.prog 70 #[.pointer (some ⟨b, 0, none⟩), .string (str s)] W fun e w' => e = .returned (.bool false) ∧ TkR lo w b m (N + 1) { A with given := A.given } pt pd pe tv dv ev av L g x vi va nt vc gt w' := by
  refine (uname_none b m N A.given s hs hN W h.cells.2.1 h.asm.set h.asm.lt hn).mono ?_
  rintro e w' ⟨rfl, h1, h2⟩
  exact ⟨rfl, h.named h2 h1⟩
theorem TkR.labelled (h : TkR lo w b m N A pt pd pe tv dv ev av L g x (.slice ai x.items.length ci) va nt vc gt W) (hm : x.items.length ≤ 1100000) :
    Calls Tryz.prog 72 #[.string (str L.label), .slice ai x.items.length ci] W fun e w' => TkR lo w b m N A pt pd pe tv dv ev av L g x (.slice ai x.items.length ci) va nt vc gt w' ∧ ∃ a' c' p', p'.map (·.1) = labF L.label ++ x.items ∧ e = .returned (.slice a' p'.length c') ∧ ItOwn lo w' (.slice a' p'.length c') p' := by
  obtain ⟨p, e1, e2, e3⟩ := h.own
  have hl : x.items.length = p.length := by rw [e1, List.length_map]
  have hlo : lo ≤ W.heap.size := by have := h.asm.blo; have := h.asm.lt; omega
  rw [hl] at e2 ⊢
  refine (labelled_any lo L.label ai ci p (by omega) W hlo e2).mono ?_
  rintro e w' ⟨hb, a', c', p', k1, k2, k3⟩
  refine ⟨?_, a', c', p', by rw [k1, e1], k2, k3⟩
  rw [← hl]
  exact h.below hb
end
set_option maxHeartbeats 8000000 in
theorem take_read_err (h : AsmAt lo w b m N A pt pd pe tv dv ev av) (hT : Tab w) (hlo : lo ≤ w.heap.size) (n : Nat) (s : List UInt8) (hs : s.length ≤ 65536) (hL : parseL s = .ok L) (hl : L.label = [] ∨ legB (str L.label) = true) (k : Int) (hk : k ≠ 0) (hR : readF L.op L.args A.sec = .error k) :
    Calls Tryz.prog 35 #[.pointer (some ⟨b, 0, none⟩), .int .i64 n, .string (str s)] w fun e w' => e = .returned (.iface 36 (.int .i64 k)) ∧ Below w.heap.size w w' := by
  have hk0 : (k == 0) = false := by simpa using hk
  have hp := Hid.intro (parse_line (str s) (by rw [show (str s).size = s.length from rfl]; omega) L (by rw [bs_str]; exact hL) w)
  have hll := parseL_label hL
  have hleg := Hid.intro (fun w1 => legal_any (str L.label) (by rw [show (str L.label).size = L.label.length from rfl]; omega) w1)
  obtain ⟨hal, hsm, hfew⟩ := parseL_smallP hs hL
  have hnew := Hid.intro (fun w1 hb a c vs j hA => tks_new (a := a) (c := c) (L := L) (vs := vs) (k := j) h hT (w1 := w1) hb hA hsm)
  have hrd := Hid.intro (fun W a c g (hS : TkS lo w b m N A pt pd pe tv dv ev av L a c g W) => hS.read (by omega) hfew hlo)
  rw [hR] at hrd
  clear h hL hT hR hsm hfew
  by_cases h0 : L.label = []
  · have hne : ((str L.label).toList == []) = true := by rw [str_toList, h0]; rfl
    clear hleg hl h0
    go_enter Tryz.func35, Tryz.ntmps35
    go_upto_region 6 with (first | (go_at_call 67; (with_reducible refine (hp.out).mono ?_); rintro e w1 ⟨hb1, a, c, vs, j, rfl, hA⟩))
    all_goals first | omega | skip
    have hS := hnew.out w1 hb1 a c vs j hA
    clear hA hnew hp hb1
    generalize (w1.alloc (.cells #[.string (str L.label), .string (str L.op), .slice a L.args.length c] 133)) = W at *
    generalize w1.heap.size = g at *
    obtain ⟨c0, c1, c2, c4⟩ := hS.cells
    have hrd1 := Hid.intro (hrd.out _ _ _ _ hS)
    replace hS := Hid.intro hS
    clear hrd
    have n1 : ¬ W.heap.size = g := Nat.ne_of_gt (blk_lt hS.out.line)
    have n2 : ¬ W.heap.size = b := Nat.ne_of_gt hS.out.asm.lt
    go_region_held3 (fun w' => w'.cell? ⟨g, 0, none⟩ = some (.string (str L.label)) ∧ w'.cell? ⟨g, 1, none⟩ = some (.string (str L.op)) ∧ w'.cell? ⟨g, 2, none⟩ = some (.slice a L.args.length c) ∧ w'.cell? ⟨b, 4, none⟩ = some (.int .i64 A.sec)) (go_keep)
      ((first | (go_at_call 69; (with_reducible refine (hrd1.out _ (Below.refl _ _).drew).mono ?_); rintro e w2 ⟨hb2, hb3, he⟩; obtain rfl : e = .returned (.tuple #[thgV 0 (.slice none 0 0) [] (.slice none 0 0) 0 0, .int .i64 k]) := he; obtain ⟨d0, d1, d2, d4⟩ := (hS.out.below hb2).cells; have n3 : ¬ w2.heap.size = g := Nat.ne_of_gt (blk_lt (hS.out.below hb2).line); have n4 : ¬ w2.heap.size = b := Nat.ne_of_gt (hS.out.below hb2).asm.lt) | (go_at_call 69; (with_reducible refine (hrd1.out _ (below_alloc _ _).drew).mono ?_); rintro e w2 ⟨hb2, hb3, he⟩; obtain rfl : e = .returned (.tuple #[thgV 0 (.slice none 0 0) [] (.slice none 0 0) 0 0, .int .i64 k]) := he; obtain ⟨d0, d1, d2, d4⟩ := (hS.out.below hb2).cells; have hbx : w2.heap[W.heap.size]? = some (.cells zero6 137 (0, 0)) := (by rw [hb3.block _ (by simp)]; exact heap_alloc_new W _); obtain ⟨x0, x1, x2, x3, x4, x5⟩ := six_read hbx; have xf := fun j => frozen_of_row w2 W.heap.size j _ 137 hbx; replace hbx := Hid.intro hbx)))
    all_goals go_wp2_with fail
    all_goals first | omega | skip
    all_goals go_ret
    all_goals first
      | exact ⟨rfl, ((hS.out.below hb2).bel).grown (six_set hbx.out (.int .i64 0) (.slice none 0 0) (.string (str [])) (.slice none 0 0) (.int .u32 0) (.int .i64 0)).2 (hS.out.below hb2).bel.size (fun j hj => by cases hj; exact hS.out.bel.size)⟩
      | exact ⟨rfl, (hS.out.below hb2).bel.alloc (hS.out.below hb2).bel.size _⟩
  · have hne : ((str L.label).toList == []) = false := by rw [str_toList]; exact beq_false_of_ne h0
    rw [hl.resolve_left h0] at hleg
    clear hl h0
    go_enter Tryz.func35, Tryz.ntmps35
    go_upto_region 6 with (first | (go_at_call 67; (with_reducible refine (hp.out).mono ?_); rintro e w1 ⟨hb1, a, c, vs, j, rfl, hA⟩) | (go_at_call 68; (with_reducible refine (hleg.out _).mono ?_); rintro e w2 ⟨rfl, hb2⟩))
    all_goals first | omega | skip
    have hS := (hnew.out w1 hb1 a c vs j hA).below hb2
    clear hA hnew hp hb1 hb2 hleg
    generalize w2 = W at *
    generalize w1.heap.size = g at *
    obtain ⟨c0, c1, c2, c4⟩ := hS.cells
    have hrd1 := Hid.intro (hrd.out _ _ _ _ hS)
    replace hS := Hid.intro hS
    clear hrd
    have n1 : ¬ W.heap.size = g := Nat.ne_of_gt (blk_lt hS.out.line)
    have n2 : ¬ W.heap.size = b := Nat.ne_of_gt hS.out.asm.lt
    go_region_held3 (fun w' => w'.cell? ⟨g, 0, none⟩ = some (.string (str L.label)) ∧ w'.cell? ⟨g, 1, none⟩ = some (.string (str L.op)) ∧ w'.cell? ⟨g, 2, none⟩ = some (.slice a L.args.length c) ∧ w'.cell? ⟨b, 4, none⟩ = some (.int .i64 A.sec)) (go_keep)
      ((first | (go_at_call 69; (with_reducible refine (hrd1.out _ (Below.refl _ _).drew).mono ?_); rintro e w2 ⟨hb2, hb3, he⟩; obtain rfl : e = .returned (.tuple #[thgV 0 (.slice none 0 0) [] (.slice none 0 0) 0 0, .int .i64 k]) := he; obtain ⟨d0, d1, d2, d4⟩ := (hS.out.below hb2).cells; have n3 : ¬ w2.heap.size = g := Nat.ne_of_gt (blk_lt (hS.out.below hb2).line); have n4 : ¬ w2.heap.size = b := Nat.ne_of_gt (hS.out.below hb2).asm.lt) | (go_at_call 69; (with_reducible refine (hrd1.out _ (below_alloc _ _).drew).mono ?_); rintro e w2 ⟨hb2, hb3, he⟩; obtain rfl : e = .returned (.tuple #[thgV 0 (.slice none 0 0) [] (.slice none 0 0) 0 0, .int .i64 k]) := he; obtain ⟨d0, d1, d2, d4⟩ := (hS.out.below hb2).cells; have hbx : w2.heap[W.heap.size]? = some (.cells zero6 137 (0, 0)) := (by rw [hb3.block _ (by simp)]; exact heap_alloc_new W _); obtain ⟨x0, x1, x2, x3, x4, x5⟩ := six_read hbx; have xf := fun j => frozen_of_row w2 W.heap.size j _ 137 hbx; replace hbx := Hid.intro hbx)))
    all_goals go_wp2_with fail
    all_goals first | omega | skip
    all_goals go_ret
    all_goals first
      | exact ⟨rfl, ((hS.out.below hb2).bel).grown (six_set hbx.out (.int .i64 0) (.slice none 0 0) (.string (str [])) (.slice none 0 0) (.int .u32 0) (.int .i64 0)).2 (hS.out.below hb2).bel.size (fun j hj => by cases hj; exact hS.out.bel.size)⟩
      | exact ⟨rfl, (hS.out.below hb2).bel.alloc (hS.out.below hb2).bel.size _⟩
set_option maxHeartbeats 8000000 in
theorem take_dup1 (h : AsmAt lo w b m N A pt pd pe tv dv ev av) (hT : Tab w) (hlo : lo ≤ w.heap.size) (n : Nat) (s : List UInt8) (hs : s.length ≤ 65536) (hL : parseL s = .ok L) (hl : L.label = [] ∨ legB (str L.label) = true) (hN : N ≤ 2000000) (x : Thg) (hR : readF L.op L.args A.sec = .ok x) (hn1 : Hid (nameU A.given L.label = none)) :
    Calls Tryz.prog 35 #[.pointer (some ⟨b, 0, none⟩), .int .i64 n, .string (str s)] w fun e w' => e = .returned (.iface 36 (.int .i64 22)) ∧ BelN lo m w w' := by
  replace hN : N ≤ 3000000 := by omega
  have hp := Hid.intro (parse_line (str s) (by rw [show (str s).size = s.length from rfl]; omega) L (by rw [bs_str]; exact hL) w)
  have hll := parseL_label hL
  have hleg := Hid.intro (fun w1 => legal_any (str L.label) (by rw [show (str L.label).size = L.label.length from rfl]; omega) w1)
  obtain ⟨hal, hsm, hfew⟩ := parseL_smallP hs hL
  have hnew := Hid.intro (fun w1 hb a c vs j hA => tks_new (a := a) (c := c) (L := L) (vs := vs) (k := j) h hT (w1 := w1) hb hA hsm)
  have hrd := Hid.intro (fun W a c g (hS : TkS lo w b m N A pt pd pe tv dv ev av L a c g W) => hS.read (by omega) hfew hlo)
  rw [hR] at hrd
  have hfine := readF_fine hfew (by omega) hR
  have hmany := hfine.many
  have hnm : x.name.length ≤ 1100000 := by have := hfine.name; omega
  clear hfine
  clear h hL hT hR hsm hfew
  by_cases h0 : L.label = []
  · have hne : ((str L.label).toList == []) = true := by rw [str_toList, h0]; rfl
    clear hleg hl h0
    go_enter Tryz.func35, Tryz.ntmps35
    go_upto_region 6 with (first | (go_at_call 67; (with_reducible refine (hp.out).mono ?_); rintro e w1 ⟨hb1, a, c, vs, j, rfl, hA⟩))
    all_goals first | omega | skip
    have hS := hnew.out w1 hb1 a c vs j hA
    clear hA hnew hp hb1
    generalize (w1.alloc (.cells #[.string (str L.label), .string (str L.op), .slice a L.args.length c] 133)) = W at *
    generalize w1.heap.size = g at *
    obtain ⟨c0, c1, c2, c4⟩ := hS.cells
    have hrd1 := Hid.intro (hrd.out _ _ _ _ hS)
    replace hS := Hid.intro hS
    clear hrd
    have n1 : ¬ W.heap.size = g := Nat.ne_of_gt (blk_lt hS.out.line)
    have n2 : ¬ W.heap.size = b := Nat.ne_of_gt hS.out.asm.lt
    go_region_held3 (fun w' => w'.cell? ⟨g, 0, none⟩ = some (.string (str L.label)) ∧ w'.cell? ⟨g, 1, none⟩ = some (.string (str L.op)) ∧ w'.cell? ⟨g, 2, none⟩ = some (.slice a L.args.length c) ∧ w'.cell? ⟨b, 4, none⟩ = some (.int .i64 A.sec)) (go_keep)
      ((first | (go_at_call 69; (with_reducible refine (hrd1.out _ (Below.refl _ _).drew).mono ?_); rintro e w2 ⟨hb2, hb3, he⟩; obtain ⟨vi, va, nt, vc, rfl, hO⟩ := thown_ok he; obtain ⟨ai, ci, rfl⟩ := thO_slice hO; replace hO := Hid.intro hO; obtain ⟨d0, d1, d2, d4⟩ := (hS.out.below hb2).cells; have n3 : ¬ w2.heap.size = g := Nat.ne_of_gt (blk_lt (hS.out.below hb2).line); have n4 : ¬ w2.heap.size = b := Nat.ne_of_gt (hS.out.below hb2).asm.lt) | (go_at_call 69; (with_reducible refine (hrd1.out _ (below_alloc _ _).drew).mono ?_); rintro e w2 ⟨hb2, hb3, he⟩; obtain ⟨vi, va, nt, vc, rfl, hO⟩ := thown_ok he; obtain ⟨ai, ci, rfl⟩ := thO_slice hO; replace hO := Hid.intro hO; obtain ⟨d0, d1, d2, d4⟩ := (hS.out.below hb2).cells; have hbx : w2.heap[W.heap.size]? = some (.cells zero6 137 (0, 0)) := (by rw [hb3.block _ (by simp)]; exact heap_alloc_new W _); obtain ⟨x0, x1, x2, x3, x4, x5⟩ := six_read hbx; have xf := fun j => frozen_of_row w2 W.heap.size j _ 137 hbx; replace hbx := Hid.intro hbx)))
    all_goals first
      | (obtain ⟨s1, s2⟩ := six_set hbx.out (.int .i64 x.kind) (.slice ai x.items.length ci) (.string (str x.name)) (.slice va nt vc) (.int .u32 x.e.const) (.int .i64 x.sec)
         have hR6 := Hid.intro (tkr_ahead (x := x) hS.out hlo hb2 hbx.out hO.out s2 s1)
         clear s1 s2 hbx x0 x1 x2 x3 x4 x5 xf
         generalize (((((w2.setCell ⟨W.heap.size, 0, none⟩ (.int .i64 x.kind)).setCell ⟨W.heap.size, 1, none⟩ (.slice ai x.items.length ci)).setCell ⟨W.heap.size, 2, none⟩ (.string (str x.name))).setCell ⟨W.heap.size, 3, none⟩ (.slice va nt vc)).setCell ⟨W.heap.size, 4, none⟩ (.int .u32 x.e.const)).setCell ⟨W.heap.size, 5, none⟩ (.int .i64 x.sec) = W6 at *
         generalize W.heap.size = gt at *)
      | (have hR6 := Hid.intro (tkr_behind (x := x) hS.out hlo hb2 hO.out)
         clear n3 n4
         generalize (w2.alloc (.cells (six x.kind (.slice ai x.items.length ci) x.name (.slice va nt vc) x.e.const x.sec) 137)) = W6 at *
         generalize w2.heap.size = gt at *)
    all_goals clear c0 c1 c2 c4 d0 d1 d2 d4 hb2 hb3 hO hS hrd1 n1 n2
    all_goals obtain ⟨l0, b5, t0, t1, t2, t3, t4, t5⟩ := hR6.out.cells
    all_goals go_wp2_with (go_at_call 70; (with_reducible refine (hR6.out.name_none (s := L.label) (by omega) hN hn1.out).mono ?_); rintro e w7 ⟨rfl, h7⟩; replace h7 := Hid.intro h7; obtain ⟨m0, e5, r0, r1, r2, r3, r4, r5⟩ := h7.out.cells)
    all_goals first | omega | skip
    all_goals go_ret
    all_goals exact ⟨rfl, h7.out.bel⟩
  · have hne : ((str L.label).toList == []) = false := by rw [str_toList]; exact beq_false_of_ne h0
    rw [hl.resolve_left h0] at hleg
    clear hl h0
    go_enter Tryz.func35, Tryz.ntmps35
    go_upto_region 6 with (first | (go_at_call 67; (with_reducible refine (hp.out).mono ?_); rintro e w1 ⟨hb1, a, c, vs, j, rfl, hA⟩) | (go_at_call 68; (with_reducible refine (hleg.out _).mono ?_); rintro e w2 ⟨rfl, hb2⟩))
    all_goals first | omega | skip
    have hS := (hnew.out w1 hb1 a c vs j hA).below hb2
    clear hA hnew hp hb1 hb2 hleg
    generalize w2 = W at *
    generalize w1.heap.size = g at *
    obtain ⟨c0, c1, c2, c4⟩ := hS.cells
    have hrd1 := Hid.intro (hrd.out _ _ _ _ hS)
    replace hS := Hid.intro hS
    clear hrd
    have n1 : ¬ W.heap.size = g := Nat.ne_of_gt (blk_lt hS.out.line)
    have n2 : ¬ W.heap.size = b := Nat.ne_of_gt hS.out.asm.lt
    go_region_held3 (fun w' => w'.cell? ⟨g, 0, none⟩ = some (.string (str L.label)) ∧ w'.cell? ⟨g, 1, none⟩ = some (.string (str L.op)) ∧ w'.cell? ⟨g, 2, none⟩ = some (.slice a L.args.length c) ∧ w'.cell? ⟨b, 4, none⟩ = some (.int .i64 A.sec)) (go_keep)
      ((first | (go_at_call 69; (with_reducible refine (hrd1.out _ (Below.refl _ _).drew).mono ?_); rintro e w2 ⟨hb2, hb3, he⟩; obtain ⟨vi, va, nt, vc, rfl, hO⟩ := thown_ok he; obtain ⟨ai, ci, rfl⟩ := thO_slice hO; replace hO := Hid.intro hO; obtain ⟨d0, d1, d2, d4⟩ := (hS.out.below hb2).cells; have n3 : ¬ w2.heap.size = g := Nat.ne_of_gt (blk_lt (hS.out.below hb2).line); have n4 : ¬ w2.heap.size = b := Nat.ne_of_gt (hS.out.below hb2).asm.lt) | (go_at_call 69; (with_reducible refine (hrd1.out _ (below_alloc _ _).drew).mono ?_); rintro e w2 ⟨hb2, hb3, he⟩; obtain ⟨vi, va, nt, vc, rfl, hO⟩ := thown_ok he; obtain ⟨ai, ci, rfl⟩ := thO_slice hO; replace hO := Hid.intro hO; obtain ⟨d0, d1, d2, d4⟩ := (hS.out.below hb2).cells; have hbx : w2.heap[W.heap.size]? = some (.cells zero6 137 (0, 0)) := (by rw [hb3.block _ (by simp)]; exact heap_alloc_new W _); obtain ⟨x0, x1, x2, x3, x4, x5⟩ := six_read hbx; have xf := fun j => frozen_of_row w2 W.heap.size j _ 137 hbx; replace hbx := Hid.intro hbx)))
    all_goals first
      | (obtain ⟨s1, s2⟩ := six_set hbx.out (.int .i64 x.kind) (.slice ai x.items.length ci) (.string (str x.name)) (.slice va nt vc) (.int .u32 x.e.const) (.int .i64 x.sec)
         have hR6 := Hid.intro (tkr_ahead (x := x) hS.out hlo hb2 hbx.out hO.out s2 s1)
         clear s1 s2 hbx x0 x1 x2 x3 x4 x5 xf
         generalize (((((w2.setCell ⟨W.heap.size, 0, none⟩ (.int .i64 x.kind)).setCell ⟨W.heap.size, 1, none⟩ (.slice ai x.items.length ci)).setCell ⟨W.heap.size, 2, none⟩ (.string (str x.name))).setCell ⟨W.heap.size, 3, none⟩ (.slice va nt vc)).setCell ⟨W.heap.size, 4, none⟩ (.int .u32 x.e.const)).setCell ⟨W.heap.size, 5, none⟩ (.int .i64 x.sec) = W6 at *
         generalize W.heap.size = gt at *)
      | (have hR6 := Hid.intro (tkr_behind (x := x) hS.out hlo hb2 hO.out)
         clear n3 n4
         generalize (w2.alloc (.cells (six x.kind (.slice ai x.items.length ci) x.name (.slice va nt vc) x.e.const x.sec) 137)) = W6 at *
         generalize w2.heap.size = gt at *)
    all_goals clear c0 c1 c2 c4 d0 d1 d2 d4 hb2 hb3 hO hS hrd1 n1 n2
    all_goals obtain ⟨l0, b5, t0, t1, t2, t3, t4, t5⟩ := hR6.out.cells
    all_goals go_wp2_with (go_at_call 70; (with_reducible refine (hR6.out.name_none (s := L.label) (by omega) hN hn1.out).mono ?_); rintro e w7 ⟨rfl, h7⟩; replace h7 := Hid.intro h7; obtain ⟨m0, e5, r0, r1, r2, r3, r4, r5⟩ := h7.out.cells)
    all_goals first | omega | skip
    all_goals go_ret
    all_goals exact ⟨rfl, h7.out.bel⟩
set_option maxHeartbeats 8000000 in
theorem take_dup2 (h : AsmAt lo w b m N A pt pd pe tv dv ev av) (hT : Tab w) (hlo : lo ≤ w.heap.size) (n : Nat) (s : List UInt8) (hs : s.length ≤ 65536) (hL : parseL s = .ok L) (hl : L.label = [] ∨ legB (str L.label) = true) (hN : N ≤ 2000000) (x : Thg) (hR : readF L.op L.args A.sec = .ok x) (g1 : List (List UInt8)) (hn1 : Hid (nameU A.given L.label = some g1)) (hk3 : x.kind = 3) (hn2 : Hid (nameU g1 x.name = none)) :
    Calls Tryz.prog 35 #[.pointer (some ⟨b, 0, none⟩), .int .i64 n, .string (str s)] w fun e w' => e = .returned (.iface 36 (.int .i64 22)) ∧ BelN lo m w w' := by
  replace hN : N + 1 ≤ 3000000 := by omega
  have e3 : (x.kind == 3) = true := by simpa using hk3
  clear hk3
  have hp := Hid.intro (parse_line (str s) (by rw [show (str s).size = s.length from rfl]; omega) L (by rw [bs_str]; exact hL) w)
  have hll := parseL_label hL
  have hleg := Hid.intro (fun w1 => legal_any (str L.label) (by rw [show (str L.label).size = L.label.length from rfl]; omega) w1)
  obtain ⟨hal, hsm, hfew⟩ := parseL_smallP hs hL
  have hnew := Hid.intro (fun w1 hb a c vs j hA => tks_new (a := a) (c := c) (L := L) (vs := vs) (k := j) h hT (w1 := w1) hb hA hsm)
  have hrd := Hid.intro (fun W a c g (hS : TkS lo w b m N A pt pd pe tv dv ev av L a c g W) => hS.read (by omega) hfew hlo)
  rw [hR] at hrd
  have hfine := readF_fine hfew (by omega) hR
  have hmany := hfine.many
  have hnm : x.name.length ≤ 1100000 := by have := hfine.name; omega
  clear hfine
  clear h hL hT hR hsm hfew
  by_cases h0 : L.label = []
  · have hne : ((str L.label).toList == []) = true := by rw [str_toList, h0]; rfl
    clear hleg hl h0
    go_enter Tryz.func35, Tryz.ntmps35
    go_upto_region 6 with (first | (go_at_call 67; (with_reducible refine (hp.out).mono ?_); rintro e w1 ⟨hb1, a, c, vs, j, rfl, hA⟩))
    all_goals first | omega | skip
    have hS := hnew.out w1 hb1 a c vs j hA
    clear hA hnew hp hb1
    generalize (w1.alloc (.cells #[.string (str L.label), .string (str L.op), .slice a L.args.length c] 133)) = W at *
    generalize w1.heap.size = g at *
    obtain ⟨c0, c1, c2, c4⟩ := hS.cells
    have hrd1 := Hid.intro (hrd.out _ _ _ _ hS)
    replace hS := Hid.intro hS
    clear hrd
    have n1 : ¬ W.heap.size = g := Nat.ne_of_gt (blk_lt hS.out.line)
    have n2 : ¬ W.heap.size = b := Nat.ne_of_gt hS.out.asm.lt
    go_region_held3 (fun w' => w'.cell? ⟨g, 0, none⟩ = some (.string (str L.label)) ∧ w'.cell? ⟨g, 1, none⟩ = some (.string (str L.op)) ∧ w'.cell? ⟨g, 2, none⟩ = some (.slice a L.args.length c) ∧ w'.cell? ⟨b, 4, none⟩ = some (.int .i64 A.sec)) (go_keep)
      ((first | (go_at_call 69; (with_reducible refine (hrd1.out _ (Below.refl _ _).drew).mono ?_); rintro e w2 ⟨hb2, hb3, he⟩; obtain ⟨vi, va, nt, vc, rfl, hO⟩ := thown_ok he; obtain ⟨ai, ci, rfl⟩ := thO_slice hO; replace hO := Hid.intro hO; obtain ⟨d0, d1, d2, d4⟩ := (hS.out.below hb2).cells; have n3 : ¬ w2.heap.size = g := Nat.ne_of_gt (blk_lt (hS.out.below hb2).line); have n4 : ¬ w2.heap.size = b := Nat.ne_of_gt (hS.out.below hb2).asm.lt) | (go_at_call 69; (with_reducible refine (hrd1.out _ (below_alloc _ _).drew).mono ?_); rintro e w2 ⟨hb2, hb3, he⟩; obtain ⟨vi, va, nt, vc, rfl, hO⟩ := thown_ok he; obtain ⟨ai, ci, rfl⟩ := thO_slice hO; replace hO := Hid.intro hO; obtain ⟨d0, d1, d2, d4⟩ := (hS.out.below hb2).cells; have hbx : w2.heap[W.heap.size]? = some (.cells zero6 137 (0, 0)) := (by rw [hb3.block _ (by simp)]; exact heap_alloc_new W _); obtain ⟨x0, x1, x2, x3, x4, x5⟩ := six_read hbx; have xf := fun j => frozen_of_row w2 W.heap.size j _ 137 hbx; replace hbx := Hid.intro hbx)))
    all_goals first
      | (obtain ⟨s1, s2⟩ := six_set hbx.out (.int .i64 x.kind) (.slice ai x.items.length ci) (.string (str x.name)) (.slice va nt vc) (.int .u32 x.e.const) (.int .i64 x.sec)
         have hR6 := Hid.intro (tkr_ahead (x := x) hS.out hlo hb2 hbx.out hO.out s2 s1)
         clear s1 s2 hbx x0 x1 x2 x3 x4 x5 xf
         generalize (((((w2.setCell ⟨W.heap.size, 0, none⟩ (.int .i64 x.kind)).setCell ⟨W.heap.size, 1, none⟩ (.slice ai x.items.length ci)).setCell ⟨W.heap.size, 2, none⟩ (.string (str x.name))).setCell ⟨W.heap.size, 3, none⟩ (.slice va nt vc)).setCell ⟨W.heap.size, 4, none⟩ (.int .u32 x.e.const)).setCell ⟨W.heap.size, 5, none⟩ (.int .i64 x.sec) = W6 at *
         generalize W.heap.size = gt at *)
      | (have hR6 := Hid.intro (tkr_behind (x := x) hS.out hlo hb2 hO.out)
         clear n3 n4
         generalize (w2.alloc (.cells (six x.kind (.slice ai x.items.length ci) x.name (.slice va nt vc) x.e.const x.sec) 137)) = W6 at *
         generalize w2.heap.size = gt at *)
    all_goals clear c0 c1 c2 c4 d0 d1 d2 d4 hb2 hb3 hO hS hrd1 n1 n2
    all_goals obtain ⟨l0, b5, t0, t1, t2, t3, t4, t5⟩ := hR6.out.cells
    all_goals go_wp2_with (first | (go_at_call 70; (with_reducible refine (hR6.out.name_some (s := L.label) (by omega) (by omega) hn1.out).mono ?_); rintro e w7 ⟨rfl, h7⟩; replace h7 := Hid.intro h7; obtain ⟨m0, e5, r0, r1, r2, r3, r4, r5⟩ := h7.out.cells) | (go_at_call 70; (with_reducible refine (h7.out.name_none (s := x.name) hnm (by omega) hn2.out).mono ?_); rintro e w8 ⟨rfl, h8⟩; replace h8 := Hid.intro h8; obtain ⟨m0, e5, r0, r1, r2, r3, r4, r5⟩ := h8.out.cells))
    all_goals first | omega | skip
    all_goals go_ret
    all_goals exact ⟨rfl, h8.out.bel⟩
  · have hne : ((str L.label).toList == []) = false := by rw [str_toList]; exact beq_false_of_ne h0
    rw [hl.resolve_left h0] at hleg
    clear hl h0
    go_enter Tryz.func35, Tryz.ntmps35
    go_upto_region 6 with (first | (go_at_call 67; (with_reducible refine (hp.out).mono ?_); rintro e w1 ⟨hb1, a, c, vs, j, rfl, hA⟩) | (go_at_call 68; (with_reducible refine (hleg.out _).mono ?_); rintro e w2 ⟨rfl, hb2⟩))
    all_goals first | omega | skip
    have hS := (hnew.out w1 hb1 a c vs j hA).below hb2
    clear hA hnew hp hb1 hb2 hleg
    generalize w2 = W at *
    generalize w1.heap.size = g at *
    obtain ⟨c0, c1, c2, c4⟩ := hS.cells
    have hrd1 := Hid.intro (hrd.out _ _ _ _ hS)
    replace hS := Hid.intro hS
    clear hrd
    have n1 : ¬ W.heap.size = g := Nat.ne_of_gt (blk_lt hS.out.line)
    have n2 : ¬ W.heap.size = b := Nat.ne_of_gt hS.out.asm.lt
    go_region_held3 (fun w' => w'.cell? ⟨g, 0, none⟩ = some (.string (str L.label)) ∧ w'.cell? ⟨g, 1, none⟩ = some (.string (str L.op)) ∧ w'.cell? ⟨g, 2, none⟩ = some (.slice a L.args.length c) ∧ w'.cell? ⟨b, 4, none⟩ = some (.int .i64 A.sec)) (go_keep)
      ((first | (go_at_call 69; (with_reducible refine (hrd1.out _ (Below.refl _ _).drew).mono ?_); rintro e w2 ⟨hb2, hb3, he⟩; obtain ⟨vi, va, nt, vc, rfl, hO⟩ := thown_ok he; obtain ⟨ai, ci, rfl⟩ := thO_slice hO; replace hO := Hid.intro hO; obtain ⟨d0, d1, d2, d4⟩ := (hS.out.below hb2).cells; have n3 : ¬ w2.heap.size = g := Nat.ne_of_gt (blk_lt (hS.out.below hb2).line); have n4 : ¬ w2.heap.size = b := Nat.ne_of_gt (hS.out.below hb2).asm.lt) | (go_at_call 69; (with_reducible refine (hrd1.out _ (below_alloc _ _).drew).mono ?_); rintro e w2 ⟨hb2, hb3, he⟩; obtain ⟨vi, va, nt, vc, rfl, hO⟩ := thown_ok he; obtain ⟨ai, ci, rfl⟩ := thO_slice hO; replace hO := Hid.intro hO; obtain ⟨d0, d1, d2, d4⟩ := (hS.out.below hb2).cells; have hbx : w2.heap[W.heap.size]? = some (.cells zero6 137 (0, 0)) := (by rw [hb3.block _ (by simp)]; exact heap_alloc_new W _); obtain ⟨x0, x1, x2, x3, x4, x5⟩ := six_read hbx; have xf := fun j => frozen_of_row w2 W.heap.size j _ 137 hbx; replace hbx := Hid.intro hbx)))
    all_goals first
      | (obtain ⟨s1, s2⟩ := six_set hbx.out (.int .i64 x.kind) (.slice ai x.items.length ci) (.string (str x.name)) (.slice va nt vc) (.int .u32 x.e.const) (.int .i64 x.sec)
         have hR6 := Hid.intro (tkr_ahead (x := x) hS.out hlo hb2 hbx.out hO.out s2 s1)
         clear s1 s2 hbx x0 x1 x2 x3 x4 x5 xf
         generalize (((((w2.setCell ⟨W.heap.size, 0, none⟩ (.int .i64 x.kind)).setCell ⟨W.heap.size, 1, none⟩ (.slice ai x.items.length ci)).setCell ⟨W.heap.size, 2, none⟩ (.string (str x.name))).setCell ⟨W.heap.size, 3, none⟩ (.slice va nt vc)).setCell ⟨W.heap.size, 4, none⟩ (.int .u32 x.e.const)).setCell ⟨W.heap.size, 5, none⟩ (.int .i64 x.sec) = W6 at *
         generalize W.heap.size = gt at *)
      | (have hR6 := Hid.intro (tkr_behind (x := x) hS.out hlo hb2 hO.out)
         clear n3 n4
         generalize (w2.alloc (.cells (six x.kind (.slice ai x.items.length ci) x.name (.slice va nt vc) x.e.const x.sec) 137)) = W6 at *
         generalize w2.heap.size = gt at *)
    all_goals clear c0 c1 c2 c4 d0 d1 d2 d4 hb2 hb3 hO hS hrd1 n1 n2
    all_goals obtain ⟨l0, b5, t0, t1, t2, t3, t4, t5⟩ := hR6.out.cells
    all_goals go_wp2_with (first | (go_at_call 70; (with_reducible refine (hR6.out.name_some (s := L.label) (by omega) (by omega) hn1.out).mono ?_); rintro e w7 ⟨rfl, h7⟩; replace h7 := Hid.intro h7; obtain ⟨m0, e5, r0, r1, r2, r3, r4, r5⟩ := h7.out.cells) | (go_at_call 70; (with_reducible refine (h7.out.name_none (s := x.name) hnm (by omega) hn2.out).mono ?_); rintro e w8 ⟨rfl, h8⟩; replace h8 := Hid.intro h8; obtain ⟨m0, e5, r0, r1, r2, r3, r4, r5⟩ := h8.out.cells))
    all_goals first | omega | skip
    all_goals go_ret
    all_goals exact ⟨rfl, h8.out.bel⟩
end Go.Proofs.YtogkchgjpflmjaaGreatDoor

/- item's Read, by one more reader. -/
import Derived.Test.YtogkchgjpflmjaaGreatDoorDi5
namespace Go.Proofs.YtogkchgjpflmjaaGreatDoor
open Go.ChangeShapes Go.WideShapes Go.ChangeAt Go.RowKit
set_option linter.unusedVariables false
set_option maxRecDepth 100000
set_option maxHeartbeats 1000000 in
theorem readLen_several (lb s : List UInt8) (hs0 : s ≠ []) (a : Option Addr) (c : Nat) (n0 : Nat) (hal : n0 ≤ 1100000) (sec : Int) (w : World) (least most : Int) (hbad : (n0 : Int) < least ∨ most < (n0 : Int)) (RB : World → Nat → Prop)
    (hro0 : ∀ w1, Below w.heap.size w w1 → Calls Tryz.prog 105 #[.string (str s)] w1 fun e w2 => Below w1.heap.size w1 w2 ∧ ∃ b, w1.heap.size ≤ b ∧ e = .returned (.tuple #[.iface 229 (.pointer (some ⟨b, 0, none⟩)), .int .i64 least, .int .i64 most]) ∧ (b < w2.heap.size ∧ RB w2 b)) :
    Calls Tryz.prog 69 #[.agg #[.string (str lb), .string (str s), .slice a n0 c], .int .i64 sec] w fun e w' => Below w.heap.size w w' ∧ ThOwn w.heap.size w' (.error 20) e := by
  have hne : ((str s).toList == []) = false := by rw [str_toList]; exact beq_false_of_ne hs0
  have hnl : ∀ a w, (binOp .eql 192 (.iface 229 (.pointer (some a))) .nilIface).run Tryz.prog w = .ok (.bool false) w := nil_122
  have hro := Hid.intro (hro0 (rdW w lb s a n0 c) (rdW_below w lb s a n0 c))
  clear hro0
  by_cases hl : (n0 : Int) < least
  · clear hbad
    go_enter Tryz.func69, Tryz.ntmps69
    go_wp2_with (go_at_call 105; (with_reducible refine (hro.out).mono ?_); rintro e w1 ⟨hb1, b, hb, rfl, hO⟩; have hs1 := hb1.size; replace hO := Hid.intro hO; obtain ⟨l1, l2, hr1⟩ := ro_facts hb1; obtain ⟨rc0, rc1, rc2, rc3, rc4, rc5⟩ := six_read hr1; have rf := fun j => frozen_of_row w1 (w.heap.size + 1) j _ 137 hr1; replace hr1 := Hid.intro hr1)
    all_goals first | omega | skip
    obtain ⟨hw1, hw2⟩ := ro_wide hb1
    obtain ⟨s1, s2⟩ := six_set hr1.out (.int .i64 0) (.slice none 0 0) (.string ⟨#[]⟩) (.slice none 0 0) (.int .u32 0) (.int .i64 0)
    have hB9 := (hw1).grown s2 (by omega) (fun j hj => by cases hj; omega)
    generalize ((((((w1.setCell ⟨w.heap.size + 1, 0, none⟩ (.int .i64 0)).setCell ⟨w.heap.size + 1, 1, none⟩ (.slice none 0 0)).setCell ⟨w.heap.size + 1, 2, none⟩ (.string ⟨#[]⟩)).setCell ⟨w.heap.size + 1, 3, none⟩ (.slice none 0 0)).setCell ⟨w.heap.size + 1, 4, none⟩ (.int .u32 0)).setCell ⟨w.heap.size + 1, 5, none⟩ (.int .i64 0)) = w9 at s1 s2 hB9 ⊢
    obtain ⟨k0, k1, k2, k3, k4, k5⟩ := thing_ret (w8 := w9) s1
    refine bodyPost_ret (by simp [results, Tryz.results69, go_sem, k0, k1, k2, k3, k4, k5]; try rfl) rfl ?_
    exact ⟨hB9, rfl⟩
  · have hl2 : most < (n0 : Int) := by omega
    clear hbad
    go_enter Tryz.func69, Tryz.ntmps69
    go_wp2_with (go_at_call 105; (with_reducible refine (hro.out).mono ?_); rintro e w1 ⟨hb1, b, hb, rfl, hO⟩; have hs1 := hb1.size; replace hO := Hid.intro hO; obtain ⟨l1, l2, hr1⟩ := ro_facts hb1; obtain ⟨rc0, rc1, rc2, rc3, rc4, rc5⟩ := six_read hr1; have rf := fun j => frozen_of_row w1 (w.heap.size + 1) j _ 137 hr1; replace hr1 := Hid.intro hr1)
    all_goals first | omega | skip
    obtain ⟨hw1, hw2⟩ := ro_wide hb1
    obtain ⟨s1, s2⟩ := six_set hr1.out (.int .i64 0) (.slice none 0 0) (.string ⟨#[]⟩) (.slice none 0 0) (.int .u32 0) (.int .i64 0)
    have hB9 := (hw1).grown s2 (by omega) (fun j hj => by cases hj; omega)
    generalize ((((((w1.setCell ⟨w.heap.size + 1, 0, none⟩ (.int .i64 0)).setCell ⟨w.heap.size + 1, 1, none⟩ (.slice none 0 0)).setCell ⟨w.heap.size + 1, 2, none⟩ (.string ⟨#[]⟩)).setCell ⟨w.heap.size + 1, 3, none⟩ (.slice none 0 0)).setCell ⟨w.heap.size + 1, 4, none⟩ (.int .u32 0)).setCell ⟨w.heap.size + 1, 5, none⟩ (.int .i64 0)) = w9 at s1 s2 hB9 ⊢
    obtain ⟨k0, k1, k2, k3, k4, k5⟩ := thing_ret (w8 := w9) s1
    refine bodyPost_ret (by simp [results, Tryz.results69, go_sem, k0, k1, k2, k3, k4, k5]; try rfl) rfl ?_
    exact ⟨hB9, rfl⟩
set_option maxHeartbeats 2000000 in
theorem readG_several (lb s : List UInt8) (hs0 : s ≠ []) (a : Option Addr) (c : Nat) (n0 : Nat) (hal : n0 ≤ 1100000) (sec : Int) (w : World) (least most : Int) (hlo : ¬ (n0 : Int) < least) (hhi : ¬ most < (n0 : Int)) (RB : World → Nat → Prop) (RD : Thg → World → Nat → Prop) (R : Except Int Thg)
    (hro0 : ∀ w1, Below w.heap.size w w1 → Calls Tryz.prog 105 #[.string (str s)] w1 fun e w2 => Below w1.heap.size w1 w2 ∧ ∃ b, w1.heap.size ≤ b ∧ e = .returned (.tuple #[.iface 229 (.pointer (some ⟨b, 0, none⟩)), .int .i64 least, .int .i64 most]) ∧ (b < w2.heap.size ∧ RB w2 b))
    (hrd0 : ∀ w1 b, Below w.heap.size w w1 → w.heap.size + 2 ≤ b → b < w1.heap.size → RB w1 b → Calls Tryz.prog 263 #[.pointer (some ⟨b, 0, none⟩), .slice a n0 c] w1 fun e w2 => Below b w1 w2 ∧ RdOut R RD e w2 b)
    (hsd0 : ∀ t w1 b, w.heap.size + 2 ≤ b → b < w1.heap.size → RD t w1 b → Calls Tryz.prog 106 #[.iface 229 (.pointer (some ⟨b, 0, none⟩))] w1 fun e w2 => Below w1.heap.size w1 w2 ∧ ∃ ai ni ci va n vc, e = .returned (thgV t.kind (.slice ai ni ci) t.name (.slice va n vc) t.e.const t.sec) ∧ ItemsLie w2 (.slice ai ni ci) t.items ∧ n = t.e.terms.length ∧ TmLies w2 va t.e.terms ∧ ThO (w.heap.size + 2) w2 (.slice ai ni ci) t.items (.slice va n vc) t.e.terms)
    (hk : ∀ k, R = .error k → k ≠ 0) (hmany : ∀ t, R = .ok t → t.items.length ≤ 1100000) :
    Calls Tryz.prog 69 #[.agg #[.string (str lb), .string (str s), .slice a n0 c], .int .i64 sec] w fun e w' => Below w.heap.size w w' ∧ ThOwn w.heap.size w' (andStands R sec) e := by
  have hne : ((str s).toList == []) = false := by rw [str_toList]; exact beq_false_of_ne hs0
  have hnl : ∀ a w, (binOp .eql 192 (.iface 229 (.pointer (some a))) .nilIface).run Tryz.prog w = .ok (.bool false) w := nil_122
  have hro := Hid.intro (hro0 (rdW w lb s a n0 c) (rdW_below w lb s a n0 c))
  clear hro0
  cases R with
  | error k =>
    have hk0 : (k == 0) = false := by have := hk k rfl; simpa using this
    have hrd : Hid (∀ w1, Below (rdW w lb s a n0 c).heap.size (rdW w lb s a n0 c) w1 → ∀ b, (rdW w lb s a n0 c).heap.size ≤ b → (b < w1.heap.size ∧ RB w1 b) → Calls Tryz.prog 263 #[.pointer (some ⟨b, 0, none⟩), .slice a n0 c] w1 fun e w2 => e = .returned (.int .i64 k) ∧ Below b w1 w2 ∧ True) := fun w1 h1 b hb hO => by
      obtain ⟨hw1, hw2⟩ := ro_wide h1
      refine (hrd0 w1 b hw1 (by rw [rdW_size] at hb; exact hb) hO.1 hO.2).mono ?_
      rintro e w2 ⟨h1, h2⟩
      exact ⟨h2, h1, trivial⟩
    clear hrd0 hsd0 hk hmany
    rw [show andStands (.error k) sec = .error k from rfl]
    go_enter Tryz.func69, Tryz.ntmps69
    go_wp2_with (first | (go_at_call 105; (with_reducible refine (hro.out).mono ?_); rintro e w1 ⟨hb1, b, hb, rfl, hO⟩; have hs1 := hb1.size; replace hO := Hid.intro hO; obtain ⟨l1, l2, hr1⟩ := ro_facts hb1; obtain ⟨rc0, rc1, rc2, rc3, rc4, rc5⟩ := six_read hr1; have rf := fun j => frozen_of_row w1 (w.heap.size + 1) j _ 137 hr1; replace hr1 := Hid.intro hr1) | (go_at_call 263; (with_reducible refine (hrd.out w1 hb1 b hb hO.out).mono ?_); rintro e w2 ⟨rfl, hb2, hO2⟩; have hs2 := hb2.size; have hr2 : w2.heap[w.heap.size + 1]? = some (.cells zero6 137 (0, 0)) := (by rw [hb2.block _ (by rw [rdW_size] at hb; omega)]; exact hr1.out); obtain ⟨rd0, rd1, rd2, rd3, rd4, rd5⟩ := six_read hr2; have rg := fun j => frozen_of_row w2 (w.heap.size + 1) j _ 137 hr2; replace hr2 := Hid.intro hr2; replace hO2 := Hid.intro hO2))
    all_goals first | omega | skip
    obtain ⟨hw1, hw2⟩ := ro_wide hb1
    have hw3 : Below w.heap.size w w2 := hw1.trans (hb2.mono (by rw [rdW_size] at hb; omega))
    obtain ⟨s1, s2⟩ := six_set hr2.out (.int .i64 0) (.slice none 0 0) (.string ⟨#[]⟩) (.slice none 0 0) (.int .u32 0) (.int .i64 0)
    have hB9 := (hw3).grown s2 (by omega) (fun j hj => by cases hj; omega)
    generalize ((((((w2.setCell ⟨w.heap.size + 1, 0, none⟩ (.int .i64 0)).setCell ⟨w.heap.size + 1, 1, none⟩ (.slice none 0 0)).setCell ⟨w.heap.size + 1, 2, none⟩ (.string ⟨#[]⟩)).setCell ⟨w.heap.size + 1, 3, none⟩ (.slice none 0 0)).setCell ⟨w.heap.size + 1, 4, none⟩ (.int .u32 0)).setCell ⟨w.heap.size + 1, 5, none⟩ (.int .i64 0)) = w9 at s1 s2 hB9 ⊢
    obtain ⟨k0, k1, k2, k3, k4, k5⟩ := thing_ret (w8 := w9) s1
    refine bodyPost_ret (by simp [results, Tryz.results69, go_sem, k0, k1, k2, k3, k4, k5]; try rfl) rfl ?_
    exact ⟨hB9, rfl⟩
  | ok t =>
    have hrd : Hid (∀ w1, Below (rdW w lb s a n0 c).heap.size (rdW w lb s a n0 c) w1 → ∀ b, (rdW w lb s a n0 c).heap.size ≤ b → (b < w1.heap.size ∧ RB w1 b) → Calls Tryz.prog 263 #[.pointer (some ⟨b, 0, none⟩), .slice a n0 c] w1 fun e w2 => e = .returned (.int .i64 0) ∧ Below b w1 w2 ∧ RD t w2 b) := fun w1 h1 b hb hO => by
      obtain ⟨hw1, hw2⟩ := ro_wide h1
      refine (hrd0 w1 b hw1 (by rw [rdW_size] at hb; exact hb) hO.1 hO.2).mono ?_
      rintro e w2 ⟨h1, h2⟩
      exact ⟨h2.1, h1, h2.2⟩
    have hsd := Hid.intro hsd0
    have hmanyH := Hid.intro (hmany t rfl)
    clear hrd0 hsd0 hk hmany
    rw [show andStands (.ok t) sec = standsT t sec from rfl]
    go_enter Tryz.func69, Tryz.ntmps69
    go_upto_region 10 with (first | (go_at_call 105; (with_reducible refine (hro.out).mono ?_); rintro e w1 ⟨hb1, b, hb, rfl, hO⟩; have hs1 := hb1.size; replace hO := Hid.intro hO; obtain ⟨l1, l2, hr1⟩ := ro_facts hb1; obtain ⟨rc0, rc1, rc2, rc3, rc4, rc5⟩ := six_read hr1; have rf := fun j => frozen_of_row w1 (w.heap.size + 1) j _ 137 hr1; replace hr1 := Hid.intro hr1) | (go_at_call 263; (with_reducible refine (hrd.out w1 hb1 b hb hO.out).mono ?_); rintro e w2 ⟨rfl, hb2, hO2⟩; have hs2 := hb2.size; have hr2 : w2.heap[w.heap.size + 1]? = some (.cells zero6 137 (0, 0)) := (by rw [hb2.block _ (by rw [rdW_size] at hb; omega)]; exact hr1.out); obtain ⟨rd0, rd1, rd2, rd3, rd4, rd5⟩ := six_read hr2; have rg := fun j => frozen_of_row w2 (w.heap.size + 1) j _ 137 hr2; replace hr2 := Hid.intro hr2; replace hO2 := Hid.intro hO2) | (go_at_call 106; (with_reducible refine (hsd.out t w2 b (by rw [rdW_size] at hb; exact hb) (Nat.lt_of_lt_of_le hO.out.1 hb2.size) hO2.out).mono ?_); rintro e w3 ⟨hb3, ai, ni, ci, va, n, vc, rfl, hit, hn, htm, hown⟩; replace hown := Hid.intro hown; replace hit := Hid.intro hit; replace htm := Hid.intro htm; replace hn := Hid.intro hn))
    all_goals first | omega | skip
    obtain ⟨hw1, hw2⟩ := ro_wide hb1
    have hbb : w.heap.size + 2 ≤ b := by rw [rdW_size] at hb; exact hb
    have hOlt := hO.out.1
    have hs3 := hb3.size
    have hB3 : Below w.heap.size w w3 := (hw1.trans (hb2.mono (by omega))).trans (hb3.mono (by omega))
    have hS : RStG w t ai ni ci va n vc w3.heap.size (w3.alloc (.cells #[.int .i64 t.kind, .slice ai ni ci, .string (str t.name), .slice va n vc, .int .u32 t.e.const, .int .i64 t.sec] 137)) :=
      ⟨hB3.alloc hB3.size _, by rw [Below.heap_alloc _ _ _ (by omega), hb3.block _ (by omega)]; exact hr2.out, heap_alloc_new w3 _, hit.out.below (below_alloc w3 _), htm.out.below (below_alloc w3 _) (Nat.le_refl _), hown.out.below (below_alloc w3 _)⟩
    generalize hp : w3.heap.size = p at hS ⊢
    generalize (w3.alloc (.cells #[.int .i64 t.kind, .slice ai ni ci, .string (str t.name), .slice va n vc, .int .u32 t.e.const, .int .i64 t.sec] 137)) = w4 at hS ⊢
    have hni := Hid.intro (lie_len hit.out)
    have hnim : ni ≤ 1100000 := by rw [hni.out]; exact hmanyH.out
    clear rd0 rd1 rd2 rd3 rd4 rd5 rg rc0 rc1 rc2 rc3 rc4 rc5 rf l1 l2 hr1 hr2 hb3 hb2 hb1 hO hO2 hro hrd hsd hp hB3 hit htm hown
    replace hS := Hid.intro hS
    have t1 := (cell_blockT hS.out.thing 1).trans rfl
    go_wp2
    all_goals first | omega | skip
    clear t1
    go_loopw [54] (fun v54 wr => ∃ i : Nat, i ≤ ni ∧ v54 = .int .i64 (i : Int) ∧ Hid (((t.items.take i).all fun y => standsB y.kind sec) = true) ∧ Hid (RStG w t ai ni ci va n vc p wr)) (fun v54 wr => ni - (intOf v54).toNat)
    case atStart => exact ⟨0, by omega, rfl, (by show _ = _; simp), hS⟩
    case round =>
      clear hS
      obtain ⟨i, hi, rfl, hall, hS⟩ := hrel
      by_cases hlt : i < ni
      · obtain ⟨x, hx⟩ : ∃ x, t.items[i]? = some x := ⟨t.items[i]'(by rw [← hni.out]; exact hlt), List.getElem?_eq_getElem _⟩
        obtain ⟨q, rfl, hq, xa, xn, xc, hI⟩ := lie_at hS.out.items hx
        obtain ⟨c0, c1, c2, c3, c4, c5, c6, c7, c8, c9⟩ := hI
        have hlt2 : (i : Int) < (ni : Int) := by omega
        have hst := Hid.intro (fun w1 => stands_any x.kind sec w1)
        have hal2 := Hid.intro (fun o => hS.out.below (below_alloc wr o))
        have r0 := fun o => (cell_blockT (hal2.out o).res 0).trans rfl
        have r1 := fun o => (cell_blockT (hal2.out o).res 1).trans rfl
        have r2 := fun o => (cell_blockT (hal2.out o).res 2).trans rfl
        have r3 := fun o => (cell_blockT (hal2.out o).res 3).trans rfl
        have r4 := fun o => (cell_blockT (hal2.out o).res 4).trans rfl
        have r5 := fun o => (cell_blockT (hal2.out o).res 5).trans rfl
        have rf := fun o j => frozen_of_row (wr.alloc o) (w.heap.size + 1) j _ 137 (hal2.out o).res
        cases hsb : standsB x.kind sec
        · rw [hsb] at hst
          have hbadH := Hid.intro (stands_bad hx hsb)
          clear hx hsb
          go_wp2_with (go_at_call 107; (with_reducible refine (hst.out _).mono ?_); rintro e w5 ⟨rfl, rfl⟩)
          all_goals first | omega | skip
          have hal3 := hal2.out (.cells (itmCells x (.slice xa xn xc)) 91)
          have hbs := hal3.bel.size
          obtain ⟨s1, s2⟩ := six_set hal3.res (.int .i64 0) (.slice none 0 0) (.string ⟨#[]⟩) (.slice none 0 0) (.int .u32 0) (.int .i64 0)
          have hB9 := (hal3.bel).grown s2 (by omega) (fun j hj => by cases hj; omega)
          generalize (((((((wr.alloc (.cells (itmCells x (.slice xa xn xc)) 91)).setCell ⟨w.heap.size + 1, 0, none⟩ (.int .i64 0)).setCell ⟨w.heap.size + 1, 1, none⟩ (.slice none 0 0)).setCell ⟨w.heap.size + 1, 2, none⟩ (.string ⟨#[]⟩)).setCell ⟨w.heap.size + 1, 3, none⟩ (.slice none 0 0)).setCell ⟨w.heap.size + 1, 4, none⟩ (.int .u32 0)).setCell ⟨w.heap.size + 1, 5, none⟩ (.int .i64 0)) = w9 at s1 s2 hB9 ⊢
          obtain ⟨k0, k1, k2, k3, k4, k5⟩ := thing_ret (w8 := w9) s1
          refine bodyPost_ret (by simp [results, Tryz.results69, go_sem, k0, k1, k2, k3, k4, k5]; try rfl) rfl ?_
          rw [hbadH.out]
          exact ⟨hB9, rfl⟩
        · rw [hsb] at hst
          have hnext : Hid (((t.items.take (i + 1)).all fun y => standsB y.kind sec) = true) := (by show _ = _; rw [stands_take hx, hall.out, hsb]; rfl)
          clear hx hsb
          go_wp2_with (go_at_call 107; (with_reducible refine (hst.out _).mono ?_); rintro e w5 ⟨rfl, rfl⟩)
          all_goals first | omega | skip
          go_roundw
          case rel => exact ⟨i + 1, by omega, by go_num, hnext, Hid.intro (hal2.out _)⟩
          case measure => simp [intOf]; omega
      · have hin : i = ni := by omega
        have hokH : Hid (standsT t sec = .ok t) := stands_all (by rw [← hni.out]; omega) hall.out
        subst hin
        have hlt3 : ¬ ((i : Int) < (i : Int)) := by omega
        obtain ⟨t0, t1, t2, t3, t4, t5⟩ := six_read hS.out.thing
        obtain ⟨r0, r1, r2, r3, r4, r5⟩ := six_read hS.out.res
        have rf := fun j => frozen_of_row wr (w.heap.size + 1) j _ 137 hS.out.res
        go_wp2
        all_goals first | omega | skip
        obtain ⟨s1, s2⟩ := six_set hS.out.res (.int .i64 t.kind) (.slice ai i ci) (.string (str t.name)) (.slice va n vc) (.int .u32 t.e.const) (.int .i64 t.sec)
        have hbs := hS.out.bel.size
        have hB9 := (hS.out.bel).grown s2 (by omega) (fun j hj => by cases hj; omega)
        have hown9 := hS.out.own.low s2 (by omega)
        generalize ((((((wr.setCell ⟨w.heap.size + 1, 0, none⟩ (.int .i64 t.kind)).setCell ⟨w.heap.size + 1, 1, none⟩ (.slice ai i ci)).setCell ⟨w.heap.size + 1, 2, none⟩ (.string (str t.name))).setCell ⟨w.heap.size + 1, 3, none⟩ (.slice va n vc)).setCell ⟨w.heap.size + 1, 4, none⟩ (.int .u32 t.e.const)).setCell ⟨w.heap.size + 1, 5, none⟩ (.int .i64 t.sec)) = w9 at s1 s2 hB9 hown9 ⊢
        obtain ⟨k0, k1, k2, k3, k4, k5⟩ := thing_ret (w8 := w9) s1
        refine bodyPost_ret (by simp [results, Tryz.results69, go_sem, k0, k1, k2, k3, k4, k5]; try rfl) rfl ?_
        rw [hokH.out]
        exact ⟨hB9, .slice ai i ci, va, n, vc, rfl, hown9.weaken (by omega)⟩
end Go.Proofs.YtogkchgjpflmjaaGreatDoor

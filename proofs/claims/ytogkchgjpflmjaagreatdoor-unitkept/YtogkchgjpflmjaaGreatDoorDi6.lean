/- item's Read, of any line. -/
import Derived.Test.YtogkchgjpflmjaaGreatDoorDi5
import Derived.Test.YtogkchgjpflmjaaGreatDoorDi4
import Derived.Test.YtogkchgjpflmjaaGreatDoorDi5b
import Derived.Test.YtogkchgjpflmjaaGreatDoorDi5d
import Derived.Test.YtogkchgjpflmjaaGreatDoorDi5e
/- item's Read, by one more reader. -/
namespace Go.Proofs.YtogkchgjpflmjaaGreatDoor
open Go.ChangeShapes Go.WideShapes Go.ChangeAt Go.RowKit
set_option linter.unusedVariables false
set_option maxRecDepth 100000
set_option maxHeartbeats 1000000 in
theorem readLen_equation (lb s : List UInt8) (hs0 : s ≠ []) (a : Option Addr) (c : Nat) (n0 : Nat) (hal : n0 ≤ 1100000) (sec : Int) (w : World) (least most : Int) (hbad : (n0 : Int) < least ∨ most < (n0 : Int)) (RB : World → Nat → Prop)
    (hro0 : ∀ w1, Below w.heap.size w w1 → Calls Tryz.prog 105 #[.string (str s)] w1 fun e w2 => Below w1.heap.size w1 w2 ∧ ∃ b, w1.heap.size ≤ b ∧ e = .returned (.tuple #[.iface 232 (.pointer (some ⟨b, 0, none⟩)), .int .i64 least, .int .i64 most]) ∧ (b < w2.heap.size ∧ RB w2 b)) :
    Calls Tryz.prog 69 #[.agg #[.string (str lb), .string (str s), .slice a n0 c], .int .i64 sec] w fun e w' => Below w.heap.size w w' ∧ ThOwn w.heap.size w' (.error 20) e := by
  have hne : ((str s).toList == []) = false := by rw [str_toList]; exact beq_false_of_ne hs0
  have hnl : ∀ a w, (binOp .eql 192 (.iface 232 (.pointer (some a))) .nilIface).run Tryz.prog w = .ok (.bool false) w := nil_125
  have hro := Hid.intro (hro0 (rdW w lb s a n0 c) (rdW_below w lb s a n0 c))
  clear hro0
  by_cases hl : (n0 : Int) < least
  · clear hbad
    go_enter Tryz.func69, Tryz.ntmps69
    go_wp2_with (go_at_call 105; (with_reducible refine (hro.out).mono ?_); rintro e w1 ⟨hb1, b, hb, rfl, hO⟩; have hs1 := hb1.size; replace hO := Hid.intro hO; obtain ⟨l1, l2, hr1⟩ := ro_facts hb1; obtain ⟨rc0, rc1, rc2, rc3, rc4, rc5⟩ := six_read hr1; have rf := fun j => frozen_of_row w1 (w.heap.size + 1) j _ 137 hr1; replace hr1 := Hid.intro hr1)
    all_goals first | omega | skip
    obtain ⟨hw1, hw2⟩ := ro_wide hb1
    obtain ⟨s1, s2⟩ := six_set hr1.out (.int .i64 0) (.slice none 0 0) (.string ⟨#[]⟩) (.slice none 0 0) (.int .u32 0) (.int .i64 0)
    have hB9 := (hw1).grown s2 (by omega) (fun j hj => by cases hj; omega)
    generalize ((((((w1.setCell ⟨w.heap.size + 1, 0, none⟩ (.int .i64 0)).setCell ⟨w.heap.size + 1, 1, none⟩ (.slice none 0 0)).setCell ⟨w.heap.size + 1, 2, none⟩ (.string ⟨#[]⟩)).setCell ⟨w.heap.size + 1, 3, none⟩ (.slice none 0 0)).setCell ⟨w.heap.size + 1, 4, none⟩ (.int .u32 0)).setCell ⟨w.heap.size + 1, 5, none⟩ (.int .i64 0)) = w9 at s1 s2 hB9 ⊢
    obtain ⟨k0, k1, k2, k3, k4, k5⟩ := thing_ret (w8 := w9) s1
    refine bodyPost_ret (by simp [results, Tryz.results69, go_sem, k0, k1, k2, k3, k4, k5]; try rfl) rfl ?_
    exact ⟨hB9, rfl⟩
  · have hl2 : most < (n0 : Int) := by omega
    clear hbad
    go_enter Tryz.func69, Tryz.ntmps69
    go_wp2_with (go_at_call 105; (with_reducible refine (hro.out).mono ?_); rintro e w1 ⟨hb1, b, hb, rfl, hO⟩; have hs1 := hb1.size; replace hO := Hid.intro hO; obtain ⟨l1, l2, hr1⟩ := ro_facts hb1; obtain ⟨rc0, rc1, rc2, rc3, rc4, rc5⟩ := six_read hr1; have rf := fun j => frozen_of_row w1 (w.heap.size + 1) j _ 137 hr1; replace hr1 := Hid.intro hr1)
    all_goals first | omega | skip
    obtain ⟨hw1, hw2⟩ := ro_wide hb1
    obtain ⟨s1, s2⟩ := six_set hr1.out (.int .i64 0) (.slice none 0 0) (.string ⟨#[]⟩) (.slice none 0 0) (.int .u32 0) (.int .i64 0)
    have hB9 := (hw1).grown s2 (by omega) (fun j hj => by cases hj; omega)
    generalize ((((((w1.setCell ⟨w.heap.size + 1, 0, none⟩ (.int .i64 0)).setCell ⟨w.heap.size + 1, 1, none⟩ (.slice none 0 0)).setCell ⟨w.heap.size + 1, 2, none⟩ (.string ⟨#[]⟩)).setCell ⟨w.heap.size + 1, 3, none⟩ (.slice none 0 0)).setCell ⟨w.heap.size + 1, 4, none⟩ (.int .u32 0)).setCell ⟨w.heap.size + 1, 5, none⟩ (.int .i64 0)) = w9 at s1 s2 hB9 ⊢
    obtain ⟨k0, k1, k2, k3, k4, k5⟩ := thing_ret (w8 := w9) s1
    refine bodyPost_ret (by simp [results, Tryz.results69, go_sem, k0, k1, k2, k3, k4, k5]; try rfl) rfl ?_
    exact ⟨hB9, rfl⟩
set_option maxHeartbeats 2000000 in
theorem readG_equation (lb s : List UInt8) (hs0 : s ≠ []) (a : Option Addr) (c : Nat) (n0 : Nat) (hal : n0 ≤ 1100000) (sec : Int) (w : World) (least most : Int) (hlo : ¬ (n0 : Int) < least) (hhi : ¬ most < (n0 : Int)) (RB : World → Nat → Prop) (RD : Thg → World → Nat → Prop) (R : Except Int Thg)
    (hro0 : ∀ w1, Below w.heap.size w w1 → Calls Tryz.prog 105 #[.string (str s)] w1 fun e w2 => Below w1.heap.size w1 w2 ∧ ∃ b, w1.heap.size ≤ b ∧ e = .returned (.tuple #[.iface 232 (.pointer (some ⟨b, 0, none⟩)), .int .i64 least, .int .i64 most]) ∧ (b < w2.heap.size ∧ RB w2 b))
    (hrd0 : ∀ w1 b, Below w.heap.size w w1 → w.heap.size + 2 ≤ b → b < w1.heap.size → RB w1 b → Calls Tryz.prog 264 #[.pointer (some ⟨b, 0, none⟩), .slice a n0 c] w1 fun e w2 => Below b w1 w2 ∧ RdOut R RD e w2 b)
    (hsd0 : ∀ t w1 b, w.heap.size + 2 ≤ b → b < w1.heap.size → RD t w1 b → Calls Tryz.prog 106 #[.iface 232 (.pointer (some ⟨b, 0, none⟩))] w1 fun e w2 => Below w1.heap.size w1 w2 ∧ ∃ ai ni ci va n vc, e = .returned (thgV t.kind (.slice ai ni ci) t.name (.slice va n vc) t.e.const t.sec) ∧ ItemsLie w2 (.slice ai ni ci) t.items ∧ n = t.e.terms.length ∧ TmLies w2 va t.e.terms ∧ ThO (w.heap.size + 2) w2 (.slice ai ni ci) t.items (.slice va n vc) t.e.terms)
    (hk : ∀ k, R = .error k → k ≠ 0) (hmany : ∀ t, R = .ok t → t.items.length ≤ 1100000) :
    Calls Tryz.prog 69 #[.agg #[.string (str lb), .string (str s), .slice a n0 c], .int .i64 sec] w fun e w' => Below w.heap.size w w' ∧ ThOwn w.heap.size w' (andStands R sec) e := by
  have hne : ((str s).toList == []) = false := by rw [str_toList]; exact beq_false_of_ne hs0
  have hnl : ∀ a w, (binOp .eql 192 (.iface 232 (.pointer (some a))) .nilIface).run Tryz.prog w = .ok (.bool false) w := nil_125
  have hro := Hid.intro (hro0 (rdW w lb s a n0 c) (rdW_below w lb s a n0 c))
  clear hro0
  cases R with
  | error k =>
    have hk0 : (k == 0) = false := by have := hk k rfl; simpa using this
    have hrd : Hid (∀ w1, Below (rdW w lb s a n0 c).heap.size (rdW w lb s a n0 c) w1 → ∀ b, (rdW w lb s a n0 c).heap.size ≤ b → (b < w1.heap.size ∧ RB w1 b) → Calls Tryz.prog 264 #[.pointer (some ⟨b, 0, none⟩), .slice a n0 c] w1 fun e w2 => e = .returned (.int .i64 k) ∧ Below b w1 w2 ∧ True) := fun w1 h1 b hb hO => by
      obtain ⟨hw1, hw2⟩ := ro_wide h1
      refine (hrd0 w1 b hw1 (by rw [rdW_size] at hb; exact hb) hO.1 hO.2).mono ?_
      rintro e w2 ⟨h1, h2⟩
      exact ⟨h2, h1, trivial⟩
    clear hrd0 hsd0 hk hmany
    rw [show andStands (.error k) sec = .error k from rfl]
    go_enter Tryz.func69, Tryz.ntmps69
    go_wp2_with (first | (go_at_call 105; (with_reducible refine (hro.out).mono ?_); rintro e w1 ⟨hb1, b, hb, rfl, hO⟩; have hs1 := hb1.size; replace hO := Hid.intro hO; obtain ⟨l1, l2, hr1⟩ := ro_facts hb1; obtain ⟨rc0, rc1, rc2, rc3, rc4, rc5⟩ := six_read hr1; have rf := fun j => frozen_of_row w1 (w.heap.size + 1) j _ 137 hr1; replace hr1 := Hid.intro hr1) | (go_at_call 264; (with_reducible refine (hrd.out w1 hb1 b hb hO.out).mono ?_); rintro e w2 ⟨rfl, hb2, hO2⟩; have hs2 := hb2.size; have hr2 : w2.heap[w.heap.size + 1]? = some (.cells zero6 137 (0, 0)) := (by rw [hb2.block _ (by rw [rdW_size] at hb; omega)]; exact hr1.out); obtain ⟨rd0, rd1, rd2, rd3, rd4, rd5⟩ := six_read hr2; have rg := fun j => frozen_of_row w2 (w.heap.size + 1) j _ 137 hr2; replace hr2 := Hid.intro hr2; replace hO2 := Hid.intro hO2))
    all_goals first | omega | skip
    obtain ⟨hw1, hw2⟩ := ro_wide hb1
    have hw3 : Below w.heap.size w w2 := hw1.trans (hb2.mono (by rw [rdW_size] at hb; omega))
    obtain ⟨s1, s2⟩ := six_set hr2.out (.int .i64 0) (.slice none 0 0) (.string ⟨#[]⟩) (.slice none 0 0) (.int .u32 0) (.int .i64 0)
    have hB9 := (hw3).grown s2 (by omega) (fun j hj => by cases hj; omega)
    generalize ((((((w2.setCell ⟨w.heap.size + 1, 0, none⟩ (.int .i64 0)).setCell ⟨w.heap.size + 1, 1, none⟩ (.slice none 0 0)).setCell ⟨w.heap.size + 1, 2, none⟩ (.string ⟨#[]⟩)).setCell ⟨w.heap.size + 1, 3, none⟩ (.slice none 0 0)).setCell ⟨w.heap.size + 1, 4, none⟩ (.int .u32 0)).setCell ⟨w.heap.size + 1, 5, none⟩ (.int .i64 0)) = w9 at s1 s2 hB9 ⊢
    obtain ⟨k0, k1, k2, k3, k4, k5⟩ := thing_ret (w8 := w9) s1
    refine bodyPost_ret (by simp [results, Tryz.results69, go_sem, k0, k1, k2, k3, k4, k5]; try rfl) rfl ?_
    exact ⟨hB9, rfl⟩
  | ok t =>
    have hrd : Hid (∀ w1, Below (rdW w lb s a n0 c).heap.size (rdW w lb s a n0 c) w1 → ∀ b, (rdW w lb s a n0 c).heap.size ≤ b → (b < w1.heap.size ∧ RB w1 b) → Calls Tryz.prog 264 #[.pointer (some ⟨b, 0, none⟩), .slice a n0 c] w1 fun e w2 => e = .returned (.int .i64 0) ∧ Below b w1 w2 ∧ RD t w2 b) := fun w1 h1 b hb hO => by
      obtain ⟨hw1, hw2⟩ := ro_wide h1
      refine (hrd0 w1 b hw1 (by rw [rdW_size] at hb; exact hb) hO.1 hO.2).mono ?_
      rintro e w2 ⟨h1, h2⟩
      exact ⟨h2.1, h1, h2.2⟩
    have hsd := Hid.intro hsd0
    have hmanyH := Hid.intro (hmany t rfl)
    clear hrd0 hsd0 hk hmany
    rw [show andStands (.ok t) sec = standsT t sec from rfl]
    go_enter Tryz.func69, Tryz.ntmps69
    go_upto_region 10 with (first | (go_at_call 105; (with_reducible refine (hro.out).mono ?_); rintro e w1 ⟨hb1, b, hb, rfl, hO⟩; have hs1 := hb1.size; replace hO := Hid.intro hO; obtain ⟨l1, l2, hr1⟩ := ro_facts hb1; obtain ⟨rc0, rc1, rc2, rc3, rc4, rc5⟩ := six_read hr1; have rf := fun j => frozen_of_row w1 (w.heap.size + 1) j _ 137 hr1; replace hr1 := Hid.intro hr1) | (go_at_call 264; (with_reducible refine (hrd.out w1 hb1 b hb hO.out).mono ?_); rintro e w2 ⟨rfl, hb2, hO2⟩; have hs2 := hb2.size; have hr2 : w2.heap[w.heap.size + 1]? = some (.cells zero6 137 (0, 0)) := (by rw [hb2.block _ (by rw [rdW_size] at hb; omega)]; exact hr1.out); obtain ⟨rd0, rd1, rd2, rd3, rd4, rd5⟩ := six_read hr2; have rg := fun j => frozen_of_row w2 (w.heap.size + 1) j _ 137 hr2; replace hr2 := Hid.intro hr2; replace hO2 := Hid.intro hO2) | (go_at_call 106; (with_reducible refine (hsd.out t w2 b (by rw [rdW_size] at hb; exact hb) (Nat.lt_of_lt_of_le hO.out.1 hb2.size) hO2.out).mono ?_); rintro e w3 ⟨hb3, ai, ni, ci, va, n, vc, rfl, hit, hn, htm, hown⟩; replace hown := Hid.intro hown; replace hit := Hid.intro hit; replace htm := Hid.intro htm; replace hn := Hid.intro hn))
    all_goals first | omega | skip
    obtain ⟨hw1, hw2⟩ := ro_wide hb1
    have hbb : w.heap.size + 2 ≤ b := by rw [rdW_size] at hb; exact hb
    have hOlt := hO.out.1
    have hs3 := hb3.size
    have hB3 : Below w.heap.size w w3 := (hw1.trans (hb2.mono (by omega))).trans (hb3.mono (by omega))
    have hS : RStG w t ai ni ci va n vc w3.heap.size (w3.alloc (.cells #[.int .i64 t.kind, .slice ai ni ci, .string (str t.name), .slice va n vc, .int .u32 t.e.const, .int .i64 t.sec] 137)) :=
      ⟨hB3.alloc hB3.size _, by rw [Below.heap_alloc _ _ _ (by omega), hb3.block _ (by omega)]; exact hr2.out, heap_alloc_new w3 _, hit.out.below (below_alloc w3 _), htm.out.below (below_alloc w3 _) (Nat.le_refl _), hown.out.below (below_alloc w3 _)⟩
    generalize hp : w3.heap.size = p at hS ⊢
    generalize (w3.alloc (.cells #[.int .i64 t.kind, .slice ai ni ci, .string (str t.name), .slice va n vc, .int .u32 t.e.const, .int .i64 t.sec] 137)) = w4 at hS ⊢
    have hni := Hid.intro (lie_len hit.out)
    have hnim : ni ≤ 1100000 := by rw [hni.out]; exact hmanyH.out
    clear rd0 rd1 rd2 rd3 rd4 rd5 rg rc0 rc1 rc2 rc3 rc4 rc5 rf l1 l2 hr1 hr2 hb3 hb2 hb1 hO hO2 hro hrd hsd hp hB3 hit htm hown
    replace hS := Hid.intro hS
    have t1 := (cell_blockT hS.out.thing 1).trans rfl
    go_wp2
    all_goals first | omega | skip
    clear t1
    go_loopw [54] (fun v54 wr => ∃ i : Nat, i ≤ ni ∧ v54 = .int .i64 (i : Int) ∧ Hid (((t.items.take i).all fun y => standsB y.kind sec) = true) ∧ Hid (RStG w t ai ni ci va n vc p wr)) (fun v54 wr => ni - (intOf v54).toNat)
    case atStart => exact ⟨0, by omega, rfl, (by show _ = _; simp), hS⟩
    case round =>
      clear hS
      obtain ⟨i, hi, rfl, hall, hS⟩ := hrel
      by_cases hlt : i < ni
      · obtain ⟨x, hx⟩ : ∃ x, t.items[i]? = some x := ⟨t.items[i]'(by rw [← hni.out]; exact hlt), List.getElem?_eq_getElem _⟩
        obtain ⟨q, rfl, hq, xa, xn, xc, hI⟩ := lie_at hS.out.items hx
        obtain ⟨c0, c1, c2, c3, c4, c5, c6, c7, c8, c9⟩ := hI
        have hlt2 : (i : Int) < (ni : Int) := by omega
        have hst := Hid.intro (fun w1 => stands_any x.kind sec w1)
        have hal2 := Hid.intro (fun o => hS.out.below (below_alloc wr o))
        have r0 := fun o => (cell_blockT (hal2.out o).res 0).trans rfl
        have r1 := fun o => (cell_blockT (hal2.out o).res 1).trans rfl
        have r2 := fun o => (cell_blockT (hal2.out o).res 2).trans rfl
        have r3 := fun o => (cell_blockT (hal2.out o).res 3).trans rfl
        have r4 := fun o => (cell_blockT (hal2.out o).res 4).trans rfl
        have r5 := fun o => (cell_blockT (hal2.out o).res 5).trans rfl
        have rf := fun o j => frozen_of_row (wr.alloc o) (w.heap.size + 1) j _ 137 (hal2.out o).res
        cases hsb : standsB x.kind sec
        · rw [hsb] at hst
          have hbadH := Hid.intro (stands_bad hx hsb)
          clear hx hsb
          go_wp2_with (go_at_call 107; (with_reducible refine (hst.out _).mono ?_); rintro e w5 ⟨rfl, rfl⟩)
          all_goals first | omega | skip
          have hal3 := hal2.out (.cells (itmCells x (.slice xa xn xc)) 91)
          have hbs := hal3.bel.size
          obtain ⟨s1, s2⟩ := six_set hal3.res (.int .i64 0) (.slice none 0 0) (.string ⟨#[]⟩) (.slice none 0 0) (.int .u32 0) (.int .i64 0)
          have hB9 := (hal3.bel).grown s2 (by omega) (fun j hj => by cases hj; omega)
          generalize (((((((wr.alloc (.cells (itmCells x (.slice xa xn xc)) 91)).setCell ⟨w.heap.size + 1, 0, none⟩ (.int .i64 0)).setCell ⟨w.heap.size + 1, 1, none⟩ (.slice none 0 0)).setCell ⟨w.heap.size + 1, 2, none⟩ (.string ⟨#[]⟩)).setCell ⟨w.heap.size + 1, 3, none⟩ (.slice none 0 0)).setCell ⟨w.heap.size + 1, 4, none⟩ (.int .u32 0)).setCell ⟨w.heap.size + 1, 5, none⟩ (.int .i64 0)) = w9 at s1 s2 hB9 ⊢
          obtain ⟨k0, k1, k2, k3, k4, k5⟩ := thing_ret (w8 := w9) s1
          refine bodyPost_ret (by simp [results, Tryz.results69, go_sem, k0, k1, k2, k3, k4, k5]; try rfl) rfl ?_
          rw [hbadH.out]
          exact ⟨hB9, rfl⟩
        · rw [hsb] at hst
          have hnext : Hid (((t.items.take (i + 1)).all fun y => standsB y.kind sec) = true) := (by show _ = _; rw [stands_take hx, hall.out, hsb]; rfl)
          clear hx hsb
          go_wp2_with (go_at_call 107; (with_reducible refine (hst.out _).mono ?_); rintro e w5 ⟨rfl, rfl⟩)
          all_goals first | omega | skip
          go_roundw
          case rel => exact ⟨i + 1, by omega, by go_num, hnext, Hid.intro (hal2.out _)⟩
          case measure => simp [intOf]; omega
      · have hin : i = ni := by omega
        have hokH : Hid (standsT t sec = .ok t) := stands_all (by rw [← hni.out]; omega) hall.out
        subst hin
        have hlt3 : ¬ ((i : Int) < (i : Int)) := by omega
        obtain ⟨t0, t1, t2, t3, t4, t5⟩ := six_read hS.out.thing
        obtain ⟨r0, r1, r2, r3, r4, r5⟩ := six_read hS.out.res
        have rf := fun j => frozen_of_row wr (w.heap.size + 1) j _ 137 hS.out.res
        go_wp2
        all_goals first | omega | skip
        obtain ⟨s1, s2⟩ := six_set hS.out.res (.int .i64 t.kind) (.slice ai i ci) (.string (str t.name)) (.slice va n vc) (.int .u32 t.e.const) (.int .i64 t.sec)
        have hbs := hS.out.bel.size
        have hB9 := (hS.out.bel).grown s2 (by omega) (fun j hj => by cases hj; omega)
        have hown9 := hS.out.own.low s2 (by omega)
        generalize ((((((wr.setCell ⟨w.heap.size + 1, 0, none⟩ (.int .i64 t.kind)).setCell ⟨w.heap.size + 1, 1, none⟩ (.slice ai i ci)).setCell ⟨w.heap.size + 1, 2, none⟩ (.string (str t.name))).setCell ⟨w.heap.size + 1, 3, none⟩ (.slice va n vc)).setCell ⟨w.heap.size + 1, 4, none⟩ (.int .u32 t.e.const)).setCell ⟨w.heap.size + 1, 5, none⟩ (.int .i64 t.sec)) = w9 at s1 s2 hB9 hown9 ⊢
        obtain ⟨k0, k1, k2, k3, k4, k5⟩ := thing_ret (w8 := w9) s1
        refine bodyPost_ret (by simp [results, Tryz.results69, go_sem, k0, k1, k2, k3, k4, k5]; try rfl) rfl ?_
        rw [hokH.out]
        exact ⟨hB9, .slice ai i ci, va, n, vc, rfl, hown9.weaken (by omega)⟩
end Go.Proofs.YtogkchgjpflmjaaGreatDoor
namespace Go.Proofs.YtogkchgjpflmjaaGreatDoor
open Go.ChangeShapes Go.WideShapes Go.ChangeAt Go.RowKit
set_option linter.unusedVariables false
set_option maxRecDepth 100000
theorem read_nil (lb : List UInt8) (a : Option Addr) (n0 c : Nat) (sec : Int) (w : World) :
    Calls Tryz.prog 69 #[.agg #[.string (str lb), .string (str []), .slice a n0 c], .int .i64 sec] w fun e w' => Below w.heap.size w w' ∧ ThOwn w.heap.size w' (.ok thgE) e := by
  have hne : ((str []).toList == []) = true := by rw [str_toList]; rfl
  generalize str [] = S at hne ⊢
  go_enter Tryz.func69, Tryz.ntmps69
  go_wp2
  all_goals first | omega | skip
  have hB : Below w.heap.size w ((w.alloc (.cells #[.string (str lb), .string S, .slice a n0 c] 133)).alloc (.cells #[.int .i64 0, .slice none 0 0, .string ⟨#[]⟩, .slice none 0 0, .int .u32 0, .int .i64 0] 137)) := (below_alloc w _).alloc (by simp) _
  have hs1 : (w.alloc (.cells #[.string (str lb), .string S, .slice a n0 c] 133)).heap.size = w.heap.size + 1 := by simp
  have hq := heap_alloc_new (w.alloc (.cells #[.string (str lb), .string S, .slice a n0 c] 133)) (.cells #[.int .i64 0, .slice none 0 0, .string ⟨#[]⟩, .slice none 0 0, .int .u32 0, .int .i64 0] 137)
  rw [hs1] at hq
  generalize ((w.alloc (.cells #[.string (str lb), .string S, .slice a n0 c] 133)).alloc (.cells #[.int .i64 0, .slice none 0 0, .string ⟨#[]⟩, .slice none 0 0, .int .u32 0, .int .i64 0] 137)) = w9 at hB hq ⊢
  obtain ⟨k0, k1, k2, k3, k4, k5⟩ := thing_ret (w8 := w9) hq
  refine bodyPost_ret (by simp [results, Tryz.results69, go_sem, k0, k1, k2, k3, k4, k5]; try rfl) rfl ?_
  exact ⟨hB, .slice none 0 0, none, 0, 0, rfl, ThO.none _ _⟩
theorem read_none (lb s : List UInt8) (hs0 : s ≠ []) (hd : s ∉ dirs) (hf : findN s = 0) (a : Option Addr) (n0 c : Nat) (sec : Int) (w : World) (hT : Tab w) :
    Calls Tryz.prog 69 #[.agg #[.string (str lb), .string (str s), .slice a n0 c], .int .i64 sec] w fun e w' => Below w.heap.size w w' ∧ ThOwn w.heap.size w' (.error 20) e := by
  have hne : ((str s).toList == []) = false := by rw [str_toList]; exact beq_false_of_ne hs0
  have hnl : ∀ w, (binOp .eql 192 .nilIface .nilIface).run Tryz.prog w = .ok (.bool true) w := nil_none
  have hro := Hid.intro (readerOf_none s hd hf ((w.alloc (.cells #[.string (str lb), .string (str s), .slice a n0 c] 133)).alloc (.cells #[.int .i64 0, .slice none 0 0, .string ⟨#[]⟩, .slice none 0 0, .int .u32 0, .int .i64 0] 137)) ((hT.alloc _).alloc _))
  clear hT hf hd hs0
  generalize str s = S at hne hro ⊢
  go_enter Tryz.func69, Tryz.ntmps69
  go_wp2_with (go_at_call 105; (with_reducible refine (hro.out).mono ?_); rintro e w1 ⟨hw1, rfl⟩; subst hw1)
  all_goals first | omega | skip
  have hB : Below w.heap.size w ((w.alloc (.cells #[.string (str lb), .string S, .slice a n0 c] 133)).alloc (.cells #[.int .i64 0, .slice none 0 0, .string ⟨#[]⟩, .slice none 0 0, .int .u32 0, .int .i64 0] 137)) := (below_alloc w _).alloc (by simp) _
  have hs1 : (w.alloc (.cells #[.string (str lb), .string S, .slice a n0 c] 133)).heap.size = w.heap.size + 1 := by simp
  have hq := heap_alloc_new (w.alloc (.cells #[.string (str lb), .string S, .slice a n0 c] 133)) (.cells #[.int .i64 0, .slice none 0 0, .string ⟨#[]⟩, .slice none 0 0, .int .u32 0, .int .i64 0] 137)
  rw [hs1] at hq
  generalize ((w.alloc (.cells #[.string (str lb), .string S, .slice a n0 c] 133)).alloc (.cells #[.int .i64 0, .slice none 0 0, .string ⟨#[]⟩, .slice none 0 0, .int .u32 0, .int .i64 0] 137)) = w9 at hB hq ⊢
  obtain ⟨k0, k1, k2, k3, k4, k5⟩ := thing_ret (w8 := w9) hq
  refine bodyPost_ret (by simp [results, Tryz.results69, go_sem, k0, k1, k2, k3, k4, k5]; try rfl) rfl ?_
  exact ⟨hB, rfl⟩
theorem args_low {w w1 : World} {a : Option Addr} {args : List (List Tok)} {b : Nat} (hA : ArgsIn w.heap.size w a args) (h1 : Below w.heap.size w w1) (hb : w.heap.size + 2 ≤ b) (hlt : b < w1.heap.size) : ArgsIn b w1 a args :=
  (hA.below h1).mono (by omega) (by omega)
def singR (R : Except Int Itm) : Except Int Thg := match R with | .error k => .error k | .ok x => .ok ⟨1, [x], [], linE, 0⟩
def sevR (R : Except Int (List Itm)) : Except Int Thg := match R with | .error k => .error k | .ok l => .ok ⟨2, l, [], linE, 0⟩
theorem singF_err {kind : Int} {args : List (List Tok)} {k : Int} (h : singF kind args = .error k) : k = 20 ∨ k = 21 := by
  cases args with
  | nil => cases h
  | cons x r => exact itOf_err h
theorem itsF_err {kind : Int} : ∀ {args : List (List Tok)} {k : Int}, itsF kind args = .error k → k = 20 ∨ k = 21 := by
  intro args
  induction args with
  | nil => intro k h; cases h
  | cons x r ih =>
    intro k h
    rw [itsF] at h
    split at h
    · rename_i hx; cases h; exact itOf_err hx
    · split at h
      · rename_i hx; cases h; exact ih hx
      · cases h
theorem read_sing (kind : Int) (hk : kind ≠ 6) (m : Nat) (hm : m ≤ 1) (lb s : List UInt8) (hs0 : s ≠ []) (hro : ∀ w1 : World, Calls Tryz.prog 105 #[.string (str s)] w1 fun e w' => Below w1.heap.size w1 w' ∧ ∃ b, w1.heap.size ≤ b ∧ e = .returned (.tuple #[.iface 226 (.pointer (some ⟨b, 0, none⟩)), .int .i64 m, .int .i64 m]) ∧ w'.heap[b]? = some (.cells (itmCells { itmE with kind := kind } (.slice none 0 0)) 228 (0, 0)))
    (a : Option Addr) (c : Nat) (args : List (List Tok)) (hal : args.length ≤ 1100000) (sec : Int) (w : World) (hA : ArgsIn w.heap.size w a args) :
    Calls Tryz.prog 69 #[.agg #[.string (str lb), .string (str s), .slice a args.length c], .int .i64 sec] w fun e w' => Below w.heap.size w w' ∧ ThOwn w.heap.size w' (singThg kind m args sec) e := by
  have hro0 : ∀ w1, Below w.heap.size w w1 → Calls Tryz.prog 105 #[.string (str s)] w1 fun e w2 => Below w1.heap.size w1 w2 ∧ ∃ b, w1.heap.size ≤ b ∧ e = .returned (.tuple #[.iface 226 (.pointer (some ⟨b, 0, none⟩)), .int .i64 m, .int .i64 m]) ∧ (b < w2.heap.size ∧ w2.heap[b]? = some (.cells (itmCells { itmE with kind := kind } (.slice none 0 0)) 228 (0, 0))) := fun w1 _ => (hro w1).mono fun e w2 ⟨h1, b, h2, h3, h4⟩ => ⟨h1, b, h2, h3, blk_lt h4, h4⟩
  by_cases hl : args.length = m
  · have hF : singThg kind m args sec = andStands (singR (singF kind args)) sec := by
      unfold singThg
      rw [if_neg (by omega)]
      cases singF kind args <;> rfl
    rw [hF]
    refine readG_single lb s hs0 a c args.length hal sec w m m (by omega) (by omega) _ (fun t w1 b => ∃ x, t = ⟨1, [x], [], linE, 0⟩ ∧ x.e = linE ∧ w1.heap[b]? = some (.cells (itmCells x (.slice none 0 0)) 228 (0, 0))) _ hro0 ?_ ?_ ?_ ?_
    · intro w1 b h1 h2 h3 h4
      refine (singRead_any b kind hk a c args (by omega) w1 (args_low hA h1 h2 h3) h4).mono ?_
      rintro e w2 ⟨g1, g2⟩
      refine ⟨g1, ?_⟩
      cases hs : singF kind args with
      | error k => rw [hs] at g2; exact g2
      | ok x => rw [hs] at g2; exact ⟨g2.1, x, rfl, g2.2.1, g2.2.2⟩
    · rintro t w1 b hbg hbl ⟨x, rfl, hx, hh⟩
      refine (said_single b x none 0 0 w1 hh).mono ?_
      rintro e w2 ⟨g1, q, hq, rfl, hqh⟩
      have hO := ThO.one (lo := w.heap.size + 2) hqh (by omega) (by rw [hx]; exact World.ownsRow_nil _ _ _ _)
      refine ⟨g1, _, _, _, _, _, _, rfl, .inr ⟨q, 1, rfl, blk_lt hqh, fun i y hi => ?_⟩, rfl, TmLies.nil _ _, hO⟩
      match i, hi with
      | 0, hi => cases hi; exact ⟨none, 0, 0, itAt_row hqh, by rw [hx]; rfl, by rw [hx]; exact TmLies.nil _ _⟩
      | i + 1, hi => simp at hi
    · intro k hk2
      cases hs : singF kind args with
      | error k' => rw [hs] at hk2; cases hk2; rcases singF_err hs with h | h <;> omega
      | ok x => rw [hs] at hk2; cases hk2
    · intro t ht
      cases hs : singF kind args with
      | error k' => rw [hs] at ht; cases ht
      | ok x => rw [hs] at ht; cases ht; simp
  · have hF : singThg kind m args sec = .error 20 := by unfold singThg; rw [if_pos hl]
    rw [hF]
    exact readLen_single lb s hs0 a c args.length hal sec w m m (by omega) _ hro0
theorem read_sev (kind : Int) (hk : kind = 5 ∨ kind = 6) (lb s : List UInt8) (hs0 : s ≠ []) (hro : ∀ w1 : World, Calls Tryz.prog 105 #[.string (str s)] w1 fun e w' => Below w1.heap.size w1 w' ∧ ∃ b, w1.heap.size ≤ b ∧ e = .returned (.tuple #[.iface 229 (.pointer (some ⟨b, 0, none⟩)), .int .i64 1, .int .i64 9223372036854775807]) ∧ w'.heap[b]? = some (.cells #[.int .i64 kind, .slice none 0 0] 231 (0, 0)))
    (a : Option Addr) (c : Nat) (args : List (List Tok)) (hal : args.length ≤ 1100000) (hfew : FewA args) (sec : Int) (w : World) (hA : ArgsIn w.heap.size w a args) :
    Calls Tryz.prog 69 #[.agg #[.string (str lb), .string (str s), .slice a args.length c], .int .i64 sec] w fun e w' => Below w.heap.size w w' ∧ ThOwn w.heap.size w' (sevThg kind args sec) e := by
  have hro0 : ∀ w1, Below w.heap.size w w1 → Calls Tryz.prog 105 #[.string (str s)] w1 fun e w2 => Below w1.heap.size w1 w2 ∧ ∃ b, w1.heap.size ≤ b ∧ e = .returned (.tuple #[.iface 229 (.pointer (some ⟨b, 0, none⟩)), .int .i64 1, .int .i64 9223372036854775807]) ∧ (b < w2.heap.size ∧ w2.heap[b]? = some (.cells #[.int .i64 kind, .slice none 0 0] 231 (0, 0))) := fun w1 _ => (hro w1).mono fun e w2 ⟨h1, b, h2, h3, h4⟩ => ⟨h1, b, h2, h3, blk_lt h4, h4⟩
  by_cases hl : args.length = 0
  · have hF : sevThg kind args sec = .error 20 := by unfold sevThg; rw [if_pos hl]
    rw [hF]
    exact readLen_several lb s hs0 a c args.length hal sec w 1 9223372036854775807 (by omega) _ hro0
  · have hF : sevThg kind args sec = andStands (sevR (itsF kind args)) sec := by
      unfold sevThg
      rw [if_neg hl]
      cases itsF kind args <;> rfl
    rw [hF]
    refine readG_several lb s hs0 a c args.length hal sec w 1 9223372036854775807 (by omega) (by omega) _ (fun t w1 b => ∃ p a1 L c1, t = ⟨2, p.map (·.1), [], linE, 0⟩ ∧ w1.heap[b]? = some (.cells #[.int .i64 kind, .slice a1 L c1] 231 (0, 0)) ∧ ItOwn (b + 1) w1 (.slice a1 L c1) p) _ hro0 ?_ ?_ ?_ ?_
    · intro w1 b h1 h2 h3 h4
      have key : Calls Tryz.prog 263 #[.pointer (some ⟨b, 0, none⟩), .slice a args.length c] w1 fun e w' => Below b w1 w' ∧ SvOut b kind (itsF kind args) e w' := by
        rcases hk with rfl | rfl
        · exact sevRead_5 b a c args hal w1 (args_low hA h1 h2 h3) h4
        · exact sevRead_6 b a c args hal w1 (args_low hA h1 h2 h3) h4
      refine key.mono ?_
      rintro e w2 ⟨g1, g2⟩
      refine ⟨g1, ?_⟩
      cases hs : itsF kind args with
      | error k => rw [hs] at g2; exact g2
      | ok l =>
        rw [hs] at g2
        obtain ⟨g3, p, a1, L, c1, g4, g5, g6⟩ := g2
        exact ⟨g3, p, a1, L, c1, by rw [g4], g5, g6⟩
    · rintro t w1 b hbg hbl ⟨p, a1, L, c1, rfl, hh, ho⟩
      refine (said_several b kind a1 L c1 w1 hh).mono ?_
      rintro e w2 ⟨g1, rfl⟩
      exact ⟨g1, a1, L, c1, none, 0, 0, rfl, ho.lies.below g1, rfl, TmLies.nil _ _, ⟨p, rfl, (ho.below g1).weaken (by omega), World.ownsRow_nil _ _ _ _⟩⟩
    · intro k hk2
      cases hs : itsF kind args with
      | error k' => rw [hs] at hk2; cases hk2; rcases itsF_err hs with h | h <;> omega
      | ok x => rw [hs] at hk2; cases hk2
    · intro t ht
      cases hs : itsF kind args with
      | error k' => rw [hs] at ht; cases ht
      | ok l =>
        rw [hs] at ht
        cases ht
        have := (itsF_kind hs).1
        show l.length ≤ _
        omega
theorem read_equ (lb : List UInt8) (a : Option Addr) (c : Nat) (args : List (List Tok)) (hal : args.length ≤ 1100000) (sec : Int) (w : World) (hA : ArgsIn w.heap.size w a args) :
    Calls Tryz.prog 69 #[.agg #[.string (str lb), .string (str sEqu), .slice a args.length c], .int .i64 sec] w fun e w' => Below w.heap.size w w' ∧ ThOwn w.heap.size w' (equThg args) e := by
  have hro0 : ∀ w1, Below w.heap.size w w1 → Calls Tryz.prog 105 #[.string (str sEqu)] w1 fun e w2 => Below w1.heap.size w1 w2 ∧ ∃ b, w1.heap.size ≤ b ∧ e = .returned (.tuple #[.iface 232 (.pointer (some ⟨b, 0, none⟩)), .int .i64 2, .int .i64 2]) ∧ (b < w2.heap.size ∧ w2.heap[b]? = some (.cells #[.string (str []), .slice none 0 0, .int .u32 0] 234 (0, 0))) := fun w1 _ => (readerOf_equ w1).mono fun e w2 ⟨h1, b, h2, h3, h4⟩ => ⟨h1, b, h2, h3, blk_lt h4, h4⟩
  by_cases hl : args.length = 2
  · obtain ⟨x0, x1, rfl⟩ : ∃ x0 x1, args = [x0, x1] := by match args, hl with | [x, y], _ => exact ⟨x, y, rfl⟩
    have hF : equThg [x0, x1] = andStands (equF x0 x1) sec := by
      show equF x0 x1 = _
      unfold equF
      cases nameF x0 with
      | error k => rfl
      | ok s => cases parseF x1 <;> rfl
    rw [hF]
    refine readG_equation lb sEqu (by decide) a c 2 (by omega) sec w 2 2 (by omega) (by omega) _ (fun t w1 b => ∃ s y, t = ⟨3, [], s, y, 0⟩ ∧ ∃ va n vc, w1.heap[b]? = some (.cells #[.string (str s), .slice va n vc, .int .u32 y.const] 234 (0, 0)) ∧ w1.ownsRow (b + 1) 123 2 (.slice va n vc) y.terms.length (rowT y.terms)) _ hro0 ?_ ?_ ?_ ?_
    · intro w1 b h1 h2 h3 h4
      refine (equRead_any b a c x0 x1 w1 (args_low hA h1 h2 h3) h4).mono ?_
      rintro e w2 ⟨g1, g2⟩
      refine ⟨g1, ?_⟩
      cases hs : equF x0 x1 with
      | error k => rw [hs] at g2; exact g2
      | ok t => rw [hs] at g2; exact g2
    · rintro t w1 b hbg hbl ⟨s, y, rfl, va, n, vc, hh, ho⟩
      refine (said_equation b s va n vc y.const w1 hh).mono ?_
      rintro e w2 ⟨g1, rfl⟩
      have hnl := own_len ho
      subst hnl
      exact ⟨g1, none, 0, 0, va, _, vc, rfl, .inl ⟨rfl, rfl⟩, rfl, (own_tmLies ho).below g1 (Nat.le_refl _), ⟨[], rfl, ItOwn.start _ _, own_weaken (own_keptB ho g1) (by omega)⟩⟩
    · intro k hk2
      unfold equF at hk2
      split at hk2
      · rename_i h; cases hk2; rw [nameF_err h]; decide
      · split at hk2
        · rename_i h; cases hk2; rcases parseF_err h with h | h <;> omega
        · cases hk2
    · intro t ht
      unfold equF at ht
      split at ht
      · cases ht
      · split at ht
        · cases ht
        · cases ht; simp
  · have hF : equThg args = .error 20 := by
      match args, hl with
      | [], _ => rfl
      | [x], _ => rfl
      | [x, y], hl => exact absurd rfl hl
      | x :: y :: z :: r, _ => rfl
    rw [hF]
    exact readLen_equation lb sEqu (by decide) a c args.length hal sec w 2 2 (by omega) _ hro0
theorem read_glo (lb : List UInt8) (a : Option Addr) (c : Nat) (args : List (List Tok)) (hal : args.length ≤ 1100000) (sec : Int) (w : World) (hA : ArgsIn w.heap.size w a args) :
    Calls Tryz.prog 69 #[.agg #[.string (str lb), .string (str sGlobal), .slice a args.length c], .int .i64 sec] w fun e w' => Below w.heap.size w w' ∧ ThOwn w.heap.size w' (gloThg args) e := by
  have hro0 : ∀ w1, Below w.heap.size w w1 → Calls Tryz.prog 105 #[.string (str sGlobal)] w1 fun e w2 => Below w1.heap.size w1 w2 ∧ ∃ b, w1.heap.size ≤ b ∧ e = .returned (.tuple #[.iface 235 (.pointer (some ⟨b, 0, none⟩)), .int .i64 1, .int .i64 1]) ∧ (b < w2.heap.size ∧ w2.heap[b]? = some (.cells #[.string (str [])] 237 (0, 0))) := fun w1 _ => (readerOf_global w1).mono fun e w2 ⟨h1, b, h2, h3, h4⟩ => ⟨h1, b, h2, h3, blk_lt h4, h4⟩
  by_cases hl : args.length = 1
  · obtain ⟨x0, rfl⟩ : ∃ x0, args = [x0] := by match args, hl with | [x], _ => exact ⟨x, rfl⟩
    have hF : gloThg [x0] = andStands (gloF x0) sec := by
      show gloF x0 = _
      unfold gloF
      cases nameF x0 <;> rfl
    rw [hF]
    refine readG_export lb sGlobal (by decide) a c 1 (by omega) sec w 1 1 (by omega) (by omega) _ (fun t w1 b => ∃ s, t = ⟨4, [], s, linE, 0⟩ ∧ w1.heap[b]? = some (.cells #[.string (str s)] 237 (0, 0))) _ hro0 ?_ ?_ ?_ ?_
    · intro w1 b h1 h2 h3 h4
      refine (exportRead_any b a c x0 w1 (args_low hA h1 h2 h3) h4).mono ?_
      rintro e w2 ⟨g1, g2⟩
      refine ⟨g1, ?_⟩
      unfold gloF
      cases hs : nameF x0 with
      | error k => rw [hs] at g2; exact g2
      | ok s => rw [hs] at g2; exact ⟨g2.1, s, rfl, g2.2⟩
    · rintro t w1 b hbg hbl ⟨s, rfl, hh⟩
      refine (said_export b s w1 hh).mono ?_
      rintro e w2 ⟨g1, rfl⟩
      exact ⟨g1, none, 0, 0, none, 0, 0, rfl, .inl ⟨rfl, rfl⟩, rfl, TmLies.nil _ _, ThO.none _ _⟩
    · intro k hk2
      unfold gloF at hk2
      split at hk2
      · rename_i h; cases hk2; rw [nameF_err h]; decide
      · cases hk2
    · intro t ht
      unfold gloF at ht
      split at ht
      · cases ht
      · cases ht; simp
  · have hF : gloThg args = .error 20 := by
      match args, hl with
      | [], _ => rfl
      | [x], hl => exact absurd rfl hl
      | x :: y :: r, _ => rfl
    rw [hF]
    exact readLen_export lb sGlobal (by decide) a c args.length hal sec w 1 1 (by omega) _ hro0
theorem read_sec (lb : List UInt8) (a : Option Addr) (c : Nat) (args : List (List Tok)) (hal : args.length ≤ 1100000) (sec : Int) (w : World) (hA : ArgsIn w.heap.size w a args) :
    Calls Tryz.prog 69 #[.agg #[.string (str lb), .string (str sSection), .slice a args.length c], .int .i64 sec] w fun e w' => Below w.heap.size w w' ∧ ThOwn w.heap.size w' (secThg args) e := by
  have hro0 : ∀ w1, Below w.heap.size w w1 → Calls Tryz.prog 105 #[.string (str sSection)] w1 fun e w2 => Below w1.heap.size w1 w2 ∧ ∃ b, w1.heap.size ≤ b ∧ e = .returned (.tuple #[.iface 238 (.pointer (some ⟨b, 0, none⟩)), .int .i64 1, .int .i64 1]) ∧ (b < w2.heap.size ∧ w2.heap[b]? = some (.cells #[.int .i64 0] 240 (0, 0))) := fun w1 _ => (readerOf_section w1).mono fun e w2 ⟨h1, b, h2, h3, h4⟩ => ⟨h1, b, h2, h3, blk_lt h4, h4⟩
  by_cases hl : args.length = 1
  · obtain ⟨x0, rfl⟩ : ∃ x0, args = [x0] := by match args, hl with | [x], _ => exact ⟨x, rfl⟩
    have hsf : ∀ t, secF x0 = .ok t → t = ⟨5, [], [], linE, t.sec⟩ := fun t ht => by
      unfold secF at ht
      split at ht
      · cases ht; rfl
      · split at ht
        · cases ht; rfl
        · cases ht
    have hF : secThg [x0] = andStands (secF x0) sec := by
      show secF x0 = _
      cases hs : secF x0 with
      | error k => rfl
      | ok t => rw [hsf t hs]; rfl
    rw [hF]
    refine readG_segment lb sSection (by decide) a c 1 (by omega) sec w 1 1 (by omega) (by omega) _ (fun t w1 b => t = ⟨5, [], [], linE, t.sec⟩ ∧ w1.heap[b]? = some (.cells #[.int .i64 t.sec] 240 (0, 0))) _ hro0 ?_ ?_ ?_ ?_
    · intro w1 b h1 h2 h3 h4
      refine (segmentRead_any b a c x0 w1 (args_low hA h1 h2 h3) h4).mono ?_
      rintro e w2 ⟨g1, g2⟩
      refine ⟨g1, ?_⟩
      cases hs : secF x0 with
      | error k => rw [hs] at g2; exact g2
      | ok t => rw [hs] at g2; exact g2
    · rintro t w1 b hbg hbl ⟨ht, hh⟩
      refine (said_segment b t.sec w1 hh).mono ?_
      rintro e w2 ⟨g1, rfl⟩
      rw [ht]
      exact ⟨g1, none, 0, 0, none, 0, 0, rfl, .inl ⟨rfl, rfl⟩, rfl, TmLies.nil _ _, ThO.none _ _⟩
    · intro k hk2
      unfold secF at hk2
      split at hk2
      · cases hk2
      · split at hk2
        · cases hk2
        · cases hk2; decide
    · intro t ht
      rw [hsf t ht]
      simp
  · have hF : secThg args = .error 20 := by
      match args, hl with
      | [], _ => rfl
      | [x], hl => exact absurd rfl hl
      | x :: y :: r, _ => rfl
    rw [hF]
    exact readLen_segment lb sSection (by decide) a c args.length hal sec w 1 1 (by omega) _ hro0
theorem read_any (lb s : List UInt8) (a : Option Addr) (c : Nat) (args : List (List Tok)) (hal : args.length ≤ 1100000) (hfew : FewA args) (sec : Int) (w : World) (hA : ArgsIn w.heap.size w a args) (hT : Tab w) :
    Calls Tryz.prog 69 #[.agg #[.string (str lb), .string (str s), .slice a args.length c], .int .i64 sec] w fun e w' => Below w.heap.size w w' ∧ ThOwn w.heap.size w' (readF s args sec) e := by
  unfold readF
  by_cases h0 : s = []
  · rw [if_pos h0, h0]; exact read_nil lb a args.length c sec w
  rw [if_neg h0]
  by_cases h1 : s = sAlign
  · rw [if_pos h1, h1]; exact read_sing 3 (by decide) 1 (by omega) lb sAlign (by decide) readerOf_align a c args hal sec w hA
  rw [if_neg h1]
  by_cases h2 : s = sPool
  · rw [if_pos h2, h2]; exact read_sing 4 (by decide) 0 (by omega) lb sPool (by decide) readerOf_pool a c args hal sec w hA
  rw [if_neg h2]
  by_cases h3 : s = sByte
  · rw [if_pos h3, h3]; exact read_sev 5 (.inl rfl) lb sByte (by decide) readerOf_byte a c args hal hfew sec w hA
  rw [if_neg h3]
  by_cases h4 : s = sWord
  · rw [if_pos h4, h4]; exact read_sev 6 (.inr rfl) lb sWord (by decide) readerOf_word a c args hal hfew sec w hA
  rw [if_neg h4]
  by_cases h5 : s = sSpace
  · rw [if_pos h5, h5]; exact read_sing 7 (by decide) 1 (by omega) lb sSpace (by decide) readerOf_space a c args hal sec w hA
  rw [if_neg h5]
  by_cases h6 : s = sEqu
  · rw [if_pos h6, h6]; exact read_equ lb a c args hal sec w hA
  rw [if_neg h6]
  by_cases h7 : s = sGlobal
  · rw [if_pos h7, h7]; exact read_glo lb a c args hal sec w hA
  rw [if_neg h7]
  by_cases h8 : s = sSection
  · rw [if_pos h8, h8]; exact read_sec lb a c args hal sec w hA
  rw [if_neg h8]
  have hd : s ∉ dirs := by
    simp only [dirs, List.mem_cons, List.not_mem_nil, or_false, not_or]
    exact ⟨h1, h2, h3, h4, h5, h6, h7, h8⟩
  by_cases h9 : findN s = 0
  · rw [if_pos h9]; exact read_none lb s h0 hd h9 a args.length c sec w hT
  rw [if_neg h9]
  have hr := findN_range s
  exact read_op lb s hd (by omega) (by omega) h0 a c args hal sec w hA hT
end Go.Proofs.YtogkchgjpflmjaaGreatDoor

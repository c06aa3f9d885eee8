/- object's Read. -/
import Derived.Test.YtmndccbeddaphaaGreatDoorOrd18
/- object's Read, of bytes that are too many. -/
namespace Go.Proofs.YtmndccbeddaphaaGreatDoor
open Go.ChangeShapes Go.WideShapes Go.ChangeAt Go.RowKit
set_option linter.unusedVariables false
set_option linter.unusedSimpArgs false
set_option maxRecDepth 100000

set_option maxHeartbeats 16000000 in
theorem read_long (w : World) (a : Option Addr) (n c : Nat) (hn : 1048576 < n) (hm : n ≤ maxLen) : Calls Tryz.prog 10 #[.slice a n c] w fun e w' => ∃ q, e = .returned (.tuple #[.agg #[.slice none 0 0, .slice none 0 0, .slice none 0 0, .slice none 0 0], .iface 66 (.pointer (some ⟨q, 0, none⟩))]) ∧ w'.heap[q]? = some (.cells #[.int .i64 0, .int .i64 3] 68 (0, 0)) ∧ Below w.heap.size w w' := by
  unfold maxLen at hm
  go_enter Tryz.func10, Tryz.ntmps10
  go_wp2
  all_goals first | omega | skip
  have h1 := heap_alloc_new (w.alloc (.cells uZ 30)) (.cells #[.int .i64 0, .int .i64 3] 68)
  rw [show (w.alloc (.cells uZ 30)).heap.size = w.heap.size + 1 by simp] at h1
  have b1 := below_alloc w (.cells uZ 30)
  have e0 := (below_alloc (w.alloc (.cells uZ 30)) (.cells #[.int .i64 0, .int .i64 3] 68)).block w.heap.size (by simp)
  rw [heap_alloc_new w (.cells uZ 30)] at e0
  obtain ⟨q0, q1, q2, q3⟩ := four_read e0
  refine bodyPost_ret (by simp [results, Tryz.results10, go_sem, q0, q1, q2, q3]; try rfl) rfl ?_
  exact ⟨w.heap.size + 1, rfl, h1, b1.alloc b1.size _⟩
end Go.Proofs.YtmndccbeddaphaaGreatDoor
namespace Go.Proofs.YtmndccbeddaphaaGreatDoor
open Go.ChangeShapes Go.WideShapes Go.ChangeAt Go.RowKit Go.Maps
set_option linter.unusedVariables false
set_option linter.unusedSimpArgs false
set_option maxRecDepth 100000

def hdLoop (zs : List Int) : Nat → Nat → Nat × Rfu
  | 0, i => (i, none)
  | k + 1, i => if zs[i]? = hdL[i]? then hdLoop zs k (i + 1) else (i + 1, some ((i : Int), 15))
/-- how far the head is read, and why no further -/
def headF (zs : List Int) : Nat × Rfu := hdLoop zs 5 0

theorem hdLoop_to (zs : List Int) (k : Nat) : ∀ (m i : Nat), m ≤ k → (∀ j, i ≤ j → j < i + m → zs[j]? = hdL[j]?) → hdLoop zs k i = hdLoop zs (k - m) (i + m) := by
  induction k with
  | zero => intro m i hm _; cases Nat.le_zero.1 hm; rfl
  | succ k ih =>
    intro m i hm h
    cases m with
    | zero => rfl
    | succ m =>
      rw [hdLoop, if_pos (h i (by omega) (by omega)), ih m (i + 1) (by omega) (fun j h1 h2 => h j (by omega) (by omega))]
      congr 1 <;> omega
theorem hd_at {zs : List Int} {m : Nat} (h : zs.take m = hdL.take m) (j : Nat) (hj : j < m) : zs[j]? = hdL[j]? := by
  have := congrArg (fun l => l[j]?) h
  simpa [List.getElem?_take, hj] using this
theorem headF_is {zs : List Int} {p : Nat} {b : Rfu} (h : HdI zs p b) (h5 : b = none → p = 5) : p = (headF zs).1 ∧ b = (headF zs).2 := by
  rcases h with ⟨rfl, h1, h2, h3⟩ | ⟨m, h1, h2, rfl, rfl, h3, h4⟩
  · obtain rfl := h5 rfl
    unfold headF
    rw [hdLoop_to zs 5 5 0 (by omega) (fun j _ hj => hd_at h3 j (by omega))]
    exact ⟨rfl, rfl⟩
  · unfold headF
    rw [hdLoop_to zs 5 m 0 (by omega) (fun j _ hj => hd_at h3 j (by omega))]
    obtain ⟨k, hk⟩ : ∃ k, 5 - m = k + 1 := ⟨4 - m, by omega⟩
    rw [hk, Nat.zero_add, hdLoop, if_neg h4]
    exact ⟨rfl, rfl⟩

def rdT (zs : List Int) : RdI := rdItems zs 0 8192 [] (headF zs).1 (headF zs).2
def rdD (zs : List Int) : RdI := rD zs (rdT zs)
def rdE (zs : List Int) : List Eqv × INm × Nat × Rfu := rE zs (rdD zs)
def rdG (zs : List Int) : INm × List UInt8 × Nat × Rfu := rG zs [] (rdE zs)
/-- why no unit is read -/
def rdBad (zs : List Int) : Rfu := tailB zs (rdG zs).2.2.1 (rdG zs).2.2.2
/-- the unit that is read -/
def rdU (zs : List Int) : UVal := ⟨(rdT zs).1, (rdD zs).1, (rdE zs).1, (rdG zs).1⟩

/-- what Read answers -/
def ReOut (w : World) (zs : List Int) (e : Ending) (w' : World) : Prop := Below w.heap.size w w' ∧
  ((∃ f q, rdBad zs = some f ∧ e = .returned (.tuple #[.agg uZ, .iface 66 (.pointer (some ⟨q, 0, none⟩))]) ∧ w'.heap[q]? = some (.cells #[.int .i64 f.1, .int .i64 f.2] 68 (0, 0)))
  ∨ (rdBad zs = none ∧ ∃ vt vd ve vg LT LD LE LG, e = .returned (.tuple #[.agg #[vt, vd, ve, vg], .nilIface]) ∧ UL w.heap.size w' vt vd ve vg LT LD LE LG ∧ LT.map (·.1) = (rdU zs).text ∧ LD.map (·.1) = (rdU zs).data ∧ LE.map (·.1) = (rdU zs).equs ∧ LG = (rdU zs).globs))

theorem set_new (w : World) : SetIs (w.alloc (.map #[] 0)) w.heap.size 0 [] := ⟨.map [], World.ownsMap_made w Tryz.prog 9 unitE, isMap_empty, fun s => by simp [has]⟩

section
variable {w : World} {a : Option Addr} {c : Nat} {zs : List Int}
abbrev rdr0 (a : Option Addr) (n c b : Nat) : Array Value := #[.slice a n c, .int .i64 0, .pointer none, .map (some b), .string ⟨#[]⟩]
abbrev wR (w : World) (a : Option Addr) (n c : Nat) : World := ((w.alloc (.cells uZ 30)).alloc (.map #[] 0)).alloc (.cells (rdr0 a n c (w.heap.size + 1)) 71)

theorem rs_new (hl : O.Lies w a zs) (ha : ∀ x, a = some x → x.block < w.heap.size) (hn : zs.length ≤ 1048576) (hc : zs.length ≤ c) (hT : Tab w) : RS (wR w a zs.length c) (w.heap.size + 2) a c zs 0 none none (.map (some (w.heap.size + 1))) [] ∧ SetIs (wR w a zs.length c) (w.heap.size + 1) 0 [] ∧ Tab (wR w a zs.length c) ∧ (wR w a zs.length c).heap[w.heap.size]? = some (.cells uZ 30 (0, 0)) ∧ Below w.heap.size w (wR w a zs.length c) := by
  have b1 := below_alloc w (.cells uZ 30)
  have b2 := below_alloc (w.alloc (.cells uZ 30)) (.map #[] 0)
  have b3 := below_alloc ((w.alloc (.cells uZ 30)).alloc (.map #[] 0)) (.cells (rdr0 a zs.length c (w.heap.size + 1)) 71)
  have e1 := heap_alloc_new w (.cells uZ 30)
  have e3 := heap_alloc_new ((w.alloc (.cells uZ 30)).alloc (.map #[] 0)) (.cells (rdr0 a zs.length c (w.heap.size + 1)) 71)
  have s1 : (w.alloc (.cells uZ 30)).heap.size = w.heap.size + 1 := by simp
  have s2 : ((w.alloc (.cells uZ 30)).alloc (.map #[] 0)).heap.size = w.heap.size + 2 := by simp
  rw [s2] at e3
  have b12 := b1.trans (b2.mono b1.size)
  have b := b12.trans (b3.mono b12.size)
  have hS := set_new (w.alloc (.cells uZ 30))
  rw [s1] at hS
  refine ⟨⟨e3, lies_grown hl (fun x hx => ⟨ha x hx, by simp⟩) (grown_of_below b), fun x hx => by have := ha x hx; omega, hc, by omega, .inl (Nat.zero_le _), rfl⟩, hS.blk (b3.block _ hS.lt), hT.below b hT.size, ?_, b⟩
  rw [b3.block _ (by rw [s2]; omega), b2.block _ (by rw [s1]; omega)]
  exact e1

set_option maxHeartbeats 16000000 in
theorem read_is (hl : O.Lies w a zs) (ha : ∀ x, a = some x → x.block < w.heap.size) (hn : zs.length ≤ 1048576) (hc : zs.length ≤ c) (hT : Tab w) : Calls Tryz.prog 10 #[.slice a zs.length c] w fun e w' => ReOut w zs e w' := by
  obtain ⟨h1, h2, h3, h4, h5⟩ := rs_new hl ha hn hc hT
  have hTs := hT.size
  have hsz : (wR w a zs.length c).heap.size = w.heap.size + 3 := by simp
  have h31 := unit_is h1 h2 (by omega) h3 ⟨by omega, by omega, by omega, by omega, by omega⟩ (fun x hx => by have := ha x hx; omega)
  have hU : Hid (Calls Tryz.prog 31 #[.pointer (some ⟨w.heap.size + 2, 0, none⟩)] (wR w a zs.length c) fun e w' => ∃ vt vd ve vg LT LD LE LG, e = .returned (.agg #[vt, vd, ve, vg]) ∧ UL (w.heap.size + 1) w' vt vd ve vg LT LD LE LG ∧ LT.map (·.1) = (rdU zs).text ∧ LD.map (·.1) = (rdU zs).data ∧ LE.map (·.1) = (rdU zs).equs ∧ LG = (rdU zs).globs ∧ w'.heap[w.heap.size]? = some (.cells uZ 30 (0, 0)) ∧ Below w.heap.size w w' ∧ ∃ p rp mv la, RS w' (w.heap.size + 2) a c zs p (rdBad zs) rp mv la) := by
    refine h31.mono ?_
    rintro e w2 ⟨p1, b1, vt, vd, ve, vg, LT, LD, LE, LG, hI, h5', rfl, hO, T, D, E, G, rfl, rfl, rfl, rfl, m1, m2, m3, m4, hE⟩
    obtain ⟨hp, hb⟩ := headF_is hI h5'
    subst hp hb
    obtain ⟨rp, hR⟩ := hE.rs
    refine ⟨vt, vd, ve, vg, LT, LD, LE, LG, rfl, ⟨hO.t.weaken (by omega), hO.d.weaken (by omega), hO.e.weaken (by omega), own_weaken hO.g (by omega)⟩, m1, m2, m3, m4, ?_, ⟨hE.gr.os.trans h5.os, hE.gr.tape.trans h5.tape, hE.gr.output.trans h5.output, Nat.le_trans h5.size hE.gr.size, fun j hj => ?_⟩, _, rp, _, _, hR⟩
    · exact (hE.gr.block w.heap.size (by omega) (by omega) (by omega)).trans h4
    · exact (hE.gr.block j (by omega) (by omega) (by omega)).trans (h5.block j hj)
  have hfinB : Hid (∀ f q e w', rdBad zs = some f → Below w.heap.size w w' → e = .returned (.tuple #[.agg uZ, .iface 66 (.pointer (some ⟨q, 0, none⟩))]) → w'.heap[q]? = some (.cells #[.int .i64 f.1, .int .i64 f.2] 68 (0, 0)) → ReOut w zs e w') := fun f q e w' q1 q2 q3 q4 => ⟨q2, .inl ⟨f, q, q1, q3, q4⟩⟩
  have hfinG : Hid (∀ vt vd ve vg LT LD LE LG e w', rdBad zs = none → Below w.heap.size w w' → e = .returned (.tuple #[.agg #[vt, vd, ve, vg], .nilIface]) → UL w.heap.size w' vt vd ve vg LT LD LE LG → LT.map (·.1) = (rdU zs).text → LD.map (·.1) = (rdU zs).data → LE.map (·.1) = (rdU zs).equs → LG = (rdU zs).globs → ReOut w zs e w') := fun vt vd ve vg LT LD LE LG e w' q1 q2 q3 q4 q5 q6 q7 q8 => ⟨q2, .inr ⟨q1, vt, vd, ve, vg, LT, LD, LE, LG, q3, q4, q5, q6, q7, q8⟩⟩
  obtain ⟨n0, hn0⟩ : ∃ n0, n0 = zs.length := ⟨_, rfl⟩
  rw [← hn0] at hU hn ⊢
  clear h1 h2 h3 h4 h5 hT hTs hsz h31 hl ha hc hn0
  have hmm := @run_makeMap Tryz.prog
  have hf1 : decide ((1048576 : Int) < (n0 : Int)) = false := by simp; omega
  cases hbad : rdBad zs with
  | none =>
    rw [hbad] at hU
    replace hbad := Hid.intro hbad
    clear hfinB
    go_enter Tryz.func10, Tryz.ntmps10
    go_upto_region 7 with (first
      | (go_at_call 31; (with_reducible refine (hU.out).mono ?_); rintro e w2 ⟨vt, vd, ve, vg, LT, LD, LE, LG, rfl, hO, m1, m2, m3, m4, hq0, hB2, p2, rp2, mv2, la2, hR2⟩; obtain ⟨t1, t2, rfl⟩ := own_slice hO.t.row; obtain ⟨t3, t4, rfl⟩ := own_slice hO.d.row; obtain ⟨t5, t6, rfl⟩ := own_slice hO.e.row; obtain ⟨t7, t8, rfl⟩ := own_slice hO.g; generalize hLT : LT.length = l1 at *; generalize hLD : LD.length = l2 at *; generalize hLE : LE.length = l3 at *; generalize hLG : LG.length = l4 at *; replace hLT := Hid.intro hLT; replace hLD := Hid.intro hLD; replace hLE := Hid.intro hLE; replace hLG := Hid.intro hLG; have hb3 := below_alloc w2 (.cells #[.slice t1 l1 t2, .slice t3 l2 t4, .slice t5 l3 t6, .slice t7 l4 t8] 30); have hR3 := hR2.below hb3; have hq3 := (hb3.block _ (blk_lt hq0)).trans hq0; have hu3 := heap_alloc_new w2 (.cells #[.slice t1 l1 t2, .slice t3 l2 t4, .slice t5 l3 t6, .slice t7 l4 t8] 30); have h32 := Hid.intro (refused_is hR3); have hO3 := Hid.intro (UL.below hO hb3); have hB3 := Hid.intro (hB2.trans (hb3.mono hB2.size)); have hlt2 : w.heap.size < w2.heap.size := blk_lt hq0; replace m1 := Hid.intro m1; replace m2 := Hid.intro m2; replace m3 := Hid.intro m3; replace m4 := Hid.intro m4; replace hq3 := Hid.intro hq3; replace hu3 := Hid.intro hu3; replace hR3 := Hid.intro hR3; clear hU hO hB2 hR2 hb3 hq0)
      | (go_at_call 32; (with_reducible refine (h32.out).mono ?_); rintro e w3 ⟨rfl, hw3⟩; subst w3; clear h32))
    all_goals first | omega | skip
    clear hmm
    generalize hW : w2.alloc (.cells #[.slice t1 l1 t2, .slice t3 l2 t4, .slice t5 l3 t6, .slice t7 l4 t8] 30) = w3 at *
    obtain ⟨y0, y1, y2, y3⟩ := four_read hu3.out
    obtain ⟨z0, z1, z2, z3⟩ := four_read hq3.out
    have tf := fun j => frozen_of_row w3 w.heap.size j _ 30 hq3.out
    go_wp2_with fail
    all_goals first | omega | skip
    obtain ⟨s0, k0⟩ := row_set hq3.out 0 (.slice t1 l1 t2)
    obtain ⟨s1, k1⟩ := row_set s0 1 (.slice t3 l2 t4)
    obtain ⟨s2, k2⟩ := row_set s1 2 (.slice t5 l3 t6)
    obtain ⟨s3, k3⟩ := row_set s2 3 (.slice t7 l4 t8)
    have kk := grown_trans k0 (grown_trans k1 (grown_trans k2 k3))
    obtain ⟨q0, q1, q2, q3⟩ := four_read s3
    have hO4 := hO3.out.low kk (Nat.lt_succ_self _)
    refine bodyPost_ret (by simp [results, Tryz.results10, go_sem, q0, q1, q2, q3]; try rfl) rfl ?_
    exact hfinG.out _ _ _ _ LT LD LE LG _ _ hbad.out (hB3.out.trans ⟨kk.os, kk.tape, kk.output, kk.size, fun j hj => kk.block j (Nat.lt_of_lt_of_le hj hB3.out.size) (fun e => by have := Option.some.inj e; omega)⟩) rfl ⟨hO4.t.weaken (Nat.le_succ _), hO4.d.weaken (Nat.le_succ _), hO4.e.weaken (Nat.le_succ _), own_weaken hO4.g (Nat.le_succ _)⟩ m1.out m2.out m3.out m4.out
  | some f =>
    rw [hbad] at hU
    replace hbad := Hid.intro hbad
    clear hfinG
    go_enter Tryz.func10, Tryz.ntmps10
    go_upto_region 6 with (first
      | (go_at_call 31; (with_reducible refine (hU.out).mono ?_); rintro e w2 ⟨vt, vd, ve, vg, LT, LD, LE, LG, rfl, hO, m1, m2, m3, m4, hq0, hB2, p2, rp2, mv2, la2, hR2⟩; obtain ⟨t1, t2, rfl⟩ := own_slice hO.t.row; obtain ⟨t3, t4, rfl⟩ := own_slice hO.d.row; obtain ⟨t5, t6, rfl⟩ := own_slice hO.e.row; obtain ⟨t7, t8, rfl⟩ := own_slice hO.g; generalize hLT : LT.length = l1 at *; generalize hLD : LD.length = l2 at *; generalize hLE : LE.length = l3 at *; generalize hLG : LG.length = l4 at *; replace hLT := Hid.intro hLT; replace hLD := Hid.intro hLD; replace hLE := Hid.intro hLE; replace hLG := Hid.intro hLG; have hb3 := below_alloc w2 (.cells #[.slice t1 l1 t2, .slice t3 l2 t4, .slice t5 l3 t6, .slice t7 l4 t8] 30); have hR3 := hR2.below hb3; have hq3 := (hb3.block _ (blk_lt hq0)).trans hq0; have hu3 := heap_alloc_new w2 (.cells #[.slice t1 l1 t2, .slice t3 l2 t4, .slice t5 l3 t6, .slice t7 l4 t8] 30); have h32 := Hid.intro (refused_is hR3); have hO3 := Hid.intro (UL.below hO hb3); have hB3 := Hid.intro (hB2.trans (hb3.mono hB2.size)); have hlt2 : w.heap.size < w2.heap.size := blk_lt hq0; replace m1 := Hid.intro m1; replace m2 := Hid.intro m2; replace m3 := Hid.intro m3; replace m4 := Hid.intro m4; replace hq3 := Hid.intro hq3; replace hu3 := Hid.intro hu3; replace hR3 := Hid.intro hR3; clear hU hO hB2 hR2 hb3 hq0)
      | (go_at_call 32; (with_reducible refine (h32.out).mono ?_); rintro e w3 ⟨rfl, hw3⟩; subst w3; clear h32))
    all_goals first | omega | skip
    clear hmm
    generalize hW : w2.alloc (.cells #[.slice t1 l1 t2, .slice t3 l2 t4, .slice t5 l3 t6, .slice t7 l4 t8] 30) = w3 at *
    obtain ⟨q, hq, hqb⟩ := hR3.out.rf
    obtain ⟨_, _, c2, _, _⟩ := five_read hR3.out.blk
    rw [hq] at c2
    obtain ⟨z0, z1, z2, z3⟩ := four_read hq3.out
    have tf := fun j => frozen_of_row w3 w.heap.size j _ 30 hq3.out
    have hne : ¬ w.heap.size = w.heap.size + 2 := by omega
    go_region
    all_goals first | omega | skip
    go_wp2_with fail
    obtain ⟨s0, k0⟩ := row_set hq3.out 0 (.slice none 0 0)
    obtain ⟨s1, k1⟩ := row_set s0 1 (.slice none 0 0)
    obtain ⟨s2, k2⟩ := row_set s1 2 (.slice none 0 0)
    obtain ⟨s3, k3⟩ := row_set s2 3 (.slice none 0 0)
    have kk0 := grown_trans k0 (grown_trans k1 (grown_trans k2 k3))
    generalize hW4 : (((w3.setCell ⟨w.heap.size, 0, none⟩ (.slice none 0 0)).setCell ⟨w.heap.size, 1, none⟩ (.slice none 0 0)).setCell ⟨w.heap.size, 2, none⟩ (.slice none 0 0)).setCell ⟨w.heap.size, 3, none⟩ (.slice none 0 0) = w4 at *
    have kk : w3.grownBy w4.drew (some w.heap.size) := ⟨kk0.os, kk0.tape, kk0.output, kk0.size, kk0.block⟩
    have s4 : w4.drew.heap[w.heap.size]? = some (.cells uZ 30 (0, 0)) := s3
    generalize w4.drew = w5 at *
    obtain ⟨q0, q1, q2, q3⟩ := four_read s4
    have hqw : w.heap.size ≠ q := fun e => by
      rw [← e, hq3.out] at hqb
      cases hqb
    refine bodyPost_ret (v := .tuple #[.agg uZ, .iface 66 (.pointer (some ⟨q, 0, none⟩))]) (by simp [results, Tryz.results10, go_sem, q0, q1, q2, q3]; try rfl) rfl ?_
    refine hfinB.out f q _ _ hbad.out (hB3.out.trans ⟨kk.os, kk.tape, kk.output, kk.size, fun j hj => kk.block j (Nat.lt_of_lt_of_le hj hB3.out.size) (fun e => by have := Option.some.inj e; omega)⟩) rfl ?_
    exact (kk.block q (blk_lt hqb) (fun e => hqw (Option.some.inj e).symm)).trans hqb
end
end Go.Proofs.YtmndccbeddaphaaGreatDoor

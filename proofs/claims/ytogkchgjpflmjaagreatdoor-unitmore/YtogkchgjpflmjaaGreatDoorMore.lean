/- PROVED: of a source that is refused nothing behind the line matters; one that is not is a beginning of itself and more lines: chapter 9's P9.1 (spandrellaw9.UnitMore returns true). No condition but the listed variables as the program's text lays them. -/
import Derived.Test.YtogkchgjpflmjaaGreatDoorMo1
import Derived.Test.YtogkchgjpflmjaaGreatDoorUFrame
/- UnitMore: the first is assembled, the second refused; both are refused. -/
namespace Go.Proofs.YtogkchgjpflmjaaGreatDoor
open Go.ChangeShapes Go.WideShapes Go.ChangeAt Go.RowKit Go.Sort
set_option linter.unusedVariables false
set_option maxRecDepth 100000
set_option maxHeartbeats 8000000 in
theorem more_second (l1 l2 : List UInt8) (h1 : l1.length ≤ 9223372036854775807) (h2 : l2.length ≤ 9223372036854775807) (A : Asm) (hA : asmF (l1.take 1000) = .ok A) (f : Nat × Int) (hF : asmF (l1.take 1000 ++ 10 :: l2.take 500) = .error f) (w : World) (hE : Env w) :
    Calls Tryz.prog 7 #[.string (str l1), .string (str l2)] w fun e w' => e = .returned (.bool true) ∧ Below w.heap.size w w' := by
  have f1 := Hid.intro (fun w1 => few1000 l1 h1 w1)
  have f2 := Hid.intro (fun w1 => few500 l2 h2 w1)
  have hk := Hid.intro known_any
  have a1 : Hid (Calls Tryz.prog 9 #[.string (str (l1.take 1000))] w fun e w' => Below w.heap.size w w' ∧ ∃ y1 m1 d1 y2 m2 d2 y3 m3 d3 y4 m4 d4, e = .returned (.tuple #[.agg #[.slice y1 m1 d1, .slice y2 m2 d2, .slice y3 m3 d3, .slice y4 m4 d4], .nilIface])) := (asb_ok hA w hE).mono fun e w' ⟨h1, _, _, _, _, _, _, _, _, h2, h3⟩ => ⟨h1, _, _, _, _, _, _, _, _, _, _, _, _, h2⟩
  have a2 := Hid.intro (fun w1 hE1 => asb_bad hF w1 hE1)
  have hnil := Hid.intro (fun t w1 => as_nil t w1)
  clear hA hF
  rw [← str_join] at a2
  have hEH := Hid.intro hE
  clear h1 h2 hE
  have z1 : ¬ 9223372036854775807 < (str (l1.take 1000)).size + 1 := by
    have : (str (l1.take 1000)).size = (l1.take 1000).length := rfl
    rw [this, List.length_take]; omega
  have z2 : ¬ 9223372036854775807 < (str (l1.take 1000)).size + 1 + (str (l2.take 500)).size := by
    have : (str (l1.take 1000)).size = (l1.take 1000).length := rfl
    have h3 : (str (l2.take 500)).size = (l2.take 500).length := rfl
    rw [this, h3, List.length_take, List.length_take]; omega
  generalize str (l1.take 1000) = S at *
  generalize str (l2.take 500) = T at *
  generalize str l1 = S0 at *
  generalize str l2 = T0 at *
  go_enter Tryz.func7, Tryz.ntmps7
  go_wp2_with (first
    | (go_at_call 16; (with_reducible refine (f1.out _).mono ?_); rintro e w1 ⟨rfl, hw1⟩; subst w1)
    | (go_at_call 16; (with_reducible refine (f2.out _).mono ?_); rintro e w1 ⟨rfl, hw1⟩; subst w1)
    | (go_at_call 9
       (with_reducible refine (a1.out).mono ?_)
       rintro e w1 ⟨hb1, y1, m1, d1, y2, m2, d2, y3, m3, d3, y4, m4, d4, rfl⟩
       have hB2 := Hid.intro (hb1.alloc hb1.size (.cells #[.slice y1 m1 d1, .slice y2 m2 d2, .slice y3 m3 d3, .slice y4 m4 d4] 26))
       have hE2 := Hid.intro (hEH.out.below hB2.out)
       clear hb1)
    | (go_at_call 9
       (with_reducible refine (a2.out _ hE2.out).mono ?_)
       rintro e w3 ⟨hb3, q, rfl, hq⟩
       have hT := Hid.intro (below_three w3 (.cells #[.slice none 0 0, .slice none 0 0, .slice none 0 0, .slice none 0 0] 26) (.cells #[.pointer none] 51) (.cells #[.pointer none] 51))
       have hB6 := Hid.intro ((hB2.out.trans (hb3.mono hB2.out.size)).trans (hT.out.mono (Nat.le_trans hB2.out.size hb3.size)))
       clear hb3 hq)
    | (go_at_call 25
       (with_reducible refine (hnil.out _ _).mono ?_)
       rintro e w7 ⟨rfl, hw7⟩
       subst w7)
    | (go_at_call 15; (with_reducible refine (hk.out _ (hEH.out.below hB6.out)).mono ?_); rintro e w8 ⟨rfl, hb8⟩))
  all_goals first | (exfalso; omega) | skip
  go_ret
  exact ⟨rfl, hB6.out.trans (hb8.mono hB6.out.size)⟩
end Go.Proofs.YtogkchgjpflmjaaGreatDoor
/- UnitMore: both are refused. -/
namespace Go.Proofs.YtogkchgjpflmjaaGreatDoor
open Go.ChangeShapes Go.WideShapes Go.ChangeAt Go.RowKit Go.Sort
set_option linter.unusedVariables false
set_option maxRecDepth 100000
set_option maxHeartbeats 8000000 in
theorem more_both (l1 l2 : List UInt8) (h1 : l1.length ≤ 9223372036854775807) (h2 : l2.length ≤ 9223372036854775807) (n : Nat) (K9 : Int) (hk23 : K9 ≠ 23) (hA : asmF (l1.take 1000) = .error (n, K9)) (hF : asmF (l1.take 1000 ++ 10 :: l2.take 500) = .error (n, K9)) (w : World) (hE : Env w) :
    Calls Tryz.prog 7 #[.string (str l1), .string (str l2)] w fun e w' => e = .returned (.bool true) ∧ Below w.heap.size w w' := by
  have f1 := Hid.intro (fun w1 => few1000 l1 h1 w1)
  have f2 := Hid.intro (fun w1 => few500 l2 h2 w1)
  have hk := Hid.intro known_any
  have a1 := Hid.intro (asb_bad hA w hE)
  have a2 := Hid.intro (fun w1 hE1 => asb_bad hF w1 hE1)
  have hkb : (K9 == 23) = false := by simpa using hk23
  clear hA hF
  dsimp only at a1 a2
  generalize (n : Int) = N at *
  rw [← str_join] at a2
  have hEH := Hid.intro hE
  clear h1 h2 hE
  have z1 : ¬ 9223372036854775807 < (str (l1.take 1000)).size + 1 := by
    have : (str (l1.take 1000)).size = (l1.take 1000).length := rfl
    rw [this, List.length_take]; omega
  have z2 : ¬ 9223372036854775807 < (str (l1.take 1000)).size + 1 + (str (l2.take 500)).size := by
    have : (str (l1.take 1000)).size = (l1.take 1000).length := rfl
    have h3 : (str (l2.take 500)).size = (l2.take 500).length := rfl
    rw [this, h3, List.length_take, List.length_take]; omega
  generalize str (l1.take 1000) = S at *
  generalize str (l2.take 500) = T at *
  generalize str l1 = S0 at *
  generalize str l2 = T0 at *
  go_enter Tryz.func7, Tryz.ntmps7
  go_wp2_with (first
    | (go_at_call 16; (with_reducible refine (f1.out _).mono ?_); rintro e w1 ⟨rfl, hw1⟩; subst w1)
    | (go_at_call 16; (with_reducible refine (f2.out _).mono ?_); rintro e w1 ⟨rfl, hw1⟩; subst w1)
    | (go_at_call 9
       (with_reducible refine (a1.out).mono ?_)
       rintro e w1 ⟨hb1, q, rfl, hq⟩
       have hB2 := Hid.intro (hb1.alloc hb1.size (.cells #[.slice none 0 0, .slice none 0 0, .slice none 0 0, .slice none 0 0] 26))
       have hE2 := Hid.intro (hEH.out.below hB2.out)
       have hq2 := Hid.intro ((below_alloc w1 (.cells #[.slice none 0 0, .slice none 0 0, .slice none 0 0, .slice none 0 0] 26)).block q (blk_lt hq.2) |>.trans hq.2)
       clear hq hb1)
    | (go_at_call 9
       (with_reducible refine (a2.out _ hE2.out).mono ?_)
       rintro e w3 ⟨hb3, s, rfl, hs⟩
       have hT := Hid.intro (below_three w3 (.cells #[.slice none 0 0, .slice none 0 0, .slice none 0 0, .slice none 0 0] 26) (.cells #[.pointer none] 51) (.cells #[.pointer none] 51))
       have hB6 := Hid.intro ((hB2.out.trans (hb3.mono hB2.out.size)).trans (hT.out.mono (Nat.le_trans hB2.out.size hb3.size)))
       have hq3 := (hb3.block q (blk_lt hq2.out)).trans hq2.out
       have hq6 := Hid.intro ((hT.out.block q (blk_lt hq3)).trans hq3)
       have hs6 := Hid.intro ((hT.out.block s (blk_lt hs.2)).trans hs.2)
       have hqn : Hid (q < w3.heap.size) := blk_lt hq3
       have hsn : Hid (s < w3.heap.size) := blk_lt hs.2
       have hXX := Hid.intro (boxes w3 (.cells #[.slice none 0 0, .slice none 0 0, .slice none 0 0, .slice none 0 0] 26))
       have hX := Hid.intro (as_box q (w3.heap.size + 1) (.pointer none) _ (hEH.out.below hB6.out).err hXX.out.1)
       have hsz : Hid (w.heap.size ≤ w3.heap.size) := Hid.intro (Nat.le_trans hB2.out.size hb3.size)
       clear hq3 hb3 hs)
    | (go_at_call 25
       (with_reducible refine (hX.out).mono ?_)
       rintro e w7 ⟨rfl, hg7, hbx7⟩
       have k0 := hbx7.cell
       have hbq7 := Hid.intro hbx7
       have hq7 := Hid.intro ((hg7.block q (Nat.lt_of_lt_of_le hqn.out (by simp; omega)) (fun e => by have := hqn.out; cases e; omega)).trans hq6.out)
       have hs7 := Hid.intro ((hg7.block s (Nat.lt_of_lt_of_le hsn.out (by simp; omega)) (fun e => by have := hsn.out; cases e; omega)).trans hs6.out)
       have hb10 := Hid.intro (hXX.out.2.kept hg7 (fun e => by injection e with e; omega))
       have k1 := (two_read hq7.out).2
       have hB7 := Hid.intro (below_grown hB6.out hg7 (Nat.le_succ_of_le hsz.out))
       clear hg7 hbx7))
  all_goals first | (exfalso; omega) | skip
  refine wp_region_then (by kernel_rfl) (by kernel_rfl) (by kernel_rfl) rfl ?_
  repeat (first | (with_reducible refine wpQuiet_skip (by with_unfolding_all rfl) ?_; simp only [Act.put, List.setIfInBounds_toArray, List.set_cons_zero, List.set_cons_succ]) | (with_reducible refine wpQuiet_step (fun K hK => ?_); go_simp; (with_reducible refine hK _ ?_; clear hK K)))
  with_reducible refine wpQuiet_nil ?_
  intro w8 hw8
  obtain ⟨p8, hp8⟩ := hw8
  subst hp8
  intro K hK
  have hB8 := hB7.out.trans (p8.h.mono hB7.out.size)
  have hb8 : Boxed p8.wd (w3.heap.size + 1 + 1) 51 (.pointer none) := (p8.h.block _ hb10.out.lt).trans hb10.out
  have hr8 : Boxed p8.wd (w3.heap.size + 1) 51 (.pointer (some ⟨q, 0, none⟩)) := (p8.h.block _ hbq7.out.lt).trans hbq7.out
  have hq8 := (p8.h.block q (blk_lt hq7.out)).trans hq7.out
  have hs8 := (p8.h.block s (blk_lt hs7.out)).trans hs7.out
  have hY := as_box s (w3.heap.size + 1 + 1) (.pointer none) p8.wd (hEH.out.below hB8).err hb8
  clear k0 k1
  go_simp
  refine hY.mono ?_
  rintro e w9 ⟨rfl, hg9, hbx9⟩
  refine hK _ _ ?_
  clear hK K hY
  have hr9 := hr8.kept hg9 (fun e => by injection e with e; omega)
  have hq9 := (hg9.block q (blk_lt hq8) (fun e => by injection e with e; have := hqn.out; omega)).trans hq8
  have hs9 := (hg9.block s (blk_lt hs8) (fun e => by injection e with e; have := hsn.out; omega)).trans hs8
  have hB9 := Hid.intro (below_grown hB8 hg9 (Nat.le_succ_of_le (Nat.le_succ_of_le hsz.out)))
  have c0 : ∀ p : BelowOf w9, p.wd.cell? ⟨w3.heap.size + 1 + 1, 0, none⟩ = some (.pointer (some ⟨s, 0, none⟩)) := fun p => p.cell (a := ⟨_, 0, none⟩) hbx9.lt hbx9.cell
  have c1 : ∀ p : BelowOf w9, p.wd.cell? ⟨w3.heap.size + 1, 0, none⟩ = some (.pointer (some ⟨q, 0, none⟩)) := fun p => p.cell (a := ⟨_, 0, none⟩) hr9.lt hr9.cell
  have c2 : ∀ p : BelowOf w9, p.wd.cell? ⟨s, 0, none⟩ = some (.int .i64 N) := fun p => p.cell (a := ⟨s, 0, none⟩) (blk_lt hs9) (two_read hs9).1
  have c3 : ∀ p : BelowOf w9, p.wd.cell? ⟨s, 1, none⟩ = some (.int .i64 K9) := fun p => p.cell (a := ⟨s, 1, none⟩) (blk_lt hs9) (two_read hs9).2
  have c4 : ∀ p : BelowOf w9, p.wd.cell? ⟨q, 0, none⟩ = some (.int .i64 N) := fun p => p.cell (a := ⟨q, 0, none⟩) (blk_lt hq9) (two_read hq9).1
  have c5 : ∀ p : BelowOf w9, p.wd.cell? ⟨q, 1, none⟩ = some (.int .i64 K9) := fun p => p.cell (a := ⟨q, 1, none⟩) (blk_lt hq9) (two_read hq9).2
  have e1 : (N == N) = true := by simp
  have e2 : (K9 == K9) = true := by simp
  have hp1 := ptr_ne ⟨s, 0, none⟩
  have h15 := Hid.intro (fun p : BelowOf w9 => hk.out p.wd (hEH.out.below (hB9.out.trans (p.h.mono hB9.out.size))))
  clear hg9 hbx9 hr9 hq9 hs9 hB8 hb8 hr8 hq8 hs8 hk23 hkb
  repeat (first | (with_reducible refine wpQuiet_skip (by with_unfolding_all rfl) ?_; simp only [Act.put, List.setIfInBounds_toArray, List.set_cons_zero, List.set_cons_succ]) | (with_reducible refine wpQuiet_step (fun K hK => ?_); go_simp; first | (with_reducible refine hK _ ?_; clear hK K) | (apply Exists.intro; refine ⟨fun p => ?_, hK _ ?_⟩; (go_at_call 15; with_reducible refine below_calls (h15.out p)); clear hK K)))
  with_reducible refine wpQuiet_nil ?_
  intro _ hw'
  obtain ⟨pq, hw''⟩ := hw'
  subst hw''
  have hend := Hid.intro (hB9.out.trans (pq.h.mono hB9.out.size))
  go_wp2_with fail
  go_ret
  exact ⟨rfl, hend.out⟩
end Go.Proofs.YtogkchgjpflmjaaGreatDoor
/- UnitMore: both are assembled; the law. -/
namespace Go.Proofs.YtogkchgjpflmjaaGreatDoor
open Go.ChangeShapes Go.WideShapes Go.ChangeAt Go.RowKit Go.Sort
set_option linter.unusedVariables false
set_option maxRecDepth 100000
theorem own_room {w : World} {lo : Nat} {T : TypeId} {sz : Nat} {a : Option Addr} {n c : Nat} {xs : List Value} (h : w.ownsRow lo T sz (.slice a n c) n xs) : n ≤ c := by
  rcases h.2 with ⟨hv, h0⟩ | ⟨g, cap, cur, hv, _, _, hc, _⟩
  · omega
  · injection hv with _ _ hv3
    omega
theorem asb_room {l : List UInt8} {A : Asm} (h : asmF l = .ok A) (w : World) (hE : Env w) :
    Calls Tryz.prog 9 #[.string (str l)] w fun e w' => Below w.heap.size w w' ∧ ∃ ta tc da dc ea en ec ga gn gc, e = .returned (.tuple #[.agg #[.slice ta A.text.length tc, .slice da A.data.length dc, .slice ea en ec, .slice ga gn gc], .nilIface]) ∧ ItIn w' ta A.text ∧ ItIn w' da A.data ∧ A.text.length ≤ tc ∧ A.data.length ≤ dc := by
  have ha := assemble_any l w hE.tab hE.err
  rw [h] at ha
  refine ha.mono fun e w' ⟨h1, tv, dv, ev, gv, pt, pd, pe, h2, h3⟩ => ?_
  obtain ⟨a1, c1, rfl⟩ := own_slice h3.text.row
  obtain ⟨a2, c2, rfl⟩ := own_slice h3.data.row
  obtain ⟨a3, c3, rfl⟩ := own_slice h3.equs.row
  obtain ⟨a4, c4, rfl⟩ := own_slice h3.globs
  have e1 : A.text.length = pt.length := by rw [h3.et, List.length_map]
  have e2 : A.data.length = pd.length := by rw [h3.ed, List.length_map]
  refine ⟨h1, a1, c1, a2, c2, a3, pe.length, c3, a4, (globF A).length, c4, ?_, h3.et ▸ h3.text.itIn, h3.ed ▸ h3.data.itIn, ?_, ?_⟩
  · rw [h2, e1, e2]
  · rw [e1]; exact own_room h3.text.row
  · rw [e2]; exact own_room h3.data.row
theorem ItIn.ahead {w : World} {a : Option Addr} {l m : List Itm} (h : ItIn w a (l ++ m)) : ItIn w a l := by
  rcases h with h | ⟨g, o, h1, h2, h3⟩
  · exact .inl (List.append_eq_nil_iff.1 h).1
  · exact .inr ⟨g, o, h1, h2, fun i x hi => h3 i x (by rw [List.getElem?_append_left (List.getElem?_eq_some_iff.1 hi).1]; exact hi)⟩
theorem cut_items (a : Option Addr) (len c n : Nat) (h : n ≤ c) (w : World) : (Instr.slice 22 (.slice a len c) none (some (.int .i64 (n : Int))) none).run Tryz.prog w = .ok (.slice a n c) w := by
  rw [run_slice_h w 22 a len c (by kernel_rfl) .i64 (n : Int) (by omega) (by omega)]
  have : (sizeOf (Tryz.prog.elem 22)).run Tryz.prog w = .ok 10 w := by kernel_rfl
  rw [this]
  simp only [Result.andThen, sliced]
  cases a with
  | none => simp
  | some a => simp [Addr.add]
theorem cut_itemsAt (a : Option Addr) (len c n : Nat) (h : n ≤ c) (w : World) : (Instr.sliceAt 22 (.slice a len c) none (some (.int .i64 (n : Int))) none).run Tryz.prog w = .ok (.slice a n c) w := by
  rw [run_sliceAt_slice w 22 _ _ _ _ (by kernel_rfl)]
  exact cut_items a len c n h w
set_option maxHeartbeats 8000000 in
theorem more_ok (l1 l2 : List UInt8) (h1 : l1.length ≤ 9223372036854775807) (h2 : l2.length ≤ 9223372036854775807) (A B : Asm) (hA : asmF (l1.take 1000) = .ok A) (hF : asmF (l1.take 1000 ++ 10 :: l2.take 500) = .ok B) (w : World) (hE : Env w) :
    Calls Tryz.prog 7 #[.string (str l1), .string (str l2)] w fun e w' => e = .returned (.bool true) ∧ Below w.heap.size w w' := by
  have f1 := Hid.intro (fun w1 => few1000 l1 h1 w1)
  have f2 := Hid.intro (fun w1 => few500 l2 h2 w1)
  have hk := Hid.intro known_any
  have hah : Ahead A B := asm_more_ok (by simp; omega) hA hF
  have hheld := asm_held (asmF_ok hA).1 (asmF_ok hA).2.1 (by omega)
  have a1 := Hid.intro (asb_room hA w hE)
  have a2 := Hid.intro (fun w1 hE1 => asb_room hF w1 hE1)
  have hnil := Hid.intro (fun t w1 => as_nil t w1)
  have l1t : A.text.length ≤ B.text.length := by obtain ⟨t, h⟩ := hah.1; rw [h, List.length_append]; omega
  have l1d : A.data.length ≤ B.data.length := by obtain ⟨t, h⟩ := hah.2; rw [h, List.length_append]; omega
  have sT := Hid.intro (fun (a b : Option Addr) (c d : Nat) (w1 : World) (p1 : ItIn w1 a A.text) (p2 : ItIn w1 b B.text) => sameItems_any A.text hheld.text.1 (fun x hx => (hheld.text.2 x hx).few) a b A.text.length c d w1 p1 (by obtain ⟨t, h⟩ := hah.1; rw [h] at p2; exact p2.ahead) (Hid.intro rfl))
  have sD := Hid.intro (fun (a b : Option Addr) (c d : Nat) (w1 : World) (p1 : ItIn w1 a A.data) (p2 : ItIn w1 b B.data) => sameItems_any A.data hheld.data.1 (fun x hx => (hheld.data.2 x hx).few) a b A.data.length c d w1 p1 (by obtain ⟨t, h⟩ := hah.2; rw [h] at p2; exact p2.ahead) (Hid.intro rfl))
  clear hA hF hah hheld
  generalize hnt : A.text.length = nt at *
  generalize hnd : A.data.length = nd at *
  generalize hmt : B.text.length = mt at *
  generalize hmd : B.data.length = md at *
  replace hnt := Hid.intro hnt
  replace hnd := Hid.intro hnd
  replace hmt := Hid.intro hmt
  replace hmd := Hid.intro hmd
  rw [← str_join] at a2
  have hEH := Hid.intro hE
  clear h1 h2 hE
  have z1 : ¬ 9223372036854775807 < (str (l1.take 1000)).size + 1 := by
    have : (str (l1.take 1000)).size = (l1.take 1000).length := rfl
    rw [this, List.length_take]; omega
  have z2 : ¬ 9223372036854775807 < (str (l1.take 1000)).size + 1 + (str (l2.take 500)).size := by
    have : (str (l1.take 1000)).size = (l1.take 1000).length := rfl
    have h3 : (str (l2.take 500)).size = (l2.take 500).length := rfl
    rw [this, h3, List.length_take, List.length_take]; omega
  generalize str (l1.take 1000) = S at *
  generalize str (l2.take 500) = T at *
  generalize str l1 = S0 at *
  generalize str l2 = T0 at *
  go_enter Tryz.func7, Tryz.ntmps7
  go_wp2_with (first
    | (go_at_call 16; (with_reducible refine (f1.out _).mono ?_); rintro e w1 ⟨rfl, hw1⟩; subst w1)
    | (go_at_call 16; (with_reducible refine (f2.out _).mono ?_); rintro e w1 ⟨rfl, hw1⟩; subst w1)
    | (go_at_call 9
       (with_reducible refine (a1.out).mono ?_)
       rintro e w1 ⟨hb1, ta, tc, da, dc, ea, en, ec, ga, gn, gc, rfl, i1, i2, r1, r2⟩
       have hB2 := Hid.intro (hb1.alloc hb1.size (.cells #[.slice ta nt tc, .slice da nd dc, .slice ea en ec, .slice ga gn gc] 26))
       have hE2 := Hid.intro (hEH.out.below hB2.out)
       have hA1 := below_alloc w1 (.cells #[.slice ta nt tc, .slice da nd dc, .slice ea en ec, .slice ga gn gc] 26)
       have hu2 := Hid.intro (heap_alloc_new w1 (.cells #[.slice ta nt tc, .slice da nd dc, .slice ea en ec, .slice ga gn gc] 26))
       have hi1 := Hid.intro (i1.below hA1)
       have hi2 := Hid.intro (i2.below hA1)
       clear hb1 hA1 i1 i2 r1 r2)
    | (go_at_call 9
       (with_reducible refine (a2.out _ hE2.out).mono ?_)
       rintro e w3 ⟨hb3, xa, xc, za, zc, fa, fn, fc, ha, hn, hc, rfl, i3, i4, r3, r4⟩
       have hT := Hid.intro (below_three w3 (.cells #[.slice xa mt xc, .slice za md zc, .slice fa fn fc, .slice ha hn hc] 26) (.cells #[.pointer none] 51) (.cells #[.pointer none] 51))
       have hB6 := Hid.intro ((hB2.out.trans (hb3.mono hB2.out.size)).trans (hT.out.mono (Nat.le_trans hB2.out.size hb3.size)))
       have hu3 := (hb3.block _ (blk_lt hu2.out)).trans hu2.out
       have hu6 := Hid.intro ((hT.out.block _ (blk_lt hu3)).trans hu3)
       have hv6 := Hid.intro (show (((w3.alloc (.cells #[.slice xa mt xc, .slice za md zc, .slice fa fn fc, .slice ha hn hc] 26)).alloc (.cells #[.pointer none] 51)).alloc (.cells #[.pointer none] 51)).heap[w3.heap.size]? = some (.cells #[.slice xa mt xc, .slice za md zc, .slice fa fn fc, .slice ha hn hc] 26 (0, 0)) from by
         rw [Below.heap_alloc _ _ _ (by simp; omega), Below.heap_alloc _ _ _ (by simp)]
         exact heap_alloc_new w3 _)
       have hi16 := Hid.intro ((hi1.out.below hb3).below hT.out)
       have hi26 := Hid.intro ((hi2.out.below hb3).below hT.out)
       have hi36 := Hid.intro (i3.below hT.out)
       have hi46 := Hid.intro (i4.below hT.out)
       have hr3 := Hid.intro r3
       have hr4 := Hid.intro r4
       clear hb3 hu3 i3 i4 r3 r4)
    | (go_at_call 25
       (with_reducible refine (hnil.out _ _).mono ?_)
       rintro e w7 ⟨rfl, hw7⟩
       subst w7))
  all_goals first | (exfalso; omega) | skip
  obtain ⟨u0, u1, u2, u3⟩ := four_read hu6.out
  obtain ⟨v0, v1, v2, v3⟩ := four_read hv6.out
  have ul := blk_lt hu6.out
  have vl := blk_lt hv6.out
  generalize ((w3.alloc (.cells #[.slice xa mt xc, .slice za md zc, .slice fa fn fc, .slice ha hn hc] 26)).alloc (.cells #[.pointer none] 51)).alloc (.cells #[.pointer none] 51) = W at *
  have c0 : ∀ p : BelowOf W, p.wd.cell? ⟨w1.heap.size, 0, none⟩ = _ := fun p => p.cell (a := ⟨_, 0, none⟩) ul u0
  have c1 : ∀ p : BelowOf W, p.wd.cell? ⟨w1.heap.size, 1, none⟩ = _ := fun p => p.cell (a := ⟨_, 1, none⟩) ul u1
  have d0 : ∀ p : BelowOf W, p.wd.cell? ⟨w3.heap.size, 0, none⟩ = _ := fun p => p.cell (a := ⟨_, 0, none⟩) vl v0
  have d1 : ∀ p : BelowOf W, p.wd.cell? ⟨w3.heap.size, 1, none⟩ = _ := fun p => p.cell (a := ⟨_, 1, none⟩) vl v1
  have s1 := cut_items xa mt xc nt (Nat.le_trans l1t hr3.out)
  have s2 := cut_items za md zc nd (Nat.le_trans l1d hr4.out)
  have s3 := cut_itemsAt xa mt xc nt (Nat.le_trans l1t hr3.out)
  have s4 := cut_itemsAt za md zc nd (Nat.le_trans l1d hr4.out)
  have t1 : (nt : Int) ≤ (mt : Int) := by omega
  have t2 : (nd : Int) ≤ (md : Int) := by omega
  have q1 := Hid.intro (fun p : BelowOf W => sT.out ta xa tc xc p.wd (hi16.out.below p.h) (hi36.out.below p.h))
  have q2 := Hid.intro (fun p : BelowOf W => sD.out da za dc zc p.wd (hi26.out.below p.h) (hi46.out.below p.h))
  have h15 := Hid.intro (fun p : BelowOf W => hk.out p.wd (hEH.out.below (hB6.out.trans (p.h.mono hB6.out.size))))
  clear u0 u1 u2 u3 v0 v1 v2 v3 ul vl l1t l1d
  refine wp_region_quiet_below (by kernel_rfl) (by kernel_rfl) ?_
  repeat (first | (with_reducible refine wpQuiet_skip (by with_unfolding_all rfl) ?_; simp only [Act.put, List.setIfInBounds_toArray, List.set_cons_zero, List.set_cons_succ]) | (with_reducible refine wpQuiet_step (fun K hK => ?_); go_simp; first | (with_reducible refine hK _ ?_; clear hK K) | (apply Exists.intro; refine ⟨fun p => ?_, hK _ ?_⟩; (first | (go_at_call 26; with_reducible refine below_calls (q1.out p)) | (go_at_call 26; with_reducible refine below_calls (q2.out p)) | (go_at_call 15; with_reducible refine below_calls (h15.out p))); clear hK K)))
  with_reducible refine wpQuiet_nil ?_
  intro _ hw'
  obtain ⟨pq, hw''⟩ := hw'
  subst hw''
  have hend := Hid.intro (hB6.out.trans (pq.h.mono hB6.out.size))
  go_wp2_with fail
  go_ret
  exact ⟨rfl, hend.out⟩
end Go.Proofs.YtogkchgjpflmjaaGreatDoor
/- UnitMore, of any two texts. -/
namespace Go.Proofs.YtogkchgjpflmjaaGreatDoor
open Go.ChangeShapes Go.WideShapes Go.ChangeAt Go.RowKit Go.Sort
theorem more_any (l1 l2 : List UInt8) (h1 : l1.length ≤ 9223372036854775807) (h2 : l2.length ≤ 9223372036854775807) (w : World) (hE : Env w) :
    Calls Tryz.prog 7 #[.string (str l1), .string (str l2)] w fun e w' => e = .returned (.bool true) ∧ Below w.heap.size w w' := by
  cases hA : asmF (l1.take 1000) with
  | error f =>
    obtain ⟨n, k⟩ := f
    by_cases hk : k = 23
    · subst hk
      exact more_undef l1 l2 h1 h2 n hA w hE
    · exact more_both l1 l2 h1 h2 n k hk hA (asm_more_bad (by simp; omega) hA hk) w hE
  | ok A =>
    cases hF : asmF (l1.take 1000 ++ 10 :: l2.take 500) with
    | error f => exact more_second l1 l2 h1 h2 A hA f hF w hE
    | ok B => exact more_ok l1 l2 h1 h2 A B hA hF w hE
end Go.Proofs.YtogkchgjpflmjaaGreatDoor
namespace Go.Proofs.YtogkchgjpflmjaaGreatDoor.unitMore
open Go.ChangeShapes Go.WideShapes Go.ChangeAt Go.RowKit
open Go.ChangeMaps (open_string shut_string)
set_option linter.unusedVariables false
set_option maxRecDepth 100000
theorem str_bs (s : ByteArray) : str (bs s) = s := rfl
theorem moreW (s t : ByteArray) (w : World) (hE : Env w) (hs : s.size ≤ 9223372036854775807) (ht : t.size ≤ 9223372036854775807) :
    Calls Tryz.prog 7 #[.string s, .string t] w fun e w' => e = .returned (.bool true) ∧ Below w.heap.size w w' := more_any (bs s) (bs t) hs ht w hE
theorem contract (H : Type) (enc : TypeId × Value → H) (W : World) (base : Nat) (args : Array Value) (ds gs : List (DataW H)) (before : List MemPlace)
    (hval : ∀ (j : Nat) t v, Tryz.f7.params[j]? = some t → args[j]? = some v → Value.okWide Tryz.prog W .any base t v)
    (hW : DataW.Whole enc Tryz.prog Tryz.f7.params.toList Rows.unitMoreSpec.vars false W args.toList ds gs before) (hsz : (DataW.weightsEach Tryz.prog (Tryz.f7.params.toList ++ Rows.unitMoreSpec.plain.varTypes Tryz.prog) (ds ++ gs)).all (· ≤ reachBytes) = true) (hL : laidMetH Tryz.prog Rows.unitMoreRow.laid W) :
    Calls Tryz.prog 7 args W fun e W' => ∃ v, e = .returned v ∧ Rows.unitMoreSpec.post enc Tryz.prog Tryz.f7 false true false false W args v W' := by
  have hW' := hW
  obtain ⟨p, q, hA0, hV, rfl, hfz, hnd⟩ := hW
  have hA : DataW.TrodAll enc Tryz.prog W 0 (fun _ => true) true Tryz.f7.params.toList args.toList ds p := hA0
  rw [Tryz.params7] at hA hval hsz
  obtain ⟨v0, vs0, d0, ds0, p0, q0, hargs, rfl, rfl, h0, r0⟩ := trodAll_cons hA
  obtain ⟨v1, vs1, d1, ds1, p1, q1, rfl, rfl, rfl, h1, r1⟩ := trodAll_cons r0
  obtain ⟨rfl, rfl, rfl⟩ := trodAll_nil r1
  obtain rfl : args = #[v0, v1] := by cases args; simp_all
  obtain ⟨rfl, rfl⟩ := trodVars_none hV
  obtain ⟨x0, rfl, rfl, rfl, w0⟩ := open_string Tryz.underlying9 (hval 0 9 v0 rfl rfl) h0
  obtain ⟨x1, rfl, rfl, rfl, w1⟩ := open_string Tryz.underlying9 (hval 1 9 v1 rfl rfl) h1
  clear hA0
  simp only [List.append_nil] at hW'
  refine (moreW x0 x1 W (env_of_laid hL) (Nat.le_trans w0 (by decide)) (Nat.le_trans w1 (by decide))).mono fun e W' ⟨he, bel⟩ => ?_
  subst he
  exact ⟨_, rfl, _, _, _, [], _, [], hW', trodAll_mk1 (shut_bool Tryz.underlying4 _), (trodAll_cons_mk (shut_string Tryz.underlying9 w0) (trodAll_cons_mk (shut_string Tryz.underlying9 w1) trodAll_mk0)), rfl, bel.frame _, fun h => by cases h⟩
theorem reads (os : Os) {H : Type} (enc : TypeId × Value → H) : ∃ places, DataW.whole enc Tryz.prog ((laidWorld os).forCall (fun _ _ => 0) ⟨#[], #[.string ⟨#[]⟩, .string ⟨#[]⟩], []⟩).memory Tryz.f7.params.toList Rows.unitMoreSpec.vars false #[.string ⟨#[]⟩, .string ⟨#[]⟩].toList 8 = some ([.lit (.string []), .lit (.string [])], [], places) :=
  ⟨[], by kernel_rfl⟩
theorem lifted (os : Os) (started : os.Started) (H : Type) (enc : TypeId × Value → H) (F : Stop.Interp) :
    ReturnsInHanded {} Tryz.checked os 7 .any ((OpenSpec.ofChange Rows.unitMoreSpec).preRow enc Tryz.prog Tryz.f7 Rows.unitMoreRow.domain false Rows.unitMoreRow.laid) (((OpenSpec.ofChange Rows.unitMoreSpec).at F).post enc Tryz.prog Tryz.f7 false true false false) := by
  obtain ⟨places, hx⟩ := reads os enc
  refine returnsInHanded_of_row (C := Tryz.checked) (s := OpenSpec.ofChange Rows.unitMoreSpec) ownKnob_none started (by kernel_rfl) Tryz.func7
    (witness_row_at (enc := enc) (C := Tryz.checked) false (laidWorld os) #[.string ⟨#[]⟩, .string ⟨#[]⟩] rfl (by kernel_rfl) (by kernel_rfl) (by kernel_rfl)
      (OpenSpec.preRow_of_cond 8 hx (by kernel_rfl) (fun k hk => by cases hk) (by kernel_rfl) (laid_met os _))) ?_
  intro W base args ds gs before hval hW x1 x2 x3 hL _ _
  exact contract H enc W base args ds gs before hval hW x3 hL
theorem said : Rows.UnitMoreSaid :=
  OpenClaim.holds_of_cond 7 Tryz.f7 rfl rfl rfl rfl rfl rfl rfl ⟨rfl, rfl, rfl, rfl, rfl⟩ rfl rfl rfl rfl rfl (by kernel_rfl) Tryz.func7 (by kernel_rfl)
    (of_decide_eq_true (by kernel_rfl)) (by unfold Func.isWrapper; first | (rw [if_pos (by decide +kernel)]; kernel_rfl) | (rw [if_neg (by decide +kernel)]; exact ⟨rfl, rfl⟩))
    (fun os started H enc _ F => by rw [OpenClaim.pre_eq_preRow]; exact lifted os started H enc F)
theorem plain (f : FuncId) (fn : Func) (hf : Tryz.pinned.checked.prog.funcNamed "spandrel/spandrellaw9.UnitMore" = some f) (hfn : Tryz.pinned.checked.prog.funcs[f]? = some fn) :
    true = Tryz.pinned.checked.prog.looks [] ∧ ∀ (j : Nat) t, fn.params[j]? = some t → Tryz.pinned.checked.prog.wantsStandIn t = false := by
  obtain rfl : f = 7 := Option.some.inj ((show Tryz.prog.funcNamed "spandrel/spandrellaw9.UnitMore" = some 7 by kernel_rfl).symm.trans hf) |>.symm
  obtain rfl : fn = Tryz.f7 := (Option.some.inj (Tryz.func7.symm.trans hfn)).symm
  refine ⟨by kernel_rfl, fun j t ht => ?_⟩
  rw [Tryz.params7] at ht
  have hm := Array.mem_of_getElem? ht
  have h9 : Tryz.prog.wantsStandIn 9 = false := by kernel_rfl
  simp at hm
  subst hm
  exact h9
theorem card : Rows.UnitMoreCardSaid :=
  Claim7.holds_tied_plain_at .later [] _ _ _ _ said (fun _ h => by cases h) (by kernel_rfl) (fun _ h => by cases h) unitMore_row_tie rfl ⟨rfl, rfl⟩ (by kernel_rfl) rfl plain (by kernel_rfl)
end Go.Proofs.YtogkchgjpflmjaaGreatDoor.unitMore
namespace Go.Proofs.YtogkchgjpflmjaaGreatDoor
theorem unitMore_holds : Rows.UnitMoreCardSaid := unitMore.card
#print axioms unitMore_holds
end Go.Proofs.YtogkchgjpflmjaaGreatDoor

/- object: chapter 10's runs. -/
import Derived.Test.YtmndccbeddaphaaGreatDoorObn2
import Derived.Test.YtmndccbeddaphaaGreatDoorCp
namespace Go.Proofs.YtmndccbeddaphaaGreatDoor
open Go.ChangeShapes Go.WideShapes Go.ChangeAt Go.RowKit
set_option linter.unusedVariables false
set_option linter.unusedSimpArgs false
set_option maxRecDepth 100000

theorem made_bytes : ∃ M : Array Value, ∀ W : World, (Instr.makeSlice 22 (.int .i64 1048577) (.int .i64 1048577)).run Tryz.prog W = .ok (.slice (some ⟨W.heap.size, 0, none⟩) 1048577 1048577) (W.alloc (.cells M 5)) := by
  obtain ⟨i0, hi, hz0, hz1, hz2⟩ := info_parts O.Tryz.info5
  obtain ⟨M, hM⟩ : ∃ M, M = madeCells (Value.int .u8 0).cells ((1048577 : Int).toNat * i0.size) := ⟨_, rfl⟩
  refine ⟨M, fun W => ?_⟩
  have h := run_make (P := Tryz.prog) W 22 5 i0 (.int .u8 0) Tryz.underlying22 hi hz0 .i64 .i64 1048577 1048577 (by omega) (by omega) (by rw [hz2]; omega) (by omega)
  rw [← hM] at h
  simpa using h

/-- a unit with a global that nobody gives -/
def uG : UVal := ⟨[], [], [], [[97]]⟩
theorem wrN_G : WrN uG 31 := by
  refine ⟨31, .inr ⟨by simp [uG], .inr ⟨fun h => ?_, rfl⟩⟩, .inl ⟨by decide, rfl⟩⟩
  have := h.globs.2 [97] (by simp [uG])
  simp [UVal.names, uG, labN, sortS] at this
theorem heldU_G : HeldU uG := ⟨⟨Nat.zero_le _, fun x hx => by cases hx⟩, ⟨Nat.zero_le _, fun x hx => by cases hx⟩, ⟨Nat.zero_le _, fun x hx => by cases hx⟩, by decide⟩
theorem numU_G : NumU uG := ⟨fun x hx => (by cases hx), fun x hx => (by cases hx), fun x hx => (by cases hx)⟩
theorem write_G (w : World) (hE : Env w) : Calls Tryz.prog 9 #[.agg #[.slice none 0 0, .slice none 0 0, .slice none 0 0, .slice (some ⟨w.heap.size, 0, none⟩) 1 1]] (w.alloc (.cells #[.string ⟨#[97]⟩] 9)) fun e w' => Below w.heap.size w w' ∧ e = .returned (.tuple #[.slice none 0 0, .int .i64 31]) := by
  have hb := below_alloc w (.cells #[.string ⟨#[97]⟩] 9)
  have e1 := heap_alloc_new w (.cells #[.string ⟨#[97]⟩] 9)
  have hI : UnitIn (w.alloc (.cells #[.string ⟨#[97]⟩] 9)) none none none (some ⟨w.heap.size, 0, none⟩) uG := by
    refine ⟨.inl rfl, .inl rfl, .inl rfl, .inr ⟨_, _, rfl, by simp, fun i s hi => ?_⟩⟩
    match i, hi with
    | 0, hi =>
      cases hi
      exact one_read e1
    | i + 1, hi => simp [uG] at hi
  refine (write_is none 0 none 0 none 0 (some ⟨w.heap.size, 0, none⟩) 1 uG heldU_G numU_G _ (hE.below hb).tab hI).mono ?_
  rintro e w' ⟨hB, n, hn, h⟩
  obtain rfl := wrN_one hn wrN_G
  rcases h with ⟨_, h⟩ | ⟨h, _⟩
  · exact ⟨hb.trans (hB.mono hb.size), h⟩
  · cases h
theorem read_nil (w : World) (hE : Env w) : Calls Tryz.prog 10 #[.slice none 0 0] w fun e w' => Below w.heap.size w w' ∧ ∃ q, e = .returned (.tuple #[.agg uZ, .iface 66 (.pointer (some ⟨q, 0, none⟩))]) ∧ w'.heap[q]? = some (.cells #[.int .i64 0, .int .i64 15] 68 (0, 0)) :=
  read_bad (zs := []) 0 15 hE ⟨fun z hz => absurd hz (by simp), .inl rfl⟩ (fun x hx => by cases hx) (by decide) (Nat.le_refl _) (by decide +kernel)
theorem read_big (w : World) (a : Option Addr) : Calls Tryz.prog 10 #[.slice a 1048577 1048577] w fun e w' => Below w.heap.size w w' ∧ ∃ q, e = .returned (.tuple #[.agg uZ, .iface 66 (.pointer (some ⟨q, 0, none⟩))]) ∧ w'.heap[q]? = some (.cells #[.int .i64 0, .int .i64 3] 68 (0, 0)) := by
  refine (read_long w a 1048577 1048577 (by decide) (by unfold maxLen; decide)).mono ?_
  rintro e w' ⟨q, h1, h2, h3⟩
  exact ⟨h3, q, h1, h2⟩
/-- Read of 12 of the 13 -/
theorem read_12 (w : World) (g c : Nat) (hE : Env w) (hl : O.Lies w (some ⟨g, 0, none⟩) z13) (ha : g < w.heap.size) (hc : 13 ≤ c) : Calls Tryz.prog 10 #[.slice (some ⟨g, 0, none⟩) 12 c] w fun e w' => Below w.heap.size w w' ∧ ∃ q, e = .returned (.tuple #[.agg uZ, .iface 66 (.pointer (some ⟨q, 0, none⟩))]) ∧ w'.heap[q]? = some (.cells #[.int .i64 12, .int .i64 10] 68 (0, 0)) := by
  have hl2 : O.Lies w (some ⟨g, 0, none⟩) (z13.take 12) := by
    refine ⟨O.areBytes_take _ hl.1 12, ?_⟩
    rcases hl.2 with h | ⟨b, off, h, hcl⟩
    · cases h
    · refine .inr ⟨b, off, h, fun i hi => ?_⟩
      have hi' : i < 12 := by simpa [z13] using hi
      rw [hcl i (by simp [z13]; omega)]
      congr 2
      rw [List.getD_eq_getElem?_getD, List.getD_eq_getElem?_getD, List.getElem?_take, if_pos hi']
  exact read_bad (zs := z13.take 12) 12 10 hE hl2 (fun x hx => by cases hx; exact ha) (by decide) (by simp [z13]; omega) (by decide +kernel)
/-- Read of the 13 and one more -/
theorem read_14 (w : World) (lo : Nat) (a : Option Addr) (c : Nat) (hE : Env w) (h : w.ownsRow lo 5 1 (.slice a 14 c) 14 (O.cellsOf z13 ++ [.int .u8 0])) : Calls Tryz.prog 10 #[.slice a 14 c] w fun e w' => Below w.heap.size w w' ∧ ∃ q, e = .returned (.tuple #[.agg uZ, .iface 66 (.pointer (some ⟨q, 0, none⟩))]) ∧ w'.heap[q]? = some (.cells #[.int .i64 13, .int .i64 14] 68 (0, 0)) := by
  have hg : O.Got w lo a c (z13 ++ [0]) := (by have e : O.cellsOf (z13 ++ [0]) = O.cellsOf z13 ++ [.int .u8 0] := rfl; unfold O.Got O.Own; rw [e]; exact h)
  obtain ⟨l1, l2, l3⟩ := got_lies hg (by intro z hz; simp [z13] at hz; omega)
  have q1 : rdBad (z13 ++ [0]) = some (((13 : Nat) : Int), ((14 : Nat) : Int)) := by decide +kernel
  have q2 := read_bad (zs := z13 ++ [0]) 13 14 hE l1 l2 (by decide) l3 q1
  exact q2
theorem rfd (n k : Nat) (hn : n ≤ 1000000) (hk : k ≤ 99) (hk0 : k ≠ 0) (w : World) (q : Nat) (hE : Env w) (hq : w.heap[q]? = some (.cells #[.int .i64 (n : Int), .int .i64 (k : Int)] 68 (0, 0))) : Calls Tryz.prog 11 #[.iface 66 (.pointer (some ⟨q, 0, none⟩)), .agg #[.int .i64 (n : Int), .int .i64 (k : Int)]] w fun e w' => e = .returned (.bool true) ∧ Below w.heap.size w w' := refused_any q n k hn hk hk0 w hE.pow hq
theorem keepB2 {w w' : World} {g : Nat} {x : Obj} (h : w.heap[g]? = some x) (hb : Below w.heap.size w w') : w'.heap[g]? = some x := (hb.block g (Array.getElem?_eq_some_iff.1 h).1).trans h
theorem bchn {w w1 w2 : World} (h1 : Below w.heap.size w w1) (h2 : Below w1.heap.size w1 w2) : Below w.heap.size w w2 := h1.trans (h2.mono h1.size)

set_option maxHeartbeats 16000000 in
theorem numbersW (w : World) (hE : Env w) : Calls Tryz.prog 3 #[] w fun e w' => e = .returned (.bool true) ∧ Below w.heap.size w w' := by
  obtain ⟨i0, hi, hz0, hz1, hz2⟩ := info_parts O.Tryz.info5
  obtain ⟨M, hM⟩ := made_bytes
  have h9 := Hid.intro (write_E w hE)
  replace hE := Hid.intro hE
  go_enter Tryz.func3, Tryz.ntmps3
  go_upto_region 4 with (go_at_call 9; (with_reducible refine (h9.out).mono ?_); rintro e v1 ⟨b1, a1, c1, rfl, g1⟩; replace b1 := Hid.intro b1; replace g1 := Hid.intro g1; clear h9)
  all_goals first | omega | skip
  obtain ⟨gb, rfl⟩ : ∃ gb, a1 = some ⟨gb, 0, none⟩ := by
    rcases g1.out.2 with ⟨h, h0⟩ | ⟨g, cap, cur, h, _⟩
    · exact absurd h0 (by decide)
    · cases h; exact ⟨g, rfl⟩
  have hE1 := Hid.intro (hE.out.below b1.out)
  obtain ⟨l1, l2, l3⟩ := got_lies g1.out z13_bytes
  have lg : gb < v1.heap.size := l2 _ rfl
  have l3' : 13 ≤ c1 := l3
  have h12 := Hid.intro (read_12 v1 gb c1 hE1.out l1 lg l3')
  have l12 : 12 ≤ c1 := by omega
  have l12' : (12 : Int) ≤ (c1 : Int) := by omega
  clear l1 l2 l3
  go_upto_region 5 with (go_at_call 10; (with_reducible refine (h12.out).mono ?_); rintro e x2 ⟨b0, qx2, rfl, hqx2⟩; replace b0 := Hid.intro b0; replace hqx2 := Hid.intro hqx2; clear h12)
  all_goals first | omega | skip
  have b2 := Hid.intro (bchn b0.out (below_alloc x2 (.cells uZ 30)))
  have hq2 := Hid.intro (keepB hqx2.out (.cells uZ 30))
  have hE2 := Hid.intro (hE1.out.below b2.out)
  clear b0 hqx2
  generalize x2.alloc (.cells uZ 30) = v2 at *
  have o1 := own_void v2 5 1
  have g2 := own_keptB g1.out b2.out
  have s2 : Hid (Src (v2.alloc (.cells #[] 5)) (.slice (some ⟨gb, 0, none⟩) 13 c1) 13 (O.cellsOf z13)) := own_src (own_keptB g2 (below_alloc v2 (.cells #[] 5)))
  have hbz : v2.heap.size ≤ (v2.alloc (.cells #[] 5)).heap.size := by simp
  replace o1 := Hid.intro o1
  have hone := O.cellsOf_one z13
  have hcl : (O.cellsOf z13).length = 13 * 1 := rfl
  clear g2
  generalize hYC : O.cellsOf z13 = YC at *
  replace hYC := Hid.intro hYC
  go_upto_region 6 with (first
    | (at_builtin; (refine wpList_app rfl (.tmp 34) (.tmp 35) 22 rfl v2.heap.size 5 i0 _ 1 1 Tryz.underlying22 hi hz0 hz1 hz2 rfl (by decide) (.slice (some ⟨v2.heap.size, 0, none⟩) 0 0) 0 [] rfl o1.out (.slice (some ⟨gb, 0, none⟩) 13 c1) 13 YC rfl s2.out hcl hone (by unfold maxLen; decide) (by decide) hbz ?_); intro v' x3 ho3 hg3 hw3; replace ho3 : x3.ownsRow v2.heap.size 5 1 v' 13 YC := (by simpa using ho3); obtain ⟨g3, c3, rfl⟩ := Joins.ownsRow_form ho3 (by decide); have b3a := Hid.intro (Below.grown (below_alloc v2 (.cells #[] 5)) hg3 (by simp) (fun k hk => (o1.out.lt k hk).1)); have ho4 := Hid.intro (own_keptB ho3 (below_alloc x3 (.cells #[.int .u8 0] 5))); have s4 : Hid (Src (x3.alloc (.cells #[.int .u8 0] 5)) (.slice (some ⟨x3.heap.size, 0, none⟩) 1 1) 1 [.int .u8 0]) := (.inr ⟨_, _, rfl, cells_new x3 #[.int .u8 0] 5⟩); have hb4 : v2.heap.size ≤ (x3.alloc (.cells #[.int .u8 0] 5)).heap.size := (by have := b3a.out.size; simp; omega); clear ho3 hg3 hw3 o1 s2)
    | (at_builtin; (refine wpList_app rfl (.tmp 36) (.tmp 37) 22 rfl v2.heap.size 5 i0 _ 1 1 Tryz.underlying22 hi hz0 hz1 hz2 rfl (by decide) (.slice (some ⟨g3, 0, none⟩) 13 c3) 13 YC rfl ho4.out (.slice (some ⟨x3.heap.size, 0, none⟩) 1 1) 1 [.int .u8 0] rfl s4.out rfl (by simp [Value.oneCell']) (by unfold maxLen; decide) (by decide) hb4 ?_); intro v' x4 ho5 hg5 hw5; replace ho5 : x4.ownsRow v2.heap.size 5 1 v' 14 (YC ++ [.int .u8 0]) := ho5; obtain ⟨g4, c4, rfl⟩ := Joins.ownsRow_form ho5 (by decide); have b3b := Hid.intro (Below.grown (b3a.out.trans ((below_alloc x3 (.cells #[.int .u8 0] 5)).mono b3a.out.size)) hg5 (by have := b3a.out.size; simp; omega) (fun k hk => (ho4.out.lt k hk).1)); have h14 := Hid.intro (read_14 x4 v2.heap.size (some ⟨g4, 0, none⟩) c4 (hE2.out.below b3b.out) (by rw [hYC.out]; exact ho5)); clear ho5 hg5 hw5 ho4 s4 b3a)
    | (go_at_call 10; (with_reducible refine (h14.out).mono ?_); rintro e x5 ⟨b0, qx5, rfl, hqx5⟩; replace b0 := Hid.intro (bchn b3b.out b0); replace hqx5 := Hid.intro hqx5; clear h14))
  all_goals first | omega | skip
  have b3 := Hid.intro (bchn b0.out (below_alloc x5 (.cells uZ 30)))
  have hq3 := Hid.intro (keepB hqx5.out (.cells uZ 30))
  have hE3 := Hid.intro (hE2.out.below b3.out)
  clear b0 hqx5
  generalize x5.alloc (.cells uZ 30) = v3 at *
  have hnl := Hid.intro (read_nil v3 hE3.out)
  go_upto_region 7 with (go_at_call 10; (with_reducible refine (hnl.out).mono ?_); rintro e x6 ⟨b0, qx6, rfl, hqx6⟩; replace b0 := Hid.intro b0; replace hqx6 := Hid.intro hqx6; clear hnl)
  all_goals first | omega | skip
  have b4 := Hid.intro (bchn b0.out (below_alloc x6 (.cells uZ 30)))
  have hq4 := Hid.intro (keepB hqx6.out (.cells uZ 30))
  have hE4 := Hid.intro (hE3.out.below b4.out)
  clear b0 hqx6
  generalize x6.alloc (.cells uZ 30) = v4 at *
  have hwg := Hid.intro (write_G v4 hE4.out)
  go_upto_region 8 with (go_at_call 9; (with_reducible refine (hwg.out).mono ?_); rintro e v5 ⟨b5, rfl⟩; replace b5 := Hid.intro b5; clear hwg)
  all_goals first | omega | skip
  have hE5 := Hid.intro (hE4.out.below b5.out)
  have k6 := Lib.run_convert_bytes_const (P := Tryz.prog) v5 22 5 #[.int .u8 83, .int .u8 80, .int .u8 65, .int .u8 78, .int .u8 1, .int .u8 1, .int .u8 0, .int .u8 9] 8 8 Tryz.underlying22 Tryz.underlying5
  have hl6 : Hid (Calls Tryz.prog 10 #[.slice (some ⟨v5.heap.size, 0, none⟩) 8 8] (v5.alloc (.cells #[.int .u8 83, .int .u8 80, .int .u8 65, .int .u8 78, .int .u8 1, .int .u8 1, .int .u8 0, .int .u8 9] 5 (8, 8 + 1))) fun e w' => Below v5.heap.size v5 w' ∧ ∃ q, e = .returned (.tuple #[.agg uZ, .iface 66 (.pointer (some ⟨q, 0, none⟩))]) ∧ w'.heap[q]? = some (.cells #[.int .i64 7, .int .i64 31] 68 (0, 0))) := read_lit v5 [83, 80, 65, 78, 1, 1, 0, 9] (8, 8 + 1) 7 31 hE5.out (by intro z hz; simp at hz; omega) (by decide) (by decide +kernel)
  go_upto_region 9 with (go_at_call 10; (with_reducible refine (hl6.out).mono ?_); rintro e x7 ⟨b0, qx7, rfl, hqx7⟩; replace b0 := Hid.intro b0; replace hqx7 := Hid.intro hqx7; clear hl6)
  all_goals first | omega | skip
  have b6 := Hid.intro (bchn b0.out (below_alloc x7 (.cells uZ 30)))
  have hq6 := Hid.intro (keepB hqx7.out (.cells uZ 30))
  have hE6 := Hid.intro (hE5.out.below b6.out)
  clear b0 hqx7
  generalize x7.alloc (.cells uZ 30) = v6 at *
  clear k6
  have k7 := Lib.run_convert_bytes_const (P := Tryz.prog) v6 22 5 #[.int .u8 83, .int .u8 80, .int .u8 65, .int .u8 78, .int .u8 1, .int .u8 1, .int .u8 32] 7 7 Tryz.underlying22 Tryz.underlying5
  have hl7 : Hid (Calls Tryz.prog 10 #[.slice (some ⟨v6.heap.size, 0, none⟩) 7 7] (v6.alloc (.cells #[.int .u8 83, .int .u8 80, .int .u8 65, .int .u8 78, .int .u8 1, .int .u8 1, .int .u8 32] 5 (7, 7 + 1))) fun e w' => Below v6.heap.size v6 w' ∧ ∃ q, e = .returned (.tuple #[.agg uZ, .iface 66 (.pointer (some ⟨q, 0, none⟩))]) ∧ w'.heap[q]? = some (.cells #[.int .i64 5, .int .i64 4] 68 (0, 0))) := read_lit v6 [83, 80, 65, 78, 1, 1, 32] (7, 7 + 1) 5 4 hE6.out (by intro z hz; simp at hz; omega) (by decide) (by decide +kernel)
  go_upto_region 10 with (go_at_call 10; (with_reducible refine (hl7.out).mono ?_); rintro e x8 ⟨b0, qx8, rfl, hqx8⟩; replace b0 := Hid.intro b0; replace hqx8 := Hid.intro hqx8; clear hl7)
  all_goals first | omega | skip
  have b7 := Hid.intro (bchn b0.out (below_alloc x8 (.cells uZ 30)))
  have hq7 := Hid.intro (keepB hqx8.out (.cells uZ 30))
  have hE7 := Hid.intro (hE6.out.below b7.out)
  clear b0 hqx8
  generalize x8.alloc (.cells uZ 30) = v7 at *
  clear k7
  have hbg := Hid.intro (read_big (v7.alloc (.cells M 5)) (some ⟨v7.heap.size, 0, none⟩))
  go_upto_region 11 with (go_at_call 10; (with_reducible refine (hbg.out).mono ?_); rintro e x9 ⟨b0, qx9, rfl, hqx9⟩; replace b0 := Hid.intro (bchn (below_alloc v7 (.cells M 5)) b0); replace hqx9 := Hid.intro hqx9; clear hbg)
  all_goals first | omega | skip
  have b8 := Hid.intro (bchn b0.out (below_alloc x9 (.cells uZ 30)))
  have hq8 := Hid.intro (keepB hqx9.out (.cells uZ 30))
  have hE8 := Hid.intro (hE7.out.below b8.out)
  clear b0 hqx9
  generalize x9.alloc (.cells uZ 30) = v8 at *
  have k9 := Lib.run_convert_bytes_const (P := Tryz.prog) v8 22 5 #[.int .u8 83, .int .u8 80, .int .u8 65, .int .u8 78, .int .u8 1, .int .u8 1, .int .u8 0, .int .u8 2, .int .u8 0] 9 9 Tryz.underlying22 Tryz.underlying5
  have hl9 : Hid (Calls Tryz.prog 10 #[.slice (some ⟨v8.heap.size, 0, none⟩) 9 9] (v8.alloc (.cells #[.int .u8 83, .int .u8 80, .int .u8 65, .int .u8 78, .int .u8 1, .int .u8 1, .int .u8 0, .int .u8 2, .int .u8 0] 5 (9, 9 + 1))) fun e w' => Below v8.heap.size v8 w' ∧ ∃ q, e = .returned (.tuple #[.agg uZ, .iface 66 (.pointer (some ⟨q, 0, none⟩))]) ∧ w'.heap[q]? = some (.cells #[.int .i64 9, .int .i64 10] 68 (0, 0))) := read_lit v8 [83, 80, 65, 78, 1, 1, 0, 2, 0] (9, 9 + 1) 9 10 hE8.out (by intro z hz; simp at hz; omega) (by decide) (by decide +kernel)
  go_upto_region 12 with (go_at_call 10; (with_reducible refine (hl9.out).mono ?_); rintro e xa ⟨b0, qxa, rfl, hqxa⟩; replace b0 := Hid.intro b0; replace hqxa := Hid.intro hqxa; clear hl9)
  all_goals first | omega | skip
  have b9 := Hid.intro (bchn b0.out (below_alloc xa (.cells uZ 30)))
  have hq9 := Hid.intro (keepB hqxa.out (.cells uZ 30))
  have hE9 := Hid.intro (hE8.out.below b9.out)
  clear b0 hqxa
  generalize xa.alloc (.cells uZ 30) = v9 at *
  clear k9
  have p2 := Hid.intro (keepB2 (keepB2 (keepB2 (keepB2 (keepB2 (keepB2 (keepB2 hq2.out b3.out) b4.out) b5.out) b6.out) b7.out) b8.out) b9.out)
  have p3 := Hid.intro (keepB2 (keepB2 (keepB2 (keepB2 (keepB2 (keepB2 hq3.out b4.out) b5.out) b6.out) b7.out) b8.out) b9.out)
  have p4 := Hid.intro (keepB2 (keepB2 (keepB2 (keepB2 (keepB2 hq4.out b5.out) b6.out) b7.out) b8.out) b9.out)
  have p6 := Hid.intro (keepB2 (keepB2 (keepB2 hq6.out b7.out) b8.out) b9.out)
  have p7 := Hid.intro (keepB2 (keepB2 hq7.out b8.out) b9.out)
  have p8 := Hid.intro (keepB2 hq8.out b9.out)
  have p9 := hq9
  have hBall := Hid.intro (bchn (bchn (bchn (bchn (bchn (bchn (bchn (bchn b1.out b2.out) b3.out) b4.out) b5.out) b6.out) b7.out) b8.out) b9.out)
  clear hq2 hq3 hq4 hq6 hq7 hq8 hq9 b1 b2 b3 b4 b5 b6 b7 b8 b9 hE1 hE2 hE3 hE4 hE5 hE6 hE7 hE8 hM
  have r2 : Hid (∀ w1, Below v9.heap.size v9 w1 → Calls Tryz.prog 11 #[.iface 66 (.pointer (some ⟨qx2, 0, none⟩)), .agg #[.int .i64 12, .int .i64 10]] w1 fun e w' => e = .returned (.bool true) ∧ Below v9.heap.size v9 w') := fun w1 h1 => by
    refine (rfd 12 10 (by decide) (by decide) (by decide) w1 qx2 (hE9.out.below h1) (keepB2 p2.out h1)).mono ?_
    rintro e w2 ⟨rfl, h2⟩
    exact ⟨rfl, bchn h1 h2⟩
  have r3 : Hid (∀ w1, Below v9.heap.size v9 w1 → Calls Tryz.prog 11 #[.iface 66 (.pointer (some ⟨qx5, 0, none⟩)), .agg #[.int .i64 13, .int .i64 14]] w1 fun e w' => e = .returned (.bool true) ∧ Below v9.heap.size v9 w') := fun w1 h1 => by
    refine (rfd 13 14 (by decide) (by decide) (by decide) w1 qx5 (hE9.out.below h1) (keepB2 p3.out h1)).mono ?_
    rintro e w2 ⟨rfl, h2⟩
    exact ⟨rfl, bchn h1 h2⟩
  have r4 : Hid (∀ w1, Below v9.heap.size v9 w1 → Calls Tryz.prog 11 #[.iface 66 (.pointer (some ⟨qx6, 0, none⟩)), .agg #[.int .i64 0, .int .i64 15]] w1 fun e w' => e = .returned (.bool true) ∧ Below v9.heap.size v9 w') := fun w1 h1 => by
    refine (rfd 0 15 (by decide) (by decide) (by decide) w1 qx6 (hE9.out.below h1) (keepB2 p4.out h1)).mono ?_
    rintro e w2 ⟨rfl, h2⟩
    exact ⟨rfl, bchn h1 h2⟩
  have r6 : Hid (∀ w1, Below v9.heap.size v9 w1 → Calls Tryz.prog 11 #[.iface 66 (.pointer (some ⟨qx7, 0, none⟩)), .agg #[.int .i64 7, .int .i64 31]] w1 fun e w' => e = .returned (.bool true) ∧ Below v9.heap.size v9 w') := fun w1 h1 => by
    refine (rfd 7 31 (by decide) (by decide) (by decide) w1 qx7 (hE9.out.below h1) (keepB2 p6.out h1)).mono ?_
    rintro e w2 ⟨rfl, h2⟩
    exact ⟨rfl, bchn h1 h2⟩
  have r7 : Hid (∀ w1, Below v9.heap.size v9 w1 → Calls Tryz.prog 11 #[.iface 66 (.pointer (some ⟨qx8, 0, none⟩)), .agg #[.int .i64 5, .int .i64 4]] w1 fun e w' => e = .returned (.bool true) ∧ Below v9.heap.size v9 w') := fun w1 h1 => by
    refine (rfd 5 4 (by decide) (by decide) (by decide) w1 qx8 (hE9.out.below h1) (keepB2 p7.out h1)).mono ?_
    rintro e w2 ⟨rfl, h2⟩
    exact ⟨rfl, bchn h1 h2⟩
  have r8 : Hid (∀ w1, Below v9.heap.size v9 w1 → Calls Tryz.prog 11 #[.iface 66 (.pointer (some ⟨qx9, 0, none⟩)), .agg #[.int .i64 0, .int .i64 3]] w1 fun e w' => e = .returned (.bool true) ∧ Below v9.heap.size v9 w') := fun w1 h1 => by
    refine (rfd 0 3 (by decide) (by decide) (by decide) w1 qx9 (hE9.out.below h1) (keepB2 p8.out h1)).mono ?_
    rintro e w2 ⟨rfl, h2⟩
    exact ⟨rfl, bchn h1 h2⟩
  have r9 : Hid (∀ w1, Below v9.heap.size v9 w1 → Calls Tryz.prog 11 #[.iface 66 (.pointer (some ⟨qxa, 0, none⟩)), .agg #[.int .i64 9, .int .i64 10]] w1 fun e w' => e = .returned (.bool true) ∧ Below v9.heap.size v9 w') := fun w1 h1 => by
    refine (rfd 9 10 (by decide) (by decide) (by decide) w1 qxa (hE9.out.below h1) (keepB2 p9.out h1)).mono ?_
    rintro e w2 ⟨rfl, h2⟩
    exact ⟨rfl, bchn h1 h2⟩
  go_wp2_with (first
    | (go_at_call 11; (with_reducible refine (r2.out _ (Below.refl _ v9)).mono ?_); rintro e y2 ⟨rfl, c2⟩; replace c2 := Hid.intro c2; clear r2)
    | (go_at_call 11; (with_reducible refine (r3.out _ c2.out).mono ?_); rintro e y3 ⟨rfl, c3⟩; replace c3 := Hid.intro c3; clear r3)
    | (go_at_call 11; (with_reducible refine (r4.out _ c3.out).mono ?_); rintro e y4 ⟨rfl, c4⟩; replace c4 := Hid.intro c4; clear r4)
    | (go_at_call 11; (with_reducible refine (r6.out _ c4.out).mono ?_); rintro e y6 ⟨rfl, c6⟩; replace c6 := Hid.intro c6; clear r6)
    | (go_at_call 11; (with_reducible refine (r7.out _ c6.out).mono ?_); rintro e y7 ⟨rfl, c7⟩; replace c7 := Hid.intro c7; clear r7)
    | (go_at_call 11; (with_reducible refine (r8.out _ c7.out).mono ?_); rintro e y8 ⟨rfl, c8⟩; replace c8 := Hid.intro c8; clear r8)
    | (go_at_call 11; (with_reducible refine (r9.out _ c8.out).mono ?_); rintro e y9 ⟨rfl, c9⟩; replace c9 := Hid.intro c9; clear r9)
    | (go_at_call 12; (with_reducible refine (known_is _ (hE9.out.below c9.out)).mono ?_); rintro e yk ⟨rfl, ck⟩; replace ck := Hid.intro (bchn c9.out ck)))
  all_goals first | omega | skip
  go_ret
  exact ⟨rfl, bchn hBall.out ck.out⟩
end Go.Proofs.YtmndccbeddaphaaGreatDoor

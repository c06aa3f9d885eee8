/- decode.Decode, by shape. -/
import Derived.Test.YthboapfbgdcdoaaDoorParts
namespace Go.Proofs.YthboapfbgdcdoaaDoor
open Go.ChangeShapes Go.WideShapes Go.ChangeAt Go.RowKit
set_option linter.unusedVariables false
set_option maxRecDepth 100000

theorem froz_new (w : World) (cs : Array Value) (T : TypeId) (j : Nat) : (w.alloc (.cells cs T)).frozen? ⟨w.heap.size, j, none⟩ = false := frozen_of_row _ _ j cs T (heap_alloc_new w _)
theorem froz_below {w w' : World} {g B : Nat} (hb : Below B w w') (hg : g < B) (h : ∀ j, w.frozen? ⟨g, j, none⟩ = false) (j : Nat) : w'.frozen? ⟨g, j, none⟩ = false := (World.frozen?_of_block (a := ⟨g, j, none⟩) (hb.block g hg)).trans (h j)
theorem lies_sub {w : World} {b off : Nat} {zs : List Int} (h : Lies w (some ⟨b, off, none⟩) zs) (i n : Nat) : Lies w (some ⟨b, off + i, none⟩) ((zs.drop i).take n) := by
  refine ⟨areBytes_take _ (areBytes_drop _ h.1 i) n, ?_⟩
  rcases h.2 with rfl | ⟨b', off', ha, hc⟩
  · exact .inl (by simp)
  · cases ha
    refine .inr ⟨b, off + i, rfl, fun j hj => ?_⟩
    simp only [List.length_take, List.length_drop] at hj
    have := hc (i + j) (by omega)
    rw [Nat.add_assoc, this]
    congr 2
    rw [List.getD_eq_getElem?_getD, List.getD_eq_getElem?_getD, List.getElem?_take_of_lt (by omega), List.getElem?_drop]

/-- what stands when the operation is known: the block of the instruction, the block of the operation, the bytes -/
structure Ready (w W : World) (g7 gop : Nat) (OP F : Int) (NM : List UInt8) (BY SH : Int) (b off : Nat) (zs : List Int) : Prop where
  i : InstAt W g7 OP 0 0 0 F
  o : OpAt W gop NM BY SH
  h : Held w W g7
  l : Lies W (some ⟨b, off, none⟩) zs
  f : ∀ j, W.frozen? ⟨g7, j, none⟩ = false
  ne : gop ≠ g7
  bw : b < w.heap.size

theorem ready_of {w w1 w3 : World} {OP F : Int} {NM : List UInt8} {BY SH : Int} {b off : Nat} {zs : List Int} (hT : Tab w) (hl : Lies w (some ⟨b, off, none⟩) zs) (hb : b < w.heap.size)
    (h1 : Below (w.alloc (.cells #[.int .i64 0, .int .i64 0, .int .i64 0, .int .i32 0, .int .i64 0] 26)).heap.size (w.alloc (.cells #[.int .i64 0, .int .i64 0, .int .i64 0, .int .i32 0, .int .i64 0] 26)) w1)
    (h3 : Below (w1.alloc (.cells #[.int .i64 OP, .int .i64 0, .int .i64 0, .int .i32 0, .int .i64 F] 26)).heap.size (w1.alloc (.cells #[.int .i64 OP, .int .i64 0, .int .i64 0, .int .i32 0, .int .i64 F] 26)) w3) :
    Ready w (w3.alloc (.cells #[.string (str NM), .int .u8 BY, .int .i64 SH] 51)) w1.heap.size w3.heap.size OP F NM BY SH b off zs := by
  have s1 := h1.size
  have s3 := h3.size
  simp at s1 s3
  have hsz := hT.size
  have hA := below_alloc w3 (.cells #[.string (str NM), .int .u8 BY, .int .i64 SH] 51)
  have hB := chain2 h3 hA
  have hC : Below w.heap.size w (w3.alloc (.cells #[.string (str NM), .int .u8 BY, .int .i64 SH] 51)) := chain2 (chain2 (chain2 (below_alloc w _) h1) (below_alloc w1 _)) hB
  have hD := chain2 (chain2 h1 (below_alloc w1 (.cells #[.int .i64 OP, .int .i64 0, .int .i64 0, .int .i32 0, .int .i64 F] 26))) hB
  refine ⟨(inst_new w1 OP 0 0 0 F).below hB (inst_new w1 OP 0 0 0 F).lt, opAt_new w3 NM BY SH, ⟨(zblk_new w).below hD (by simp), hC, hT.below hC hsz, by omega, by omega, by omega⟩, hl.below hC, froz_below hB (by simp) (froz_new w1 _ 26), by omega, hb⟩

set_option maxHeartbeats 4000000 in
theorem dec_1_0 (b off cap m k : Nat) (zs : List Int) (OP : Int) (NM : List UInt8) (BY : Int) (w : World) (V : Value) (hm : m = zs.length) (hT : Tab w) (hl : Lies w (some ⟨b, off, none⟩) zs) (hbw : b < w.heap.size) (hcap : m ≤ cap) (hml : m ≤ 140737488355328) (hk : (k : Int) + 1 ≤ m)
    (hHd : ∀ W, Tab W → Lies W (some ⟨b, off, none⟩) zs → Calls Tryd.prog 17 #[.slice (some ⟨b, off, none⟩) m cap, .int .i64 (k : Int)] W fun e w' => e = .returned (.tuple #[instV OP 0 0 0 0, .int .i64 1, .int .i64 0]) ∧ Below W.heap.size W w')
    (hAt : ∀ W, Tab W → Calls Tryd.prog 18 #[.int .i64 OP] W fun e w' => e = .returned (.tuple #[opV NM BY 1, .bool true]) ∧ Below W.heap.size W w')
    (hV : V = endV OP (fA 1 ((zs.drop (k + 1)).take 0)) (fB 1 ((zs.drop (k + 1)).take 0)) (fN 1 0 ((zs.drop (k + 1)).take 0)) 0 1) :
    Calls Tryd.prog 8 #[.slice (some ⟨b, off, none⟩) m cap, .int .i64 (k : Int)] w fun e w' => e = .returned V ∧ Below w.heap.size w w' := by
  have hTH := Hid.intro hT
  have hlH := Hid.intro hl
  have hHdH := Hid.intro hHd
  have hAtH := Hid.intro hAt
  have hVH := Hid.intro hV
  have hmH := Hid.intro hm
  have hT0 := Hid.intro (hT.alloc (.cells #[.int .i64 0, .int .i64 0, .int .i64 0, .int .i32 0, .int .i64 0] 26))
  have hl0 := Hid.intro (hl.below (below_alloc w (.cells #[.int .i64 0, .int .i64 0, .int .i64 0, .int .i32 0, .int .i64 0] 26)))
  clear hT hl hHd hAt hV hm
  go_enter Tryd.func8, Tryd.ntmps8
  go_wp2
  refine wp_scope_at (Q := Q8 V w) Tryd.f8 rfl ?_
  go_wp2_with (first
    | (go_at_call 17; (with_reducible refine (hHdH.out _ hT0.out hl0.out).mono ?_); rintro e w1 ⟨rfl, hb1⟩; have hT1 := Hid.intro (hT0.out.below hb1 hT0.out.size); replace hb1 := Hid.intro hb1; obtain ⟨a0, a1, a2, a3, a4, _⟩ := inst_new w1 OP 0 0 0 0)
    | (go_at_call 18; (with_reducible refine (hAtH.out _ (hT1.out.alloc _)).mono ?_); rintro e w3 ⟨rfl, hb3⟩; have hR := Hid.intro (ready_of (NM := NM) (BY := BY) (SH := 1) hTH.out hlH.out hbw hb1.out hb3); clear hb3; obtain ⟨o0, o1, o2, _⟩ := hR.out.o; obtain ⟨i0, i1, i2, i3, i4, _⟩ := hR.out.i; have ff := hR.out.f))
  all_goals go_step3
  all_goals exact whole_lands OP 0 0 0 0 1 w _ _ V hVH.out hR.out.h.z hR.out.i hR.out.h.ne hR.out.h.b hR.out.h.t (by omega)

set_option maxHeartbeats 4000000 in
theorem dec_4_0 (b off cap m k : Nat) (zs : List Int) (OP : Int) (NM : List UInt8) (BY : Int) (w : World) (V : Value) (hm : m = zs.length) (hT : Tab w) (hl : Lies w (some ⟨b, off, none⟩) zs) (hbw : b < w.heap.size) (hcap : m ≤ cap) (hml : m ≤ 140737488355328) (hk : (k : Int) + 2 ≤ m)
    (hHd : ∀ W, Tab W → Lies W (some ⟨b, off, none⟩) zs → Calls Tryd.prog 17 #[.slice (some ⟨b, off, none⟩) m cap, .int .i64 (k : Int)] W fun e w' => e = .returned (.tuple #[instV OP 0 0 0 0, .int .i64 2, .int .i64 0]) ∧ Below W.heap.size W w')
    (hAt : ∀ W, Tab W → Calls Tryd.prog 18 #[.int .i64 OP] W fun e w' => e = .returned (.tuple #[opV NM BY 4, .bool true]) ∧ Below W.heap.size W w')
    (hV : V = endV OP (fA 4 ((zs.drop (k + 1)).take 1)) (fB 4 ((zs.drop (k + 1)).take 1)) (fN 4 0 ((zs.drop (k + 1)).take 1)) 0 2) :
    Calls Tryd.prog 8 #[.slice (some ⟨b, off, none⟩) m cap, .int .i64 (k : Int)] w fun e w' => e = .returned V ∧ Below w.heap.size w w' := by
  have hTH := Hid.intro hT
  have hlH := Hid.intro hl
  have hHdH := Hid.intro hHd
  have hAtH := Hid.intro hAt
  have hVH := Hid.intro hV
  have hmH := Hid.intro hm
  have hT0 := Hid.intro (hT.alloc (.cells #[.int .i64 0, .int .i64 0, .int .i64 0, .int .i32 0, .int .i64 0] 26))
  have hl0 := Hid.intro (hl.below (below_alloc w (.cells #[.int .i64 0, .int .i64 0, .int .i64 0, .int .i32 0, .int .i64 0] 26)))
  clear hT hl hHd hAt hV hm
  have hcapM : 1 ≤ cap - (k + 1) := by omega
  have hM : k + 2 - (k + 1) = 1 := by omega
  have hl3 : Hid (((zs.drop (k + 1)).take 1).length = 1) := by show _ = _; have := hmH.out; simp; omega
  have hby : Hid (AreBytes ((zs.drop (k + 1)).take 1)) := areBytes_take _ (areBytes_drop _ hlH.out.1 _) _
  have hMH := Hid.intro hM
  have hcH := Hid.intro hcapM
  clear hM hcapM
  go_enter Tryd.func8, Tryd.ntmps8
  go_wp2
  refine wp_scope_at (Q := Q8 V w) Tryd.f8 rfl ?_
  go_wp2_with (first
    | (go_at_call 17; (with_reducible refine (hHdH.out _ hT0.out hl0.out).mono ?_); rintro e w1 ⟨rfl, hb1⟩; have hT1 := Hid.intro (hT0.out.below hb1 hT0.out.size); replace hb1 := Hid.intro hb1; obtain ⟨a0, a1, a2, a3, a4, _⟩ := inst_new w1 OP 0 0 0 0)
    | (go_at_call 18; (with_reducible refine (hAtH.out _ (hT1.out.alloc _)).mono ?_); rintro e w3 ⟨rfl, hb3⟩; have hR := Hid.intro (ready_of (NM := NM) (BY := BY) (SH := 4) hTH.out hlH.out hbw hb1.out hb3); clear hb3; obtain ⟨o0, o1, o2, _⟩ := hR.out.o; obtain ⟨i0, i1, i2, i3, i4, _⟩ := hR.out.i; have ff := hR.out.f))
  have hsub := Hid.intro (lies_sub hR.out.l (k + 1) 1)
  rw [hMH.out]
  obtain ⟨rs, hrs⟩ : ∃ rs, rs = (zs.drop (k + 1)).take 1 := ⟨_, rfl⟩
  rw [← hrs] at hsub hl3 hby hVH
  obtain ⟨C2, hC2⟩ : ∃ C2, cap - (k + 1) = C2 := ⟨_, rfl⟩
  have hC3 : 1 ≤ C2 := by rw [← hC2]; exact hcH.out
  have hC4 : (1 : Int) ≤ (C2 : Int) := by omega
  rw [hC2]
  clear hrs hC2 hmH hcH hMH hk hl0 hlH hT0 hTH hT1 hb1 a0 a1 a2 a3 a4 hHdH hAtH
  generalize w3.alloc (.cells #[.string (str NM), .int .u8 BY, .int .i64 4] 51) = W at *
  generalize w1.heap.size = g7 at *
  generalize w3.heap.size = gop at *
  have hne7 : b ≠ g7 := by have := hR.out.bw; have := hR.out.h.le; omega
  obtain ⟨x0, xs, rfl⟩ : ∃ x xs, rs = x :: xs := by
    cases rs with
    | nil => have := hl3.out; simp at this
    | cons x xs => exact ⟨x, xs, rfl⟩
  have q0 : W.cell? ⟨b, off + (k + 1), none⟩ = some (.int .u8 x0) := by
    rcases hsub.out.2 with h | ⟨b', o', ha, hc⟩
    · cases h
    · cases ha
      have := hc 0 (by simp)
      simpa using this
  have hx0 := hby.out x0 (by simp)
  have ex0 : IntKind.i64.wrap x0 = x0 := by rw [IntKind.wrap_i64]; omega
  go_step3
  exact pair_lands OP 0 2 w W g7 V hR.out.h b (off + (k + 1)) C2 1 x0 hR.out.i hR.out.f q0 (by omega) hne7 hx0.1 hx0.2 hVH.out

set_option maxHeartbeats 4000000 in
theorem dec_9_0 (b off cap m k : Nat) (zs : List Int) (OP : Int) (NM : List UInt8) (BY : Int) (w : World) (V : Value) (hm : m = zs.length) (hT : Tab w) (hl : Lies w (some ⟨b, off, none⟩) zs) (hbw : b < w.heap.size) (hcap : m ≤ cap) (hml : m ≤ 140737488355328) (hk : (k : Int) + 2 ≤ m)
    (hHd : ∀ W, Tab W → Lies W (some ⟨b, off, none⟩) zs → Calls Tryd.prog 17 #[.slice (some ⟨b, off, none⟩) m cap, .int .i64 (k : Int)] W fun e w' => e = .returned (.tuple #[instV OP 0 0 0 0, .int .i64 2, .int .i64 0]) ∧ Below W.heap.size W w')
    (hAt : ∀ W, Tab W → Calls Tryd.prog 18 #[.int .i64 OP] W fun e w' => e = .returned (.tuple #[opV NM BY 9, .bool true]) ∧ Below W.heap.size W w')
    (hV : V = endV OP (fA 9 ((zs.drop (k + 1)).take 1)) (fB 9 ((zs.drop (k + 1)).take 1)) (fN 9 0 ((zs.drop (k + 1)).take 1)) 0 2) :
    Calls Tryd.prog 8 #[.slice (some ⟨b, off, none⟩) m cap, .int .i64 (k : Int)] w fun e w' => e = .returned V ∧ Below w.heap.size w w' := by
  have hTH := Hid.intro hT
  have hlH := Hid.intro hl
  have hHdH := Hid.intro hHd
  have hAtH := Hid.intro hAt
  have hVH := Hid.intro hV
  have hmH := Hid.intro hm
  have hT0 := Hid.intro (hT.alloc (.cells #[.int .i64 0, .int .i64 0, .int .i64 0, .int .i32 0, .int .i64 0] 26))
  have hl0 := Hid.intro (hl.below (below_alloc w (.cells #[.int .i64 0, .int .i64 0, .int .i64 0, .int .i32 0, .int .i64 0] 26)))
  clear hT hl hHd hAt hV hm
  have hcapM : 1 ≤ cap - (k + 1) := by omega
  have hM : k + 2 - (k + 1) = 1 := by omega
  have hl3 : Hid (((zs.drop (k + 1)).take 1).length = 1) := by show _ = _; have := hmH.out; simp; omega
  have hby : Hid (AreBytes ((zs.drop (k + 1)).take 1)) := areBytes_take _ (areBytes_drop _ hlH.out.1 _) _
  have hMH := Hid.intro hM
  have hcH := Hid.intro hcapM
  clear hM hcapM
  go_enter Tryd.func8, Tryd.ntmps8
  go_wp2
  refine wp_scope_at (Q := Q8 V w) Tryd.f8 rfl ?_
  go_wp2_with (first
    | (go_at_call 17; (with_reducible refine (hHdH.out _ hT0.out hl0.out).mono ?_); rintro e w1 ⟨rfl, hb1⟩; have hT1 := Hid.intro (hT0.out.below hb1 hT0.out.size); replace hb1 := Hid.intro hb1; obtain ⟨a0, a1, a2, a3, a4, _⟩ := inst_new w1 OP 0 0 0 0)
    | (go_at_call 18; (with_reducible refine (hAtH.out _ (hT1.out.alloc _)).mono ?_); rintro e w3 ⟨rfl, hb3⟩; have hR := Hid.intro (ready_of (NM := NM) (BY := BY) (SH := 9) hTH.out hlH.out hbw hb1.out hb3); clear hb3; obtain ⟨o0, o1, o2, _⟩ := hR.out.o; obtain ⟨i0, i1, i2, i3, i4, _⟩ := hR.out.i; have ff := hR.out.f))
  have hsub := Hid.intro (lies_sub hR.out.l (k + 1) 1)
  rw [hMH.out]
  obtain ⟨rs, hrs⟩ : ∃ rs, rs = (zs.drop (k + 1)).take 1 := ⟨_, rfl⟩
  rw [← hrs] at hsub hl3 hby hVH
  obtain ⟨C2, hC2⟩ : ∃ C2, cap - (k + 1) = C2 := ⟨_, rfl⟩
  have hC3 : 1 ≤ C2 := by rw [← hC2]; exact hcH.out
  have hC4 : (1 : Int) ≤ (C2 : Int) := by omega
  rw [hC2]
  clear hrs hC2 hmH hcH hMH hk hl0 hlH hT0 hTH hT1 hb1 a0 a1 a2 a3 a4 hHdH hAtH
  generalize w3.alloc (.cells #[.string (str NM), .int .u8 BY, .int .i64 9] 51) = W at *
  generalize w1.heap.size = g7 at *
  generalize w3.heap.size = gop at *
  have hne7 : b ≠ g7 := by have := hR.out.bw; have := hR.out.h.le; omega
  have hl3' := hl3.out
  have hne9 : numI 9 rs = leN rs := by
    have h1 := leN_bd rs hby.out
    rw [hl3'] at h1
    rw [numI, if_pos (.inl rfl), wrap32]
    omega
  have hbd : -2147483648 ≤ numI 9 rs ∧ numI 9 rs ≤ 2147483647 := by
    have h1 := leN_bd rs hby.out
    rw [hl3'] at h1
    rw [hne9]
    omega
  have hv2 : V = endV OP 0 0 (numI 9 rs) 0 2 := by rw [hne9]; exact hVH.out
  go_step3
  exact number_lands OP 0 0 2 w W g7 V hR.out.h gop NM BY 9 (some ⟨b, off + (k + 1), none⟩) 1 C2 rs hR.out.i hR.out.f hR.out.o hl3'.symm hsub.out (by omega) hbd hv2

set_option maxHeartbeats 4000000 in
theorem dec_2_0 (b off cap m k : Nat) (zs : List Int) (OP : Int) (NM : List UInt8) (BY : Int) (w : World) (V : Value) (hm : m = zs.length) (hT : Tab w) (hl : Lies w (some ⟨b, off, none⟩) zs) (hbw : b < w.heap.size) (hcap : m ≤ cap) (hml : m ≤ 140737488355328) (hk : (k : Int) + 2 ≤ m)
    (hHd : ∀ W, Tab W → Lies W (some ⟨b, off, none⟩) zs → Calls Tryd.prog 17 #[.slice (some ⟨b, off, none⟩) m cap, .int .i64 (k : Int)] W fun e w' => e = .returned (.tuple #[instV OP 0 0 0 0, .int .i64 2, .int .i64 0]) ∧ Below W.heap.size W w')
    (hAt : ∀ W, Tab W → Calls Tryd.prog 18 #[.int .i64 OP] W fun e w' => e = .returned (.tuple #[opV NM BY 2, .bool true]) ∧ Below W.heap.size W w')
    (hV : V = endV OP (fA 2 ((zs.drop (k + 1)).take 1)) (fB 2 ((zs.drop (k + 1)).take 1)) (fN 2 0 ((zs.drop (k + 1)).take 1)) 0 2) :
    Calls Tryd.prog 8 #[.slice (some ⟨b, off, none⟩) m cap, .int .i64 (k : Int)] w fun e w' => e = .returned V ∧ Below w.heap.size w w' := by
  have hTH := Hid.intro hT
  have hlH := Hid.intro hl
  have hHdH := Hid.intro hHd
  have hAtH := Hid.intro hAt
  have hVH := Hid.intro hV
  have hmH := Hid.intro hm
  have hT0 := Hid.intro (hT.alloc (.cells #[.int .i64 0, .int .i64 0, .int .i64 0, .int .i32 0, .int .i64 0] 26))
  have hl0 := Hid.intro (hl.below (below_alloc w (.cells #[.int .i64 0, .int .i64 0, .int .i64 0, .int .i32 0, .int .i64 0] 26)))
  clear hT hl hHd hAt hV hm
  have hcapM : 1 ≤ cap - (k + 1) := by omega
  have hM : k + 2 - (k + 1) = 1 := by omega
  have hl3 : Hid (((zs.drop (k + 1)).take 1).length = 1) := by show _ = _; have := hmH.out; simp; omega
  have hby : Hid (AreBytes ((zs.drop (k + 1)).take 1)) := areBytes_take _ (areBytes_drop _ hlH.out.1 _) _
  have hMH := Hid.intro hM
  have hcH := Hid.intro hcapM
  clear hM hcapM
  go_enter Tryd.func8, Tryd.ntmps8
  go_wp2
  refine wp_scope_at (Q := Q8 V w) Tryd.f8 rfl ?_
  go_wp2_with (first
    | (go_at_call 17; (with_reducible refine (hHdH.out _ hT0.out hl0.out).mono ?_); rintro e w1 ⟨rfl, hb1⟩; have hT1 := Hid.intro (hT0.out.below hb1 hT0.out.size); replace hb1 := Hid.intro hb1; obtain ⟨a0, a1, a2, a3, a4, _⟩ := inst_new w1 OP 0 0 0 0)
    | (go_at_call 18; (with_reducible refine (hAtH.out _ (hT1.out.alloc _)).mono ?_); rintro e w3 ⟨rfl, hb3⟩; have hR := Hid.intro (ready_of (NM := NM) (BY := BY) (SH := 2) hTH.out hlH.out hbw hb1.out hb3); clear hb3; obtain ⟨o0, o1, o2, _⟩ := hR.out.o; obtain ⟨i0, i1, i2, i3, i4, _⟩ := hR.out.i; have ff := hR.out.f))
  have hsub := Hid.intro (lies_sub hR.out.l (k + 1) 1)
  rw [hMH.out]
  obtain ⟨rs, hrs⟩ : ∃ rs, rs = (zs.drop (k + 1)).take 1 := ⟨_, rfl⟩
  rw [← hrs] at hsub hl3 hby hVH
  obtain ⟨C2, hC2⟩ : ∃ C2, cap - (k + 1) = C2 := ⟨_, rfl⟩
  have hC3 : 1 ≤ C2 := by rw [← hC2]; exact hcH.out
  have hC4 : (1 : Int) ≤ (C2 : Int) := by omega
  rw [hC2]
  clear hrs hC2 hmH hcH hMH hk hl0 hlH hT0 hTH hT1 hb1 a0 a1 a2 a3 a4 hHdH hAtH
  generalize w3.alloc (.cells #[.string (str NM), .int .u8 BY, .int .i64 2] 51) = W at *
  generalize w1.heap.size = g7 at *
  generalize w3.heap.size = gop at *
  have hne7 : b ≠ g7 := by have := hR.out.bw; have := hR.out.h.le; omega
  obtain ⟨x0, xs, rfl⟩ : ∃ x xs, rs = x :: xs := by
    cases rs with
    | nil => have := hl3.out; simp at this
    | cons x xs => exact ⟨x, xs, rfl⟩
  have q0 : W.cell? ⟨b, off + (k + 1), none⟩ = some (.int .u8 x0) := by
    rcases hsub.out.2 with h | ⟨b', o', ha, hc⟩
    · cases h
    · cases ha
      have := hc 0 (by simp)
      simpa using this
  have hx0 := hby.out x0 (by simp)
  have ex0 : IntKind.i64.wrap x0 = x0 := by rw [IntKind.wrap_i64]; omega
  have hI2 := Hid.intro ((hR.out.i.setA x0).drew)
  have hH2 := Hid.intro ((hR.out.h.set 1 (.int .i64 x0)).drew)
  have o2' : (W.setCell ⟨g7, 1, none⟩ (.int .i64 x0)).drew.cell? ⟨gop, 2, none⟩ = some (.int .i64 2) := (World.cell?_setCell_other _ _ _ _ (by simp)).trans o2
  have ff' : ∀ j, (W.setCell ⟨g7, 1, none⟩ (.int .i64 x0)).drew.frozen? ⟨g7, j, none⟩ = false := fun j => (World.frozen?_setCell _ _ _ _).trans (ff j)
  have hlx : Hid (Lies (W.setCell ⟨g7, 1, none⟩ (.int .i64 x0)).drew (some ⟨b, off + (k + 1), none⟩) (x0 :: xs)) := hsub.out.set g7 1 _ (fun b' o' h => by cases h; exact hne7)
  have f1 := ff 1
  clear ff
  go_region
  clear i0 i1 i2 i3 i4 o0 o1 o2 q0 f1 hsub hR
  generalize (W.setCell ⟨g7, 1, none⟩ (.int .i64 x0)).drew = W5 at *
  obtain ⟨i0, i1, i2, i3, i4, _⟩ := hI2.out
  have hv2 : Hid (V = endV OP x0 0 0 0 2) := hVH.out
  go_wp2
  all_goals go_step3
  all_goals exact whole_lands OP x0 0 0 0 2 w _ g7 V hv2.out hH2.out.z hI2.out hH2.out.ne hH2.out.b hH2.out.t (by omega)

set_option maxHeartbeats 4000000 in
theorem dec_7_0 (b off cap m k : Nat) (zs : List Int) (OP : Int) (NM : List UInt8) (BY : Int) (w : World) (V : Value) (hm : m = zs.length) (hT : Tab w) (hl : Lies w (some ⟨b, off, none⟩) zs) (hbw : b < w.heap.size) (hcap : m ≤ cap) (hml : m ≤ 140737488355328) (hk : (k : Int) + 3 ≤ m)
    (hHd : ∀ W, Tab W → Lies W (some ⟨b, off, none⟩) zs → Calls Tryd.prog 17 #[.slice (some ⟨b, off, none⟩) m cap, .int .i64 (k : Int)] W fun e w' => e = .returned (.tuple #[instV OP 0 0 0 0, .int .i64 3, .int .i64 0]) ∧ Below W.heap.size W w')
    (hAt : ∀ W, Tab W → Calls Tryd.prog 18 #[.int .i64 OP] W fun e w' => e = .returned (.tuple #[opV NM BY 7, .bool true]) ∧ Below W.heap.size W w')
    (hV : V = endV OP (fA 7 ((zs.drop (k + 1)).take 2)) (fB 7 ((zs.drop (k + 1)).take 2)) (fN 7 0 ((zs.drop (k + 1)).take 2)) 0 3) :
    Calls Tryd.prog 8 #[.slice (some ⟨b, off, none⟩) m cap, .int .i64 (k : Int)] w fun e w' => e = .returned V ∧ Below w.heap.size w w' := by
  have hTH := Hid.intro hT
  have hlH := Hid.intro hl
  have hHdH := Hid.intro hHd
  have hAtH := Hid.intro hAt
  have hVH := Hid.intro hV
  have hmH := Hid.intro hm
  have hT0 := Hid.intro (hT.alloc (.cells #[.int .i64 0, .int .i64 0, .int .i64 0, .int .i32 0, .int .i64 0] 26))
  have hl0 := Hid.intro (hl.below (below_alloc w (.cells #[.int .i64 0, .int .i64 0, .int .i64 0, .int .i32 0, .int .i64 0] 26)))
  clear hT hl hHd hAt hV hm
  have hcapM : 2 ≤ cap - (k + 1) := by omega
  have hM : k + 3 - (k + 1) = 2 := by omega
  have hl3 : Hid (((zs.drop (k + 1)).take 2).length = 2) := by show _ = _; have := hmH.out; simp; omega
  have hby : Hid (AreBytes ((zs.drop (k + 1)).take 2)) := areBytes_take _ (areBytes_drop _ hlH.out.1 _) _
  have hMH := Hid.intro hM
  have hcH := Hid.intro hcapM
  clear hM hcapM
  go_enter Tryd.func8, Tryd.ntmps8
  go_wp2
  refine wp_scope_at (Q := Q8 V w) Tryd.f8 rfl ?_
  go_wp2_with (first
    | (go_at_call 17; (with_reducible refine (hHdH.out _ hT0.out hl0.out).mono ?_); rintro e w1 ⟨rfl, hb1⟩; have hT1 := Hid.intro (hT0.out.below hb1 hT0.out.size); replace hb1 := Hid.intro hb1; obtain ⟨a0, a1, a2, a3, a4, _⟩ := inst_new w1 OP 0 0 0 0)
    | (go_at_call 18; (with_reducible refine (hAtH.out _ (hT1.out.alloc _)).mono ?_); rintro e w3 ⟨rfl, hb3⟩; have hR := Hid.intro (ready_of (NM := NM) (BY := BY) (SH := 7) hTH.out hlH.out hbw hb1.out hb3); clear hb3; obtain ⟨o0, o1, o2, _⟩ := hR.out.o; obtain ⟨i0, i1, i2, i3, i4, _⟩ := hR.out.i; have ff := hR.out.f))
  have hsub := Hid.intro (lies_sub hR.out.l (k + 1) 2)
  rw [hMH.out]
  obtain ⟨rs, hrs⟩ : ∃ rs, rs = (zs.drop (k + 1)).take 2 := ⟨_, rfl⟩
  rw [← hrs] at hsub hl3 hby hVH
  obtain ⟨C2, hC2⟩ : ∃ C2, cap - (k + 1) = C2 := ⟨_, rfl⟩
  have hC3 : 2 ≤ C2 := by rw [← hC2]; exact hcH.out
  have hC4 : (2 : Int) ≤ (C2 : Int) := by omega
  rw [hC2]
  clear hrs hC2 hmH hcH hMH hk hl0 hlH hT0 hTH hT1 hb1 a0 a1 a2 a3 a4 hHdH hAtH
  generalize w3.alloc (.cells #[.string (str NM), .int .u8 BY, .int .i64 7] 51) = W at *
  generalize w1.heap.size = g7 at *
  generalize w3.heap.size = gop at *
  have hne7 : b ≠ g7 := by have := hR.out.bw; have := hR.out.h.le; omega
  obtain ⟨x0, xs, rfl⟩ : ∃ x xs, rs = x :: xs := by
    cases rs with
    | nil => have := hl3.out; simp at this
    | cons x xs => exact ⟨x, xs, rfl⟩
  have q0 : W.cell? ⟨b, off + (k + 1), none⟩ = some (.int .u8 x0) := by
    rcases hsub.out.2 with h | ⟨b', o', ha, hc⟩
    · cases h
    · cases ha
      have := hc 0 (by simp)
      simpa using this
  have hx0 := hby.out x0 (by simp)
  have ex0 : IntKind.i64.wrap x0 = x0 := by rw [IntKind.wrap_i64]; omega
  have hC5 : ¬ (C2 = 1) := by omega
  have hI2 := Hid.intro ((hR.out.i.setA x0).drew)
  have hH2 := Hid.intro ((hR.out.h.set 1 (.int .i64 x0)).drew)
  have o2' : (W.setCell ⟨g7, 1, none⟩ (.int .i64 x0)).drew.cell? ⟨gop, 2, none⟩ = some (.int .i64 7) := (World.cell?_setCell_other _ _ _ _ (by simp)).trans o2
  have ff' : ∀ j, (W.setCell ⟨g7, 1, none⟩ (.int .i64 x0)).drew.frozen? ⟨g7, j, none⟩ = false := fun j => (World.frozen?_setCell _ _ _ _).trans (ff j)
  have hlx : Hid (Lies (W.setCell ⟨g7, 1, none⟩ (.int .i64 x0)).drew (some ⟨b, off + (k + 1), none⟩) (x0 :: xs)) := hsub.out.set g7 1 _ (fun b' o' h => by cases h; exact hne7)
  have f1 := ff 1
  clear ff
  go_region
  clear i0 i1 i2 i3 i4 o0 o1 o2 q0 f1 hsub hR
  generalize (W.setCell ⟨g7, 1, none⟩ (.int .i64 x0)).drew = W5 at *
  obtain ⟨i0, i1, i2, i3, i4, _⟩ := hI2.out
  obtain ⟨x1, xs, rfl⟩ : ∃ x ys, xs = x :: ys := by
    cases xs with
    | nil => have := hl3.out; simp at this
    | cons x xs => exact ⟨x, xs, rfl⟩
  have q1 : W5.cell? ⟨b, off + (k + 1) + 1, none⟩ = some (.int .u8 x1) := by
    rcases hlx.out.2 with h | ⟨b', o', ha, hc⟩
    · cases h
    · cases ha
      have := hc 1 (by simp)
      simpa using this
  have hx1 := hby.out x1 (by simp)
  have hv2 : Hid (V = endV OP x0 (x1 / 16) (x1 % 16) 0 3) := hVH.out
  have q1H := Hid.intro q1
  clear q1
  go_wp2
  go_step3
  exact parts_lands OP x0 0 3 w W5 g7 V hH2.out b (off + (k + 1) + 1) (C2 - 1) 1 x1 hI2.out ff' q1H.out (by omega) hne7 hx1.1 hx1.2 hv2.out

set_option maxHeartbeats 4000000 in
theorem dec_8_0 (b off cap m k : Nat) (zs : List Int) (OP : Int) (NM : List UInt8) (BY : Int) (w : World) (V : Value) (hm : m = zs.length) (hT : Tab w) (hl : Lies w (some ⟨b, off, none⟩) zs) (hbw : b < w.heap.size) (hcap : m ≤ cap) (hml : m ≤ 140737488355328) (hk : (k : Int) + 3 ≤ m)
    (hHd : ∀ W, Tab W → Lies W (some ⟨b, off, none⟩) zs → Calls Tryd.prog 17 #[.slice (some ⟨b, off, none⟩) m cap, .int .i64 (k : Int)] W fun e w' => e = .returned (.tuple #[instV OP 0 0 0 0, .int .i64 3, .int .i64 0]) ∧ Below W.heap.size W w')
    (hAt : ∀ W, Tab W → Calls Tryd.prog 18 #[.int .i64 OP] W fun e w' => e = .returned (.tuple #[opV NM BY 8, .bool true]) ∧ Below W.heap.size W w')
    (hV : V = endV OP (fA 8 ((zs.drop (k + 1)).take 2)) (fB 8 ((zs.drop (k + 1)).take 2)) (fN 8 0 ((zs.drop (k + 1)).take 2)) 0 3) :
    Calls Tryd.prog 8 #[.slice (some ⟨b, off, none⟩) m cap, .int .i64 (k : Int)] w fun e w' => e = .returned V ∧ Below w.heap.size w w' := by
  have hTH := Hid.intro hT
  have hlH := Hid.intro hl
  have hHdH := Hid.intro hHd
  have hAtH := Hid.intro hAt
  have hVH := Hid.intro hV
  have hmH := Hid.intro hm
  have hT0 := Hid.intro (hT.alloc (.cells #[.int .i64 0, .int .i64 0, .int .i64 0, .int .i32 0, .int .i64 0] 26))
  have hl0 := Hid.intro (hl.below (below_alloc w (.cells #[.int .i64 0, .int .i64 0, .int .i64 0, .int .i32 0, .int .i64 0] 26)))
  clear hT hl hHd hAt hV hm
  have hcapM : 2 ≤ cap - (k + 1) := by omega
  have hM : k + 3 - (k + 1) = 2 := by omega
  have hl3 : Hid (((zs.drop (k + 1)).take 2).length = 2) := by show _ = _; have := hmH.out; simp; omega
  have hby : Hid (AreBytes ((zs.drop (k + 1)).take 2)) := areBytes_take _ (areBytes_drop _ hlH.out.1 _) _
  have hMH := Hid.intro hM
  have hcH := Hid.intro hcapM
  clear hM hcapM
  go_enter Tryd.func8, Tryd.ntmps8
  go_wp2
  refine wp_scope_at (Q := Q8 V w) Tryd.f8 rfl ?_
  go_wp2_with (first
    | (go_at_call 17; (with_reducible refine (hHdH.out _ hT0.out hl0.out).mono ?_); rintro e w1 ⟨rfl, hb1⟩; have hT1 := Hid.intro (hT0.out.below hb1 hT0.out.size); replace hb1 := Hid.intro hb1; obtain ⟨a0, a1, a2, a3, a4, _⟩ := inst_new w1 OP 0 0 0 0)
    | (go_at_call 18; (with_reducible refine (hAtH.out _ (hT1.out.alloc _)).mono ?_); rintro e w3 ⟨rfl, hb3⟩; have hR := Hid.intro (ready_of (NM := NM) (BY := BY) (SH := 8) hTH.out hlH.out hbw hb1.out hb3); clear hb3; obtain ⟨o0, o1, o2, _⟩ := hR.out.o; obtain ⟨i0, i1, i2, i3, i4, _⟩ := hR.out.i; have ff := hR.out.f))
  have hsub := Hid.intro (lies_sub hR.out.l (k + 1) 2)
  rw [hMH.out]
  obtain ⟨rs, hrs⟩ : ∃ rs, rs = (zs.drop (k + 1)).take 2 := ⟨_, rfl⟩
  rw [← hrs] at hsub hl3 hby hVH
  obtain ⟨C2, hC2⟩ : ∃ C2, cap - (k + 1) = C2 := ⟨_, rfl⟩
  have hC3 : 2 ≤ C2 := by rw [← hC2]; exact hcH.out
  have hC4 : (2 : Int) ≤ (C2 : Int) := by omega
  rw [hC2]
  clear hrs hC2 hmH hcH hMH hk hl0 hlH hT0 hTH hT1 hb1 a0 a1 a2 a3 a4 hHdH hAtH
  generalize w3.alloc (.cells #[.string (str NM), .int .u8 BY, .int .i64 8] 51) = W at *
  generalize w1.heap.size = g7 at *
  generalize w3.heap.size = gop at *
  have hne7 : b ≠ g7 := by have := hR.out.bw; have := hR.out.h.le; omega
  obtain ⟨x0, xs, rfl⟩ : ∃ x xs, rs = x :: xs := by
    cases rs with
    | nil => have := hl3.out; simp at this
    | cons x xs => exact ⟨x, xs, rfl⟩
  have q0 : W.cell? ⟨b, off + (k + 1), none⟩ = some (.int .u8 x0) := by
    rcases hsub.out.2 with h | ⟨b', o', ha, hc⟩
    · cases h
    · cases ha
      have := hc 0 (by simp)
      simpa using this
  have hx0 := hby.out x0 (by simp)
  have ex0 : IntKind.i64.wrap x0 = x0 := by rw [IntKind.wrap_i64]; omega
  have hC5 : ¬ (C2 = 1) := by omega
  have hI2 := Hid.intro ((hR.out.i.setA x0).drew)
  have hH2 := Hid.intro ((hR.out.h.set 1 (.int .i64 x0)).drew)
  have o2' : (W.setCell ⟨g7, 1, none⟩ (.int .i64 x0)).drew.cell? ⟨gop, 2, none⟩ = some (.int .i64 8) := (World.cell?_setCell_other _ _ _ _ (by simp)).trans o2
  have ff' : ∀ j, (W.setCell ⟨g7, 1, none⟩ (.int .i64 x0)).drew.frozen? ⟨g7, j, none⟩ = false := fun j => (World.frozen?_setCell _ _ _ _).trans (ff j)
  have hlx : Hid (Lies (W.setCell ⟨g7, 1, none⟩ (.int .i64 x0)).drew (some ⟨b, off + (k + 1), none⟩) (x0 :: xs)) := hsub.out.set g7 1 _ (fun b' o' h => by cases h; exact hne7)
  have f1 := ff 1
  clear ff
  go_region
  clear i0 i1 i2 i3 i4 o0 o1 o2 q0 f1 hsub hR
  generalize (W.setCell ⟨g7, 1, none⟩ (.int .i64 x0)).drew = W5 at *
  obtain ⟨i0, i1, i2, i3, i4, _⟩ := hI2.out
  have hl4 : xs.length = 1 := by have := hl3.out; simpa using this
  have hbx : AreBytes xs := fun z hz => hby.out z (by simp [hz])
  have hl5 : Lies W5 (some ⟨b, off + (k + 1) + 1, none⟩) xs := by
    have := lies_sub hlx.out 1 1
    rwa [List.drop_one, List.tail_cons, List.take_of_length_le (by omega)] at this
  have hne9 : numI 8 xs = sgn (leN xs) 1 := by rw [numI, if_neg (by decide), hl4]; rfl
  have hbd : -2147483648 ≤ numI 8 xs ∧ numI 8 xs ≤ 2147483647 := by
    have h1 := leN_bd xs hbx
    rw [hl4] at h1
    rw [hne9, sgn1 _ (by omega)]
    omega
  have hv2 : V = endV OP x0 0 (numI 8 xs) 0 3 := by rw [hne9]; exact hVH.out
  have hNu := Hid.intro (number_any (some ⟨b, off + (k + 1) + 1, none⟩) (C2 - 1) 1 xs 8 W5 hl4.symm hl5 (by omega))
  obtain ⟨NN, hNN⟩ : ∃ NN, NN = numI 8 xs := ⟨_, rfl⟩
  rw [← hNN] at hNu hbd hv2
  have hbdH := Hid.intro hbd
  have hvH := Hid.intro hv2
  have f3 := ff' 3
  clear hl4 hbx hl5 hne9 hbd hv2 hNN ff' hlx
  go_wp2
  go_step3
  go_wp2_with (go_at_call 19; (with_reducible refine hNu.out.mono ?_); rintro e w9 ⟨rfl, rfl⟩)
  go_step3
  exact whole_lands OP x0 0 NN 0 3 w _ g7 V hvH.out (hH2.out.set 3 _).z (hI2.out.setN NN) hH2.out.ne (hH2.out.set 3 _).b (hH2.out.set 3 _).t hbdH.out
end Go.Proofs.YthboapfbgdcdoaaDoor

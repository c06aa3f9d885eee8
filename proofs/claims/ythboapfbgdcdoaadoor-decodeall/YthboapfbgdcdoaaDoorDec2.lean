/- decode.Decode, by shape: more. -/
import Derived.Test.YthboapfbgdcdoaaDoorDec1
namespace Go.Proofs.YthboapfbgdcdoaaDoor
open Go.ChangeShapes Go.WideShapes Go.ChangeAt Go.RowKit
set_option linter.unusedVariables false
set_option maxRecDepth 100000


set_option maxHeartbeats 4000000 in
theorem dec_5_0 (b off cap m k : Nat) (zs : List Int) (OP : Int) (NM : List UInt8) (BY : Int) (w : World) (V : Value) (hm : m = zs.length) (hT : Tab w) (hl : Lies w (some ⟨b, off, none⟩) zs) (hbw : b < w.heap.size) (hcap : m ≤ cap) (hml : m ≤ 140737488355328) (hk : (k : Int) + 2 ≤ m)
    (hHd : ∀ W, Tab W → Lies W (some ⟨b, off, none⟩) zs → Calls Tryd.prog 17 #[.slice (some ⟨b, off, none⟩) m cap, .int .i64 (k : Int)] W fun e w' => e = .returned (.tuple #[instV OP 0 0 0 0, .int .i64 2, .int .i64 0]) ∧ Below W.heap.size W w')
    (hAt : ∀ W, Tab W → Calls Tryd.prog 18 #[.int .i64 OP] W fun e w' => e = .returned (.tuple #[opV NM BY 5, .bool true]) ∧ Below W.heap.size W w')
    (hV : V = endV OP (fA 5 ((zs.drop (k + 1)).take 1)) (fB 5 ((zs.drop (k + 1)).take 1)) (fN 5 0 ((zs.drop (k + 1)).take 1)) 0 2) :
    Calls Tryd.prog 8 #[.slice (some ⟨b, off, none⟩) m cap, .int .i64 (k : Int)] w fun e w' => e = .returned V ∧ Below w.heap.size w w' := by
  have hTH := Hid.intro hT
  have hlH := Hid.intro hl
  have hHdH := Hid.intro hHd
  have hAtH := Hid.intro hAt
  have hVH := Hid.intro hV
  have hmH := Hid.intro hm
  have hT0 := Hid.intro (hT.alloc (.cells #[.int .i64 0, .int .i64 0, .int .i64 0, .int .i32 0, .int .i64 0] 26))
  have hl0 := Hid.intro (hl.below (below_alloc w (.cells #[.int .i64 0, .int .i64 0, .int .i64 0, .int .i32 0, .int .i64 0] 26)))
  clear hT hl hHd hAt hV hm
  have hcapM : 1 ≤ cap - (k + 1) := by omega
  have hM : k + 2 - (k + 1) = 1 := by omega
  have hl3 : Hid (((zs.drop (k + 1)).take 1).length = 1) := by show _ = _; have := hmH.out; simp; omega
  have hby : Hid (AreBytes ((zs.drop (k + 1)).take 1)) := areBytes_take _ (areBytes_drop _ hlH.out.1 _) _
  have hMH := Hid.intro hM
  have hcH := Hid.intro hcapM
  clear hM hcapM
  go_enter Tryd.func8, Tryd.ntmps8
  go_wp2
  refine wp_scope_at (Q := Q8 V w) Tryd.f8 rfl ?_
  go_wp2_with (first
    | (go_at_call 17; (with_reducible refine (hHdH.out _ hT0.out hl0.out).mono ?_); rintro e w1 ⟨rfl, hb1⟩; have hT1 := Hid.intro (hT0.out.below hb1 hT0.out.size); replace hb1 := Hid.intro hb1; obtain ⟨a0, a1, a2, a3, a4, _⟩ := inst_new w1 OP 0 0 0 0)
    | (go_at_call 18; (with_reducible refine (hAtH.out _ (hT1.out.alloc _)).mono ?_); rintro e w3 ⟨rfl, hb3⟩; have hR := Hid.intro (ready_of (NM := NM) (BY := BY) (SH := 5) hTH.out hlH.out hbw hb1.out hb3); clear hb3; obtain ⟨o0, o1, o2, _⟩ := hR.out.o; obtain ⟨i0, i1, i2, i3, i4, _⟩ := hR.out.i; have ff := hR.out.f))
  have hsub := Hid.intro (lies_sub hR.out.l (k + 1) 1)
  rw [hMH.out]
  obtain ⟨rs, hrs⟩ : ∃ rs, rs = (zs.drop (k + 1)).take 1 := ⟨_, rfl⟩
  rw [← hrs] at hsub hl3 hby hVH
  obtain ⟨C2, hC2⟩ : ∃ C2, cap - (k + 1) = C2 := ⟨_, rfl⟩
  have hC3 : 1 ≤ C2 := by rw [← hC2]; exact hcH.out
  have hC4 : (1 : Int) ≤ (C2 : Int) := by omega
  rw [hC2]
  clear hrs hC2 hmH hcH hMH hk hl0 hlH hT0 hTH hT1 hb1 a0 a1 a2 a3 a4 hHdH hAtH
  generalize w3.alloc (.cells #[.string (str NM), .int .u8 BY, .int .i64 5] 51) = W at *
  generalize w1.heap.size = g7 at *
  generalize w3.heap.size = gop at *
  have hne7 : b ≠ g7 := by have := hR.out.bw; have := hR.out.h.le; omega
  obtain ⟨x0, xs, rfl⟩ : ∃ x xs, rs = x :: xs := by
    cases rs with
    | nil => have := hl3.out; simp at this
    | cons x xs => exact ⟨x, xs, rfl⟩
  have q0 : W.cell? ⟨b, off + (k + 1), none⟩ = some (.int .u8 x0) := by
    rcases hsub.out.2 with h | ⟨b', o', ha, hc⟩
    · cases h
    · cases ha
      have := hc 0 (by simp)
      simpa using this
  have hx0 := hby.out x0 (by simp)
  have ex0 : IntKind.i64.wrap x0 = x0 := by rw [IntKind.wrap_i64]; omega
  go_step3
  exact pair_lands OP 0 2 w W g7 V hR.out.h b (off + (k + 1)) C2 1 x0 hR.out.i hR.out.f q0 (by omega) hne7 hx0.1 hx0.2 hVH.out

set_option maxHeartbeats 4000000 in
theorem dec_6_0 (b off cap m k : Nat) (zs : List Int) (OP : Int) (NM : List UInt8) (BY : Int) (w : World) (V : Value) (hm : m = zs.length) (hT : Tab w) (hl : Lies w (some ⟨b, off, none⟩) zs) (hbw : b < w.heap.size) (hcap : m ≤ cap) (hml : m ≤ 140737488355328) (hk : (k : Int) + 2 ≤ m)
    (hHd : ∀ W, Tab W → Lies W (some ⟨b, off, none⟩) zs → Calls Tryd.prog 17 #[.slice (some ⟨b, off, none⟩) m cap, .int .i64 (k : Int)] W fun e w' => e = .returned (.tuple #[instV OP 0 0 0 0, .int .i64 2, .int .i64 0]) ∧ Below W.heap.size W w')
    (hAt : ∀ W, Tab W → Calls Tryd.prog 18 #[.int .i64 OP] W fun e w' => e = .returned (.tuple #[opV NM BY 6, .bool true]) ∧ Below W.heap.size W w')
    (hV : V = endV OP (fA 6 ((zs.drop (k + 1)).take 1)) (fB 6 ((zs.drop (k + 1)).take 1)) (fN 6 0 ((zs.drop (k + 1)).take 1)) 0 2) :
    Calls Tryd.prog 8 #[.slice (some ⟨b, off, none⟩) m cap, .int .i64 (k : Int)] w fun e w' => e = .returned V ∧ Below w.heap.size w w' := by
  have hTH := Hid.intro hT
  have hlH := Hid.intro hl
  have hHdH := Hid.intro hHd
  have hAtH := Hid.intro hAt
  have hVH := Hid.intro hV
  have hmH := Hid.intro hm
  have hT0 := Hid.intro (hT.alloc (.cells #[.int .i64 0, .int .i64 0, .int .i64 0, .int .i32 0, .int .i64 0] 26))
  have hl0 := Hid.intro (hl.below (below_alloc w (.cells #[.int .i64 0, .int .i64 0, .int .i64 0, .int .i32 0, .int .i64 0] 26)))
  clear hT hl hHd hAt hV hm
  have hcapM : 1 ≤ cap - (k + 1) := by omega
  have hM : k + 2 - (k + 1) = 1 := by omega
  have hl3 : Hid (((zs.drop (k + 1)).take 1).length = 1) := by show _ = _; have := hmH.out; simp; omega
  have hby : Hid (AreBytes ((zs.drop (k + 1)).take 1)) := areBytes_take _ (areBytes_drop _ hlH.out.1 _) _
  have hMH := Hid.intro hM
  have hcH := Hid.intro hcapM
  clear hM hcapM
  go_enter Tryd.func8, Tryd.ntmps8
  go_wp2
  refine wp_scope_at (Q := Q8 V w) Tryd.f8 rfl ?_
  go_wp2_with (first
    | (go_at_call 17; (with_reducible refine (hHdH.out _ hT0.out hl0.out).mono ?_); rintro e w1 ⟨rfl, hb1⟩; have hT1 := Hid.intro (hT0.out.below hb1 hT0.out.size); replace hb1 := Hid.intro hb1; obtain ⟨a0, a1, a2, a3, a4, _⟩ := inst_new w1 OP 0 0 0 0)
    | (go_at_call 18; (with_reducible refine (hAtH.out _ (hT1.out.alloc _)).mono ?_); rintro e w3 ⟨rfl, hb3⟩; have hR := Hid.intro (ready_of (NM := NM) (BY := BY) (SH := 6) hTH.out hlH.out hbw hb1.out hb3); clear hb3; obtain ⟨o0, o1, o2, _⟩ := hR.out.o; obtain ⟨i0, i1, i2, i3, i4, _⟩ := hR.out.i; have ff := hR.out.f))
  have hsub := Hid.intro (lies_sub hR.out.l (k + 1) 1)
  rw [hMH.out]
  obtain ⟨rs, hrs⟩ : ∃ rs, rs = (zs.drop (k + 1)).take 1 := ⟨_, rfl⟩
  rw [← hrs] at hsub hl3 hby hVH
  obtain ⟨C2, hC2⟩ : ∃ C2, cap - (k + 1) = C2 := ⟨_, rfl⟩
  have hC3 : 1 ≤ C2 := by rw [← hC2]; exact hcH.out
  have hC4 : (1 : Int) ≤ (C2 : Int) := by omega
  rw [hC2]
  clear hrs hC2 hmH hcH hMH hk hl0 hlH hT0 hTH hT1 hb1 a0 a1 a2 a3 a4 hHdH hAtH
  generalize w3.alloc (.cells #[.string (str NM), .int .u8 BY, .int .i64 6] 51) = W at *
  generalize w1.heap.size = g7 at *
  generalize w3.heap.size = gop at *
  have hne7 : b ≠ g7 := by have := hR.out.bw; have := hR.out.h.le; omega
  obtain ⟨x0, xs, rfl⟩ : ∃ x xs, rs = x :: xs := by
    cases rs with
    | nil => have := hl3.out; simp at this
    | cons x xs => exact ⟨x, xs, rfl⟩
  have q0 : W.cell? ⟨b, off + (k + 1), none⟩ = some (.int .u8 x0) := by
    rcases hsub.out.2 with h | ⟨b', o', ha, hc⟩
    · cases h
    · cases ha
      have := hc 0 (by simp)
      simpa using this
  have hx0 := hby.out x0 (by simp)
  have ex0 : IntKind.i64.wrap x0 = x0 := by rw [IntKind.wrap_i64]; omega
  go_step3
  exact pair_lands OP 0 2 w W g7 V hR.out.h b (off + (k + 1)) C2 1 x0 hR.out.i hR.out.f q0 (by omega) hne7 hx0.1 hx0.2 hVH.out

set_option maxHeartbeats 4000000 in
theorem dec_12_1 (b off cap m k : Nat) (zs : List Int) (OP : Int) (NM : List UInt8) (BY : Int) (w : World) (V : Value) (hm : m = zs.length) (hT : Tab w) (hl : Lies w (some ⟨b, off, none⟩) zs) (hbw : b < w.heap.size) (hcap : m ≤ cap) (hml : m ≤ 140737488355328) (hk : (k : Int) + 2 ≤ m)
    (hHd : ∀ W, Tab W → Lies W (some ⟨b, off, none⟩) zs → Calls Tryd.prog 17 #[.slice (some ⟨b, off, none⟩) m cap, .int .i64 (k : Int)] W fun e w' => e = .returned (.tuple #[instV OP 0 0 0 1, .int .i64 2, .int .i64 0]) ∧ Below W.heap.size W w')
    (hAt : ∀ W, Tab W → Calls Tryd.prog 18 #[.int .i64 OP] W fun e w' => e = .returned (.tuple #[opV NM BY 12, .bool true]) ∧ Below W.heap.size W w')
    (hV : V = endV OP (fA 12 ((zs.drop (k + 1)).take 1)) (fB 12 ((zs.drop (k + 1)).take 1)) (fN 12 1 ((zs.drop (k + 1)).take 1)) 1 2) :
    Calls Tryd.prog 8 #[.slice (some ⟨b, off, none⟩) m cap, .int .i64 (k : Int)] w fun e w' => e = .returned V ∧ Below w.heap.size w w' := by
  have hTH := Hid.intro hT
  have hlH := Hid.intro hl
  have hHdH := Hid.intro hHd
  have hAtH := Hid.intro hAt
  have hVH := Hid.intro hV
  have hmH := Hid.intro hm
  have hT0 := Hid.intro (hT.alloc (.cells #[.int .i64 0, .int .i64 0, .int .i64 0, .int .i32 0, .int .i64 0] 26))
  have hl0 := Hid.intro (hl.below (below_alloc w (.cells #[.int .i64 0, .int .i64 0, .int .i64 0, .int .i32 0, .int .i64 0] 26)))
  clear hT hl hHd hAt hV hm
  have hcapM : 1 ≤ cap - (k + 1) := by omega
  have hM : k + 2 - (k + 1) = 1 := by omega
  have hl3 : Hid (((zs.drop (k + 1)).take 1).length = 1) := by show _ = _; have := hmH.out; simp; omega
  have hby : Hid (AreBytes ((zs.drop (k + 1)).take 1)) := areBytes_take _ (areBytes_drop _ hlH.out.1 _) _
  have hMH := Hid.intro hM
  have hcH := Hid.intro hcapM
  clear hM hcapM
  go_enter Tryd.func8, Tryd.ntmps8
  go_wp2
  refine wp_scope_at (Q := Q8 V w) Tryd.f8 rfl ?_
  go_wp2_with (first
    | (go_at_call 17; (with_reducible refine (hHdH.out _ hT0.out hl0.out).mono ?_); rintro e w1 ⟨rfl, hb1⟩; have hT1 := Hid.intro (hT0.out.below hb1 hT0.out.size); replace hb1 := Hid.intro hb1; obtain ⟨a0, a1, a2, a3, a4, _⟩ := inst_new w1 OP 0 0 0 1)
    | (go_at_call 18; (with_reducible refine (hAtH.out _ (hT1.out.alloc _)).mono ?_); rintro e w3 ⟨rfl, hb3⟩; have hR := Hid.intro (ready_of (NM := NM) (BY := BY) (SH := 12) hTH.out hlH.out hbw hb1.out hb3); clear hb3; obtain ⟨o0, o1, o2, _⟩ := hR.out.o; obtain ⟨i0, i1, i2, i3, i4, _⟩ := hR.out.i; have ff := hR.out.f))
  have hsub := Hid.intro (lies_sub hR.out.l (k + 1) 1)
  rw [hMH.out]
  obtain ⟨rs, hrs⟩ : ∃ rs, rs = (zs.drop (k + 1)).take 1 := ⟨_, rfl⟩
  rw [← hrs] at hsub hl3 hby hVH
  obtain ⟨C2, hC2⟩ : ∃ C2, cap - (k + 1) = C2 := ⟨_, rfl⟩
  have hC3 : 1 ≤ C2 := by rw [← hC2]; exact hcH.out
  have hC4 : (1 : Int) ≤ (C2 : Int) := by omega
  rw [hC2]
  clear hrs hC2 hmH hcH hMH hk hl0 hlH hT0 hTH hT1 hb1 a0 a1 a2 a3 a4 hHdH hAtH
  generalize w3.alloc (.cells #[.string (str NM), .int .u8 BY, .int .i64 12] 51) = W at *
  generalize w1.heap.size = g7 at *
  generalize w3.heap.size = gop at *
  have hne7 : b ≠ g7 := by have := hR.out.bw; have := hR.out.h.le; omega
  have hl3' := hl3.out
  have hne9 : numI 12 rs = sgn (leN rs) 1 := by rw [numI, if_neg (by decide), hl3']; rfl
  have hbd : -2147483648 ≤ numI 12 rs ∧ numI 12 rs ≤ 2147483647 := by
    have h1 := leN_bd rs hby.out
    rw [hl3'] at h1
    rw [hne9, sgn1 _ (by omega)]
    omega
  have hv2 : V = endV OP 0 0 (numI 12 rs) 1 2 := by rw [hne9]; exact hVH.out
  go_step3
  exact number_lands OP 0 1 2 w W g7 V hR.out.h gop NM BY 12 (some ⟨b, off + (k + 1), none⟩) 1 C2 rs hR.out.i hR.out.f hR.out.o hl3'.symm hsub.out (by omega) hbd hv2

set_option maxHeartbeats 4000000 in
theorem dec_12_2 (b off cap m k : Nat) (zs : List Int) (OP : Int) (NM : List UInt8) (BY : Int) (w : World) (V : Value) (hm : m = zs.length) (hT : Tab w) (hl : Lies w (some ⟨b, off, none⟩) zs) (hbw : b < w.heap.size) (hcap : m ≤ cap) (hml : m ≤ 140737488355328) (hk : (k : Int) + 3 ≤ m)
    (hHd : ∀ W, Tab W → Lies W (some ⟨b, off, none⟩) zs → Calls Tryd.prog 17 #[.slice (some ⟨b, off, none⟩) m cap, .int .i64 (k : Int)] W fun e w' => e = .returned (.tuple #[instV OP 0 0 0 2, .int .i64 3, .int .i64 0]) ∧ Below W.heap.size W w')
    (hAt : ∀ W, Tab W → Calls Tryd.prog 18 #[.int .i64 OP] W fun e w' => e = .returned (.tuple #[opV NM BY 12, .bool true]) ∧ Below W.heap.size W w')
    (hV : V = endV OP (fA 12 ((zs.drop (k + 1)).take 2)) (fB 12 ((zs.drop (k + 1)).take 2)) (fN 12 2 ((zs.drop (k + 1)).take 2)) 2 3) :
    Calls Tryd.prog 8 #[.slice (some ⟨b, off, none⟩) m cap, .int .i64 (k : Int)] w fun e w' => e = .returned V ∧ Below w.heap.size w w' := by
  have hTH := Hid.intro hT
  have hlH := Hid.intro hl
  have hHdH := Hid.intro hHd
  have hAtH := Hid.intro hAt
  have hVH := Hid.intro hV
  have hmH := Hid.intro hm
  have hT0 := Hid.intro (hT.alloc (.cells #[.int .i64 0, .int .i64 0, .int .i64 0, .int .i32 0, .int .i64 0] 26))
  have hl0 := Hid.intro (hl.below (below_alloc w (.cells #[.int .i64 0, .int .i64 0, .int .i64 0, .int .i32 0, .int .i64 0] 26)))
  clear hT hl hHd hAt hV hm
  have hcapM : 2 ≤ cap - (k + 1) := by omega
  have hM : k + 3 - (k + 1) = 2 := by omega
  have hl3 : Hid (((zs.drop (k + 1)).take 2).length = 2) := by show _ = _; have := hmH.out; simp; omega
  have hby : Hid (AreBytes ((zs.drop (k + 1)).take 2)) := areBytes_take _ (areBytes_drop _ hlH.out.1 _) _
  have hMH := Hid.intro hM
  have hcH := Hid.intro hcapM
  clear hM hcapM
  go_enter Tryd.func8, Tryd.ntmps8
  go_wp2
  refine wp_scope_at (Q := Q8 V w) Tryd.f8 rfl ?_
  go_wp2_with (first
    | (go_at_call 17; (with_reducible refine (hHdH.out _ hT0.out hl0.out).mono ?_); rintro e w1 ⟨rfl, hb1⟩; have hT1 := Hid.intro (hT0.out.below hb1 hT0.out.size); replace hb1 := Hid.intro hb1; obtain ⟨a0, a1, a2, a3, a4, _⟩ := inst_new w1 OP 0 0 0 2)
    | (go_at_call 18; (with_reducible refine (hAtH.out _ (hT1.out.alloc _)).mono ?_); rintro e w3 ⟨rfl, hb3⟩; have hR := Hid.intro (ready_of (NM := NM) (BY := BY) (SH := 12) hTH.out hlH.out hbw hb1.out hb3); clear hb3; obtain ⟨o0, o1, o2, _⟩ := hR.out.o; obtain ⟨i0, i1, i2, i3, i4, _⟩ := hR.out.i; have ff := hR.out.f))
  have hsub := Hid.intro (lies_sub hR.out.l (k + 1) 2)
  rw [hMH.out]
  obtain ⟨rs, hrs⟩ : ∃ rs, rs = (zs.drop (k + 1)).take 2 := ⟨_, rfl⟩
  rw [← hrs] at hsub hl3 hby hVH
  obtain ⟨C2, hC2⟩ : ∃ C2, cap - (k + 1) = C2 := ⟨_, rfl⟩
  have hC3 : 2 ≤ C2 := by rw [← hC2]; exact hcH.out
  have hC4 : (2 : Int) ≤ (C2 : Int) := by omega
  rw [hC2]
  clear hrs hC2 hmH hcH hMH hk hl0 hlH hT0 hTH hT1 hb1 a0 a1 a2 a3 a4 hHdH hAtH
  generalize w3.alloc (.cells #[.string (str NM), .int .u8 BY, .int .i64 12] 51) = W at *
  generalize w1.heap.size = g7 at *
  generalize w3.heap.size = gop at *
  have hne7 : b ≠ g7 := by have := hR.out.bw; have := hR.out.h.le; omega
  have hl3' := hl3.out
  have hne9 : numI 12 rs = sgn (leN rs) 2 := by rw [numI, if_neg (by decide), hl3']; rfl
  have hbd : -2147483648 ≤ numI 12 rs ∧ numI 12 rs ≤ 2147483647 := by
    have h1 := leN_bd rs hby.out
    rw [hl3'] at h1
    rw [hne9, sgn2 _ (by omega)]
    omega
  have hv2 : V = endV OP 0 0 (numI 12 rs) 2 3 := by rw [hne9]; exact hVH.out
  go_step3
  exact number_lands OP 0 2 3 w W g7 V hR.out.h gop NM BY 12 (some ⟨b, off + (k + 1), none⟩) 2 C2 rs hR.out.i hR.out.f hR.out.o hl3'.symm hsub.out (by omega) hbd hv2

set_option maxHeartbeats 4000000 in
theorem dec_12_4 (b off cap m k : Nat) (zs : List Int) (OP : Int) (NM : List UInt8) (BY : Int) (w : World) (V : Value) (hm : m = zs.length) (hT : Tab w) (hl : Lies w (some ⟨b, off, none⟩) zs) (hbw : b < w.heap.size) (hcap : m ≤ cap) (hml : m ≤ 140737488355328) (hk : (k : Int) + 5 ≤ m)
    (hHd : ∀ W, Tab W → Lies W (some ⟨b, off, none⟩) zs → Calls Tryd.prog 17 #[.slice (some ⟨b, off, none⟩) m cap, .int .i64 (k : Int)] W fun e w' => e = .returned (.tuple #[instV OP 0 0 0 4, .int .i64 5, .int .i64 0]) ∧ Below W.heap.size W w')
    (hAt : ∀ W, Tab W → Calls Tryd.prog 18 #[.int .i64 OP] W fun e w' => e = .returned (.tuple #[opV NM BY 12, .bool true]) ∧ Below W.heap.size W w')
    (hV : V = endV OP (fA 12 ((zs.drop (k + 1)).take 4)) (fB 12 ((zs.drop (k + 1)).take 4)) (fN 12 4 ((zs.drop (k + 1)).take 4)) 4 5) :
    Calls Tryd.prog 8 #[.slice (some ⟨b, off, none⟩) m cap, .int .i64 (k : Int)] w fun e w' => e = .returned V ∧ Below w.heap.size w w' := by
  have hTH := Hid.intro hT
  have hlH := Hid.intro hl
  have hHdH := Hid.intro hHd
  have hAtH := Hid.intro hAt
  have hVH := Hid.intro hV
  have hmH := Hid.intro hm
  have hT0 := Hid.intro (hT.alloc (.cells #[.int .i64 0, .int .i64 0, .int .i64 0, .int .i32 0, .int .i64 0] 26))
  have hl0 := Hid.intro (hl.below (below_alloc w (.cells #[.int .i64 0, .int .i64 0, .int .i64 0, .int .i32 0, .int .i64 0] 26)))
  clear hT hl hHd hAt hV hm
  have hcapM : 4 ≤ cap - (k + 1) := by omega
  have hM : k + 5 - (k + 1) = 4 := by omega
  have hl3 : Hid (((zs.drop (k + 1)).take 4).length = 4) := by show _ = _; have := hmH.out; simp; omega
  have hby : Hid (AreBytes ((zs.drop (k + 1)).take 4)) := areBytes_take _ (areBytes_drop _ hlH.out.1 _) _
  have hMH := Hid.intro hM
  have hcH := Hid.intro hcapM
  clear hM hcapM
  go_enter Tryd.func8, Tryd.ntmps8
  go_wp2
  refine wp_scope_at (Q := Q8 V w) Tryd.f8 rfl ?_
  go_wp2_with (first
    | (go_at_call 17; (with_reducible refine (hHdH.out _ hT0.out hl0.out).mono ?_); rintro e w1 ⟨rfl, hb1⟩; have hT1 := Hid.intro (hT0.out.below hb1 hT0.out.size); replace hb1 := Hid.intro hb1; obtain ⟨a0, a1, a2, a3, a4, _⟩ := inst_new w1 OP 0 0 0 4)
    | (go_at_call 18; (with_reducible refine (hAtH.out _ (hT1.out.alloc _)).mono ?_); rintro e w3 ⟨rfl, hb3⟩; have hR := Hid.intro (ready_of (NM := NM) (BY := BY) (SH := 12) hTH.out hlH.out hbw hb1.out hb3); clear hb3; obtain ⟨o0, o1, o2, _⟩ := hR.out.o; obtain ⟨i0, i1, i2, i3, i4, _⟩ := hR.out.i; have ff := hR.out.f))
  have hsub := Hid.intro (lies_sub hR.out.l (k + 1) 4)
  rw [hMH.out]
  obtain ⟨rs, hrs⟩ : ∃ rs, rs = (zs.drop (k + 1)).take 4 := ⟨_, rfl⟩
  rw [← hrs] at hsub hl3 hby hVH
  obtain ⟨C2, hC2⟩ : ∃ C2, cap - (k + 1) = C2 := ⟨_, rfl⟩
  have hC3 : 4 ≤ C2 := by rw [← hC2]; exact hcH.out
  have hC4 : (4 : Int) ≤ (C2 : Int) := by omega
  rw [hC2]
  clear hrs hC2 hmH hcH hMH hk hl0 hlH hT0 hTH hT1 hb1 a0 a1 a2 a3 a4 hHdH hAtH
  generalize w3.alloc (.cells #[.string (str NM), .int .u8 BY, .int .i64 12] 51) = W at *
  generalize w1.heap.size = g7 at *
  generalize w3.heap.size = gop at *
  have hne7 : b ≠ g7 := by have := hR.out.bw; have := hR.out.h.le; omega
  have hl3' := hl3.out
  have hne9 : numI 12 rs = sgn (leN rs) 4 := by rw [numI, if_neg (by decide), hl3']; rfl
  have hbd : -2147483648 ≤ numI 12 rs ∧ numI 12 rs ≤ 2147483647 := by
    have h1 := leN_bd rs hby.out
    rw [hl3'] at h1
    rw [hne9, sgn4 _ (by omega)]
    omega
  have hv2 : V = endV OP 0 0 (numI 12 rs) 4 5 := by rw [hne9]; exact hVH.out
  go_step3
  exact number_lands OP 0 4 5 w W g7 V hR.out.h gop NM BY 12 (some ⟨b, off + (k + 1), none⟩) 4 C2 rs hR.out.i hR.out.f hR.out.o hl3'.symm hsub.out (by omega) hbd hv2

set_option maxHeartbeats 4000000 in
theorem dec_3_0 (b off cap m k : Nat) (zs : List Int) (OP : Int) (NM : List UInt8) (BY : Int) (w : World) (V : Value) (hm : m = zs.length) (hT : Tab w) (hl : Lies w (some ⟨b, off, none⟩) zs) (hbw : b < w.heap.size) (hcap : m ≤ cap) (hml : m ≤ 140737488355328) (hk : (k : Int) + 2 ≤ m)
    (hHd : ∀ W, Tab W → Lies W (some ⟨b, off, none⟩) zs → Calls Tryd.prog 17 #[.slice (some ⟨b, off, none⟩) m cap, .int .i64 (k : Int)] W fun e w' => e = .returned (.tuple #[instV OP 0 0 0 0, .int .i64 2, .int .i64 0]) ∧ Below W.heap.size W w')
    (hAt : ∀ W, Tab W → Calls Tryd.prog 18 #[.int .i64 OP] W fun e w' => e = .returned (.tuple #[opV NM BY 3, .bool true]) ∧ Below W.heap.size W w')
    (hV : V = endV OP (fA 3 ((zs.drop (k + 1)).take 1)) (fB 3 ((zs.drop (k + 1)).take 1)) (fN 3 0 ((zs.drop (k + 1)).take 1)) 0 2) :
    Calls Tryd.prog 8 #[.slice (some ⟨b, off, none⟩) m cap, .int .i64 (k : Int)] w fun e w' => e = .returned V ∧ Below w.heap.size w w' := by
  have hTH := Hid.intro hT
  have hlH := Hid.intro hl
  have hHdH := Hid.intro hHd
  have hAtH := Hid.intro hAt
  have hVH := Hid.intro hV
  have hmH := Hid.intro hm
  have hT0 := Hid.intro (hT.alloc (.cells #[.int .i64 0, .int .i64 0, .int .i64 0, .int .i32 0, .int .i64 0] 26))
  have hl0 := Hid.intro (hl.below (below_alloc w (.cells #[.int .i64 0, .int .i64 0, .int .i64 0, .int .i32 0, .int .i64 0] 26)))
  clear hT hl hHd hAt hV hm
  have hcapM : 1 ≤ cap - (k + 1) := by omega
  have hM : k + 2 - (k + 1) = 1 := by omega
  have hl3 : Hid (((zs.drop (k + 1)).take 1).length = 1) := by show _ = _; have := hmH.out; simp; omega
  have hby : Hid (AreBytes ((zs.drop (k + 1)).take 1)) := areBytes_take _ (areBytes_drop _ hlH.out.1 _) _
  have hMH := Hid.intro hM
  have hcH := Hid.intro hcapM
  clear hM hcapM
  go_enter Tryd.func8, Tryd.ntmps8
  go_wp2
  refine wp_scope_at (Q := Q8 V w) Tryd.f8 rfl ?_
  go_wp2_with (first
    | (go_at_call 17; (with_reducible refine (hHdH.out _ hT0.out hl0.out).mono ?_); rintro e w1 ⟨rfl, hb1⟩; have hT1 := Hid.intro (hT0.out.below hb1 hT0.out.size); replace hb1 := Hid.intro hb1; obtain ⟨a0, a1, a2, a3, a4, _⟩ := inst_new w1 OP 0 0 0 0)
    | (go_at_call 18; (with_reducible refine (hAtH.out _ (hT1.out.alloc _)).mono ?_); rintro e w3 ⟨rfl, hb3⟩; have hR := Hid.intro (ready_of (NM := NM) (BY := BY) (SH := 3) hTH.out hlH.out hbw hb1.out hb3); clear hb3; obtain ⟨o0, o1, o2, _⟩ := hR.out.o; obtain ⟨i0, i1, i2, i3, i4, _⟩ := hR.out.i; have ff := hR.out.f))
  have hsub := Hid.intro (lies_sub hR.out.l (k + 1) 1)
  rw [hMH.out]
  obtain ⟨rs, hrs⟩ : ∃ rs, rs = (zs.drop (k + 1)).take 1 := ⟨_, rfl⟩
  rw [← hrs] at hsub hl3 hby hVH
  obtain ⟨C2, hC2⟩ : ∃ C2, cap - (k + 1) = C2 := ⟨_, rfl⟩
  have hC3 : 1 ≤ C2 := by rw [← hC2]; exact hcH.out
  have hC4 : (1 : Int) ≤ (C2 : Int) := by omega
  rw [hC2]
  clear hrs hC2 hmH hcH hMH hk hl0 hlH hT0 hTH hT1 hb1 a0 a1 a2 a3 a4 hHdH hAtH
  generalize w3.alloc (.cells #[.string (str NM), .int .u8 BY, .int .i64 3] 51) = W at *
  generalize w1.heap.size = g7 at *
  generalize w3.heap.size = gop at *
  have hne7 : b ≠ g7 := by have := hR.out.bw; have := hR.out.h.le; omega
  obtain ⟨x0, xs, rfl⟩ : ∃ x xs, rs = x :: xs := by
    cases rs with
    | nil => have := hl3.out; simp at this
    | cons x xs => exact ⟨x, xs, rfl⟩
  have q0 : W.cell? ⟨b, off + (k + 1), none⟩ = some (.int .u8 x0) := by
    rcases hsub.out.2 with h | ⟨b', o', ha, hc⟩
    · cases h
    · cases ha
      have := hc 0 (by simp)
      simpa using this
  have hx0 := hby.out x0 (by simp)
  have ex0 : IntKind.i64.wrap x0 = x0 := by rw [IntKind.wrap_i64]; omega
  have hI2 := Hid.intro ((hR.out.i.setA x0).drew)
  have hH2 := Hid.intro ((hR.out.h.set 1 (.int .i64 x0)).drew)
  have o2' : (W.setCell ⟨g7, 1, none⟩ (.int .i64 x0)).drew.cell? ⟨gop, 2, none⟩ = some (.int .i64 3) := (World.cell?_setCell_other _ _ _ _ (by simp)).trans o2
  have ff' : ∀ j, (W.setCell ⟨g7, 1, none⟩ (.int .i64 x0)).drew.frozen? ⟨g7, j, none⟩ = false := fun j => (World.frozen?_setCell _ _ _ _).trans (ff j)
  have hlx : Hid (Lies (W.setCell ⟨g7, 1, none⟩ (.int .i64 x0)).drew (some ⟨b, off + (k + 1), none⟩) (x0 :: xs)) := hsub.out.set g7 1 _ (fun b' o' h => by cases h; exact hne7)
  have f1 := ff 1
  clear ff
  go_region
  clear i0 i1 i2 i3 i4 o0 o1 o2 q0 f1 hsub hR
  generalize (W.setCell ⟨g7, 1, none⟩ (.int .i64 x0)).drew = W5 at *
  obtain ⟨i0, i1, i2, i3, i4, _⟩ := hI2.out
  have hv2 : Hid (V = endV OP x0 0 0 0 2) := hVH.out
  go_wp2
  all_goals go_step3
  all_goals exact whole_lands OP x0 0 0 0 2 w _ g7 V hv2.out hH2.out.z hI2.out hH2.out.ne hH2.out.b hH2.out.t (by omega)
end Go.Proofs.YthboapfbgdcdoaaDoor

/- decode.Decode, from the labels 'number', 'parts' and 'pair' on. -/
import Derived.Test.YthboapfbgdcdoaaDoorNum
import Derived.Test.YthboapfbgdcdoaaDoorScope
import Derived.Test.YthboapfbgdcdoaaDoorOpAt
/- decode.Decode, from the label 'whole' on: the instruction is looked at. -/
namespace Go.Proofs.YthboapfbgdcdoaaDoor
open Go.ChangeShapes Go.WideShapes Go.ChangeAt Go.RowKit
set_option linter.unusedVariables false
set_option maxRecDepth 100000

def Q8 (V : Value) (w : World) : Exit → Act → World → Prop := bodyPost Tryd.prog Tryd.f8 fun e w' => e = .returned V ∧ Below w.heap.size w w'

/-- what Decode answers of an instruction that stands there -/
def endV (OP A B N F SZ : Int) : Value := if checkN OP A B N F = 0 then .tuple #[instV OP A B N F, .int .i64 SZ, .int .i64 0] else .tuple #[instV 0 0 0 0 0, .int .i64 0, .int .i64 (checkN OP A B N F)]

set_option maxHeartbeats 4000000 in
theorem whole_lands (OP A B N F SZ : Int) (w W : World) (g7 : Nat) (V : Value) (hV : V = endV OP A B N F SZ) (hz : ZBlk W w.heap.size) (hI : InstAt W g7 OP A B N F) (hne : g7 ≠ w.heap.size) (hb : Below w.heap.size w W) (hT : Tab W) (hn : -2147483648 ≤ N ∧ N ≤ 2147483647) {u0 u1 u2 u3 u5 u6 u9 u10 u11 u12 u13 u14 u15 u16 u17 u18 u19 u20 u21 u22 u23 u24 u25 u26 u27 u28 u29 u30 u31 u32 u33 u34 u35 u36 u37 u38 u39 u40 u41 u42 u43 u44 u45 u46 u47 u48 u49 u50 u51 u52 u53 u54 u55 u56 u57 u58 u59 u60 u61 u62 u63 u64 u65 u66 u67 u68 u69 u70 u71 u72 u73 u74 u75 u76 u77 u78 u79 u80 u81 u82 u83 u84 u85 u86 u87 u88 u89 u90 u91 u92 u93 u94 u95 : Value} :
    Lands Tryd.prog (scopeOf Tryd.f8) (Q8 V w) 0 { tmps := List.toArray (u0 :: u1 :: u2 :: u3 :: .pointer (some ⟨w.heap.size, 0, none⟩) :: u5 :: u6 :: .pointer (some ⟨g7, 0, none⟩) :: .int .i64 SZ :: u9 :: u10 :: u11 :: u12 :: u13 :: u14 :: u15 :: u16 :: u17 :: u18 :: u19 :: u20 :: u21 :: u22 :: u23 :: u24 :: u25 :: u26 :: u27 :: u28 :: u29 :: u30 :: u31 :: u32 :: u33 :: u34 :: u35 :: u36 :: u37 :: u38 :: u39 :: u40 :: u41 :: u42 :: u43 :: u44 :: u45 :: u46 :: u47 :: u48 :: u49 :: u50 :: u51 :: u52 :: u53 :: u54 :: u55 :: u56 :: u57 :: u58 :: u59 :: u60 :: u61 :: u62 :: u63 :: u64 :: u65 :: u66 :: u67 :: u68 :: u69 :: u70 :: u71 :: u72 :: u73 :: u74 :: u75 :: u76 :: u77 :: u78 :: u79 :: u80 :: u81 :: u82 :: u83 :: u84 :: u85 :: u86 :: u87 :: u88 :: u89 :: u90 :: u91 :: u92 :: u93 :: u94 :: u95 :: []), defers := [] } W := by
  refine Lands.of rfl ?_
  have hCk := Hid.intro (fun X hX => check_any OP A B N F X hX hn)
  have hzH := Hid.intro hz
  have hIH := Hid.intro hI
  have hbH := Hid.intro hb
  have hTH := Hid.intro hT
  have hVH := Hid.intro hV
  obtain ⟨i0, i1, i2, i3, i4, _⟩ := hIH.out
  clear hz hI hb hT hV
  unfold endV at hVH
  generalize checkN OP A B N F = C at *
  by_cases hc : C = 0
  · subst hc
    rw [if_pos rfl] at hVH
    go_wp2_with (go_at_call 22; (with_reducible refine (hCk.out _ hTH.out).mono ?_); rintro e w1 ⟨rfl, hb1⟩; obtain ⟨j0, j1, j2, j3, j4, _⟩ := hIH.out.below hb1 hIH.out.lt; obtain ⟨z0, z1, z2, z3, z4, zf⟩ := (hzH.out.below hb1 hzH.out.lt).cells; have hz1 := Hid.intro (hzH.out.below hb1 hzH.out.lt); have hw1 := Hid.intro (chain2 hbH.out hb1); clear hb1)
    rw [jumps_ret]
    have hset := hz1.out.set OP A B N F
    have hbw := below_setInst hw1.out (Nat.le_refl w.heap.size) OP A B N F
    change Q8 _ _ _ _ (setInst _ w.heap.size OP A B N F)
    generalize setInst _ w.heap.size OP A B N F = WW at *
    obtain ⟨y0, y1, y2, y3, y4, _⟩ := hset
    refine bodyPost_ret (by simp [results, Tryd.results8, go_sem, y0, y1, y2, y3, y4]; try rfl) rfl ?_
    exact ⟨by rw [hVH.out], hbw⟩
  · rw [if_neg hc] at hVH
    have e0 : (C == 0) = false := by simpa using hc
    have e1 : (C != 0) = true := by simpa using hc
    clear hc
    go_wp2_with (go_at_call 22; (with_reducible refine (hCk.out _ hTH.out).mono ?_); rintro e w1 ⟨rfl, hb1⟩; obtain ⟨z0, z1, z2, z3, z4, zf⟩ := (hzH.out.below hb1 hzH.out.lt).cells; have hz1 := Hid.intro (hzH.out.below hb1 hzH.out.lt); have hw1 := Hid.intro (chain2 hbH.out hb1); clear hb1)
    rw [jumps_ret]
    have hset := hz1.out.set 0 0 0 0 0
    have hbw := below_setInst hw1.out (Nat.le_refl w.heap.size) 0 0 0 0 0
    change Q8 _ _ _ _ (setInst _ w.heap.size 0 0 0 0 0)
    generalize setInst _ w.heap.size 0 0 0 0 0 = WW at *
    obtain ⟨y0, y1, y2, y3, y4, _⟩ := hset
    refine bodyPost_ret (by simp [results, Tryd.results8, go_sem, y0, y1, y2, y3, y4]; try rfl) rfl ?_
    exact ⟨by rw [hVH.out], hbw⟩
end Go.Proofs.YthboapfbgdcdoaaDoor
namespace Go.Proofs.YthboapfbgdcdoaaDoor
open Go.ChangeShapes Go.WideShapes Go.ChangeAt Go.RowKit
set_option linter.unusedVariables false
set_option maxRecDepth 100000

theorem some_is {α : Type} {x : Option α} {y : α} (h : x = some y) : x.isSome = true := by rw [h]; rfl
theorem InstAt.setA {W : World} {g : Nat} {o a b n f : Int} (h : InstAt W g o a b n f) (x : Int) : InstAt (W.setCell ⟨g, 1, none⟩ (.int .i64 x)) g o x b n f :=
  ⟨(World.cell?_setCell_other _ _ _ _ (by simp)).trans h.o, World.cell?_setCell_same' _ _ _ (some_is h.a), (World.cell?_setCell_other _ _ _ _ (by simp)).trans h.b, (World.cell?_setCell_other _ _ _ _ (by simp)).trans h.n, (World.cell?_setCell_other _ _ _ _ (by simp)).trans h.f, by simpa using h.lt⟩
theorem InstAt.setB {W : World} {g : Nat} {o a b n f : Int} (h : InstAt W g o a b n f) (x : Int) : InstAt (W.setCell ⟨g, 2, none⟩ (.int .i64 x)) g o a x n f :=
  ⟨(World.cell?_setCell_other _ _ _ _ (by simp)).trans h.o, (World.cell?_setCell_other _ _ _ _ (by simp)).trans h.a, World.cell?_setCell_same' _ _ _ (some_is h.b), (World.cell?_setCell_other _ _ _ _ (by simp)).trans h.n, (World.cell?_setCell_other _ _ _ _ (by simp)).trans h.f, by simpa using h.lt⟩
theorem InstAt.setN {W : World} {g : Nat} {o a b n f : Int} (h : InstAt W g o a b n f) (x : Int) : InstAt (W.setCell ⟨g, 3, none⟩ (.int .i32 x)) g o a b x f :=
  ⟨(World.cell?_setCell_other _ _ _ _ (by simp)).trans h.o, (World.cell?_setCell_other _ _ _ _ (by simp)).trans h.a, (World.cell?_setCell_other _ _ _ _ (by simp)).trans h.b, World.cell?_setCell_same' _ _ _ (some_is h.n), (World.cell?_setCell_other _ _ _ _ (by simp)).trans h.f, by simpa using h.lt⟩

/-- what stays when a cell of block g7 is written -/
structure Held (w W : World) (g7 : Nat) : Prop where
  z : ZBlk W w.heap.size
  b : Below w.heap.size w W
  t : Tab W
  ne : g7 ≠ w.heap.size
  two : 2 ≤ g7
  le : w.heap.size ≤ g7
theorem Held.drew {w W : World} {g7 : Nat} (h : Held w W g7) : Held w W.drew g7 := ⟨h.z, h.b.drew, h.t, h.ne, h.two, h.le⟩
theorem Held.set {w W : World} {g7 : Nat} (h : Held w W g7) (j : Nat) (v : Value) : Held w (W.setCell ⟨g7, j, none⟩ v) g7 := by
  refine ⟨(heap_setCell_other W ⟨g7, j, none⟩ w.heap.size v h.ne.symm).trans h.z, h.b.setCell h.le _, ?_, h.ne, h.two, h.le⟩
  obtain ⟨⟨t, y, h0⟩, t', y', h1⟩ := h.t
  have := h.two
  exact ⟨⟨t, y, (heap_setCell_other W ⟨g7, j, none⟩ 0 v (by simp; omega)).trans h0⟩, t', y', (heap_setCell_other W ⟨g7, j, none⟩ 1 v (by simp; omega)).trans h1⟩
theorem Lies.set {W : World} {a : Option Addr} {zs : List Int} (h : Lies W a zs) (g j : Nat) (v : Value) (hg : ∀ b off, a = some ⟨b, off, none⟩ → b ≠ g) : Lies (W.setCell ⟨g, j, none⟩ v) a zs := by
  refine ⟨h.1, ?_⟩
  rcases h.2 with h | ⟨b, off, ha, hc⟩
  · exact .inl h
  · exact .inr ⟨b, off, ha, fun i hi => by rw [World.cell?_setCell_other _ _ _ _ (by simp; intro e; exact absurd e.symm (hg b off ha))]; exact hc i hi⟩

set_option maxHeartbeats 4000000 in
theorem number_lands (OP A F SZ : Int) (w W : World) (g7 : Nat) (V : Value) (hH : Held w W g7) (gop : Nat) (NM : List UInt8) (BY SH : Int) (a : Option Addr) (m cap : Nat) (zs : List Int) (hI : InstAt W g7 OP A 0 0 F) (hF : ∀ j, W.frozen? ⟨g7, j, none⟩ = false) (hO : OpAt W gop NM BY SH) (hm : m = zs.length) (hl : Lies W a zs) (hw : m = 1 ∨ m = 2 ∨ m = 4) (hn : -2147483648 ≤ numI SH zs ∧ numI SH zs ≤ 2147483647) (hV : V = endV OP A 0 (numI SH zs) F SZ) {u0 u1 u2 u3 u5 u6 u9 u11 u13 u14 u15 u16 u17 u18 u19 u20 u21 u22 u23 u24 u25 u26 u27 u28 u29 u30 u31 u32 u33 u34 u35 u36 u37 u38 u39 u40 u41 u42 u43 u44 u45 u46 u47 u48 u49 u50 u51 u52 u53 u54 u55 u56 u57 u58 u59 u60 u61 u62 u63 u64 u65 u66 u67 u68 u69 u70 u71 u72 u73 u74 u75 u76 u77 u78 u79 u80 u81 u82 u83 u84 u85 u86 u87 u88 u89 u90 u91 u92 u93 u94 u95 : Value} :
    Lands Tryd.prog (scopeOf Tryd.f8) (Q8 V w) 2 { tmps := List.toArray (u0 :: u1 :: u2 :: u3 :: .pointer (some ⟨w.heap.size, 0, none⟩) :: u5 :: u6 :: .pointer (some ⟨g7, 0, none⟩) :: .int .i64 SZ :: u9 :: .pointer (some ⟨gop, 0, none⟩) :: u11 :: .slice a m cap :: u13 :: u14 :: u15 :: u16 :: u17 :: u18 :: u19 :: u20 :: u21 :: u22 :: u23 :: u24 :: u25 :: u26 :: u27 :: u28 :: u29 :: u30 :: u31 :: u32 :: u33 :: u34 :: u35 :: u36 :: u37 :: u38 :: u39 :: u40 :: u41 :: u42 :: u43 :: u44 :: u45 :: u46 :: u47 :: u48 :: u49 :: u50 :: u51 :: u52 :: u53 :: u54 :: u55 :: u56 :: u57 :: u58 :: u59 :: u60 :: u61 :: u62 :: u63 :: u64 :: u65 :: u66 :: u67 :: u68 :: u69 :: u70 :: u71 :: u72 :: u73 :: u74 :: u75 :: u76 :: u77 :: u78 :: u79 :: u80 :: u81 :: u82 :: u83 :: u84 :: u85 :: u86 :: u87 :: u88 :: u89 :: u90 :: u91 :: u92 :: u93 :: u94 :: u95 :: []), defers := [] } W := by
  refine Lands.of rfl ?_
  have hNu := Hid.intro (number_any a cap m zs SH W hm hl hw)
  obtain ⟨NN, hNN⟩ : ∃ NN, NN = numI SH zs := ⟨_, rfl⟩
  rw [← hNN] at hNu hn hV
  have hHH := Hid.intro hH
  have hIH := Hid.intro hI
  have hVH := Hid.intro hV
  have hnH := Hid.intro hn
  obtain ⟨i0, i1, i2, i3, i4, _⟩ := hIH.out
  obtain ⟨o0, o1, o2, _⟩ := hO
  have f3 : W.frozen? ⟨g7, 3, none⟩ = false := hF 3
  clear hH hI hV hn hm hl hw hNN
  go_wp2_with (go_at_call 19; (with_reducible refine hNu.out.mono ?_); rintro e w1 ⟨rfl, rfl⟩)
  go_step3
  exact whole_lands OP A 0 NN F SZ w _ g7 V hVH.out (hHH.out.set 3 _).z (hIH.out.setN NN) hHH.out.ne (hHH.out.set 3 _).b (hHH.out.set 3 _).t hnH.out

set_option maxHeartbeats 4000000 in
theorem parts_lands (OP A F SZ : Int) (w W : World) (g7 : Nat) (V : Value) (hH : Held w W g7) (bb off cap m : Nat) (z : Int) (hI : InstAt W g7 OP A 0 0 F) (hF : ∀ j, W.frozen? ⟨g7, j, none⟩ = false) (hc : W.cell? ⟨bb, off, none⟩ = some (.int .u8 z)) (hm : 1 ≤ m) (hbb : bb ≠ g7) (hz0 : 0 ≤ z) (hz1 : z ≤ 255) (hV : V = endV OP A (z / 16) (z % 16) F SZ) {u0 u1 u2 u3 u5 u6 u9 u10 u11 u13 u14 u15 u16 u17 u18 u19 u20 u21 u22 u23 u24 u25 u26 u27 u28 u29 u30 u31 u32 u33 u34 u35 u36 u37 u38 u39 u40 u41 u42 u43 u44 u45 u46 u47 u48 u49 u50 u51 u52 u53 u54 u55 u56 u57 u58 u59 u60 u61 u62 u63 u64 u65 u66 u67 u68 u69 u70 u71 u72 u73 u74 u75 u76 u77 u78 u79 u80 u81 u82 u83 u84 u85 u86 u87 u88 u89 u90 u91 u92 u93 u94 u95 : Value} :
    Lands Tryd.prog (scopeOf Tryd.f8) (Q8 V w) 3 { tmps := List.toArray (u0 :: u1 :: u2 :: u3 :: .pointer (some ⟨w.heap.size, 0, none⟩) :: u5 :: u6 :: .pointer (some ⟨g7, 0, none⟩) :: .int .i64 SZ :: u9 :: u10 :: u11 :: .slice (some ⟨bb, off, none⟩) m cap :: u13 :: u14 :: u15 :: u16 :: u17 :: u18 :: u19 :: u20 :: u21 :: u22 :: u23 :: u24 :: u25 :: u26 :: u27 :: u28 :: u29 :: u30 :: u31 :: u32 :: u33 :: u34 :: u35 :: u36 :: u37 :: u38 :: u39 :: u40 :: u41 :: u42 :: u43 :: u44 :: u45 :: u46 :: u47 :: u48 :: u49 :: u50 :: u51 :: u52 :: u53 :: u54 :: u55 :: u56 :: u57 :: u58 :: u59 :: u60 :: u61 :: u62 :: u63 :: u64 :: u65 :: u66 :: u67 :: u68 :: u69 :: u70 :: u71 :: u72 :: u73 :: u74 :: u75 :: u76 :: u77 :: u78 :: u79 :: u80 :: u81 :: u82 :: u83 :: u84 :: u85 :: u86 :: u87 :: u88 :: u89 :: u90 :: u91 :: u92 :: u93 :: u94 :: u95 :: []), defers := [] } W := by
  refine Lands.of rfl ?_
  have hHi := Hid.intro (fun X => high_any z hz0 hz1 X)
  have hLo := Hid.intro (fun X => low_any z hz0 hz1 X)
  obtain ⟨X1, hX1⟩ : ∃ x, x = z / 16 := ⟨_, rfl⟩
  obtain ⟨X2, hX2⟩ : ∃ x, x = z % 16 := ⟨_, rfl⟩
  have hr2 : 0 ≤ X2 ∧ X2 ≤ 15 := by omega
  have ew : IntKind.i32.wrap X2 = X2 := by rw [IntKind.wrap_i32]; omega
  rw [← hX1] at hHi
  rw [← hX2] at hLo
  rw [← hX1, ← hX2] at hV
  have hHH := Hid.intro hH
  have hIH := Hid.intro hI
  have hVH := Hid.intro hV
  obtain ⟨i0, i1, i2, i3, i4, _⟩ := hIH.out
  have f2 := hF 2
  have f3 := hF 3
  have hm0 : 0 < m := by omega
  have hm1 : (0 : Int) < (m : Int) := by omega
  clear hH hI hV hX1 hX2
  go_wp2
  go_region_with (first
    | (go_at_call 20; (with_reducible refine (hHi.out _).mono ?_); rintro e w1 ⟨rfl, rfl⟩)
    | (go_at_call 21; (with_reducible refine (hLo.out _).mono ?_); rintro e w1 ⟨rfl, rfl⟩))
  all_goals go_wp2
  all_goals go_step3
  all_goals exact whole_lands OP A X1 X2 F SZ w _ g7 V hVH.out ((hHH.out.set 2 _).set 3 _).drew.z ((hIH.out.setB X1).setN X2).drew hHH.out.ne ((hHH.out.set 2 _).set 3 _).drew.b ((hHH.out.set 2 _).set 3 _).drew.t (by omega)

set_option maxHeartbeats 4000000 in
theorem pair_lands (OP F SZ : Int) (w W : World) (g7 : Nat) (V : Value) (hH : Held w W g7) (bb off cap m : Nat) (z : Int) (hI : InstAt W g7 OP 0 0 0 F) (hF : ∀ j, W.frozen? ⟨g7, j, none⟩ = false) (hc : W.cell? ⟨bb, off, none⟩ = some (.int .u8 z)) (hm : 1 ≤ m) (hbb : bb ≠ g7) (hz0 : 0 ≤ z) (hz1 : z ≤ 255) (hV : V = endV OP (z / 16) (z % 16) 0 F SZ) {u0 u1 u2 u3 u5 u6 u9 u10 u11 u13 u14 u15 u16 u17 u18 u19 u20 u21 u22 u23 u24 u25 u26 u27 u28 u29 u30 u31 u32 u33 u34 u35 u36 u37 u38 u39 u40 u41 u42 u43 u44 u45 u46 u47 u48 u49 u50 u51 u52 u53 u54 u55 u56 u57 u58 u59 u60 u61 u62 u63 u64 u65 u66 u67 u68 u69 u70 u71 u72 u73 u74 u75 u76 u77 u78 u79 u80 u81 u82 u83 u84 u85 u86 u87 u88 u89 u90 u91 u92 u93 u94 u95 : Value} :
    Lands Tryd.prog (scopeOf Tryd.f8) (Q8 V w) 1 { tmps := List.toArray (u0 :: u1 :: u2 :: u3 :: .pointer (some ⟨w.heap.size, 0, none⟩) :: u5 :: u6 :: .pointer (some ⟨g7, 0, none⟩) :: .int .i64 SZ :: u9 :: u10 :: u11 :: .slice (some ⟨bb, off, none⟩) m cap :: u13 :: u14 :: u15 :: u16 :: u17 :: u18 :: u19 :: u20 :: u21 :: u22 :: u23 :: u24 :: u25 :: u26 :: u27 :: u28 :: u29 :: u30 :: u31 :: u32 :: u33 :: u34 :: u35 :: u36 :: u37 :: u38 :: u39 :: u40 :: u41 :: u42 :: u43 :: u44 :: u45 :: u46 :: u47 :: u48 :: u49 :: u50 :: u51 :: u52 :: u53 :: u54 :: u55 :: u56 :: u57 :: u58 :: u59 :: u60 :: u61 :: u62 :: u63 :: u64 :: u65 :: u66 :: u67 :: u68 :: u69 :: u70 :: u71 :: u72 :: u73 :: u74 :: u75 :: u76 :: u77 :: u78 :: u79 :: u80 :: u81 :: u82 :: u83 :: u84 :: u85 :: u86 :: u87 :: u88 :: u89 :: u90 :: u91 :: u92 :: u93 :: u94 :: u95 :: []), defers := [] } W := by
  refine Lands.of rfl ?_
  have hHi := Hid.intro (fun X => high_any z hz0 hz1 X)
  have hLo := Hid.intro (fun X => low_any z hz0 hz1 X)
  obtain ⟨X1, hX1⟩ : ∃ x, x = z / 16 := ⟨_, rfl⟩
  obtain ⟨X2, hX2⟩ : ∃ x, x = z % 16 := ⟨_, rfl⟩
  rw [← hX1] at hHi
  rw [← hX2] at hLo
  rw [← hX1, ← hX2] at hV
  have hHH := Hid.intro hH
  have hIH := Hid.intro hI
  have hVH := Hid.intro hV
  obtain ⟨i0, i1, i2, i3, i4, _⟩ := hIH.out
  have f1 := hF 1
  have f2 := hF 2
  have hm0 : 0 < m := by omega
  have hm1 : (0 : Int) < (m : Int) := by omega
  clear hH hI hV hX1 hX2
  have hI2 := Hid.intro ((hIH.out.setA X1).setB X2).drew
  have hH2 := Hid.intro ((hHH.out.set 1 (.int .i64 X1)).set 2 (.int .i64 X2)).drew
  obtain ⟨hzz, hbb2, htt, _, _, _⟩ := hH2.out
  have hzH := Hid.intro hzz
  have hbH := Hid.intro hbb2
  have hTH := Hid.intro htt
  clear hzz hbb2 htt hH2
  go_wp2
  go_region_with (first
    | (go_at_call 20; (with_reducible refine (hHi.out _).mono ?_); rintro e w1 ⟨rfl, rfl⟩)
    | (go_at_call 21; (with_reducible refine (hLo.out _).mono ?_); rintro e w1 ⟨rfl, rfl⟩))
  all_goals
    clear i0 i1 i2 i3 i4 f1 f2 hF hc hHi hLo hIH hHH
    generalize ((W.setCell ⟨g7, 1, none⟩ (.int .i64 X1)).setCell ⟨g7, 2, none⟩ (.int .i64 X2)).drew = WW at *
    obtain ⟨i0, i1, i2, i3, i4, _⟩ := hI2.out
    go_wp2
    go_step3
    have hCk := Hid.intro (fun X hX => check_any OP X1 X2 0 F X hX (by omega))
    unfold endV at hVH
    generalize checkN OP X1 X2 0 F = C at *
    by_cases hc : C = 0
    · subst hc
      rw [if_pos rfl] at hVH
      go_wp2_with (go_at_call 22; (with_reducible refine (hCk.out _ hTH.out).mono ?_); rintro e w1 ⟨rfl, hb1⟩; obtain ⟨j0, j1, j2, j3, j4, _⟩ := hI2.out.below hb1 hI2.out.lt; obtain ⟨z0, z1, z2, z3, z4, zf⟩ := (hzH.out.below hb1 hzH.out.lt).cells; have hz1 := Hid.intro (hzH.out.below hb1 hzH.out.lt); have hw1 := Hid.intro (chain2 hbH.out hb1); clear hb1)
      rw [jumps_ret]
      have hset := hz1.out.set OP X1 X2 0 F
      have hbw := below_setInst hw1.out (Nat.le_refl w.heap.size) OP X1 X2 0 F
      change Q8 _ _ _ _ (setInst _ w.heap.size OP X1 X2 0 F)
      generalize setInst _ w.heap.size OP X1 X2 0 F = WX at *
      obtain ⟨y0, y1, y2, y3, y4, _⟩ := hset
      refine bodyPost_ret (by simp [results, Tryd.results8, go_sem, y0, y1, y2, y3, y4]; try rfl) rfl ?_
      exact ⟨by rw [hVH.out], hbw⟩
    · rw [if_neg hc] at hVH
      have e0 : (C == 0) = false := by simpa using hc
      have e1 : (C != 0) = true := by simpa using hc
      clear hc
      go_wp2_with (go_at_call 22; (with_reducible refine (hCk.out _ hTH.out).mono ?_); rintro e w1 ⟨rfl, hb1⟩; obtain ⟨z0, z1, z2, z3, z4, zf⟩ := (hzH.out.below hb1 hzH.out.lt).cells; have hz1 := Hid.intro (hzH.out.below hb1 hzH.out.lt); have hw1 := Hid.intro (chain2 hbH.out hb1); clear hb1)
      rw [jumps_ret]
      have hset := hz1.out.set 0 0 0 0 0
      have hbw := below_setInst hw1.out (Nat.le_refl w.heap.size) 0 0 0 0 0
      change Q8 _ _ _ _ (setInst _ w.heap.size 0 0 0 0 0)
      generalize setInst _ w.heap.size 0 0 0 0 0 = WX at *
      obtain ⟨y0, y1, y2, y3, y4, _⟩ := hset
      refine bodyPost_ret (by simp [results, Tryd.results8, go_sem, y0, y1, y2, y3, y4]; try rfl) rfl ?_
      exact ⟨by rw [hVH.out], hbw⟩
end Go.Proofs.YthboapfbgdcdoaaDoor

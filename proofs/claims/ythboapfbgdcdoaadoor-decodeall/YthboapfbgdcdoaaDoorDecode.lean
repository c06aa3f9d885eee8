/- decode.Decode: what it answers of any bytes at any place. -/
import Derived.Test.YthboapfbgdcdoaaDoorDec2
import Derived.Test.YthboapfbgdcdoaaDoorDec3
namespace Go.Proofs.YthboapfbgdcdoaaDoor
open Go.ChangeShapes Go.WideShapes Go.ChangeAt Go.RowKit
set_option linter.unusedVariables false
set_option maxRecDepth 100000

/-- what Decode answers -/
def decV (zs : List Int) (at' : Int) : Value := .tuple #[(decX zs at').val, .int .i64 (decL zs at'), .int .i64 (decE zs at')]

theorem decV_end {zs : List Int} {k : Nat} {c : Int} (hc : c = zs.getD k 0) (h : hdE zs (k : Int) = 0) :
    decV zs (k : Int) = endV (opI c) (fA (shpI c) ((zs.drop (k + 1)).take ((sizI c).toNat - 1))) (fB (shpI c) ((zs.drop (k + 1)).take ((sizI c).toNat - 1))) (fN (shpI c) (frmI c) ((zs.drop (k + 1)).take ((sizI c).toNat - 1))) (frmI c) (sizI c) := by
  subst hc
  have e1 : decE zs (k : Int) = (rawI zs k).chk := by rw [decE, if_pos h, Int.toNat_natCast]
  change _ = if (rawI zs k).chk = 0 then Value.tuple #[(rawI zs k).val, .int .i64 (sizI (zs.getD k 0)), .int .i64 0] else .tuple #[instV 0 0 0 0 0, .int .i64 0, .int .i64 (rawI zs k).chk]
  unfold decV
  by_cases hq : (rawI zs k).chk = 0
  · rw [if_pos hq, decX, decL, e1, hq, if_pos rfl, if_pos rfl, Int.toNat_natCast]
  · rw [if_neg hq, decX, decL, e1, if_neg hq, if_neg hq]
    rfl
theorem decV_bad {zs : List Int} {at' : Int} (h : hdE zs at' ≠ 0) : decV zs at' = .tuple #[instV 0 0 0 0 0, .int .i64 0, .int .i64 (hdE zs at')] := by
  have e1 : decE zs at' = hdE zs at' := by rw [decE, if_neg h]
  unfold decV
  rw [decX, decL, e1, if_neg h, if_neg h]
  rfl

set_option maxHeartbeats 4000000 in
theorem decode_bad (a : Option Addr) (cap m : Nat) (zs : List Int) (at' : Int) (w : World) (hm : m = zs.length) (hT : Tab w) (hl : Lies w a zs) (hml : zs.length ≤ 140737488355328) (ha : -9223372036854775808 ≤ at' ∧ at' ≤ 9223372036854775807) (hE : hdE zs at' ≠ 0) :
    Calls Tryd.prog 8 #[.slice a m cap, .int .i64 at'] w fun e w' => e = .returned (decV zs at') ∧ Below w.heap.size w w' := by
  have hHd : ∀ W, Tab W → Lies W a zs → Calls Tryd.prog 17 #[.slice a m cap, .int .i64 at'] W fun e w' => e = .returned (.tuple #[instV 0 0 0 0 0, .int .i64 0, .int .i64 (hdE zs at')]) ∧ Below W.heap.size W w' := fun W hW hL =>
    (head_any a cap m zs at' W hm hW hL hml ha).mono fun e w' ⟨he, hb⟩ => ⟨by rw [he, hdV, if_neg hE], hb⟩
  rw [decV_bad hE]
  generalize hdE zs at' = E at *
  have hHdH := Hid.intro hHd
  have hT0 := Hid.intro (hT.alloc (.cells #[.int .i64 0, .int .i64 0, .int .i64 0, .int .i32 0, .int .i64 0] 26))
  have hl0 := Hid.intro (hl.below (below_alloc w (.cells #[.int .i64 0, .int .i64 0, .int .i64 0, .int .i32 0, .int .i64 0] 26)))
  have hb0 := Hid.intro (below_alloc w (.cells #[.int .i64 0, .int .i64 0, .int .i64 0, .int .i32 0, .int .i64 0] 26))
  have hz0 := Hid.intro (zblk_new w)
  have e0 : (E == 0) = false := by simpa using hE
  have e1 : (E != 0) = true := by simpa using hE
  clear hT hl hHd hm hE
  go_enter Tryd.func8, Tryd.ntmps8
  go_wp2
  refine wp_scope_at (Q := Q8 (.tuple #[instV 0 0 0 0 0, .int .i64 0, .int .i64 E]) w) Tryd.f8 rfl ?_
  go_wp2_with (go_at_call 17; (with_reducible refine (hHdH.out _ hT0.out hl0.out).mono ?_); rintro e w1 ⟨rfl, hb1⟩; have hwl := Hid.intro (chain2 hb1 (below_alloc w1 (.cells #[.int .i64 0, .int .i64 0, .int .i64 0, .int .i32 0, .int .i64 0] 26))); clear hb1; obtain ⟨z0, z1, z2, z3, z4, zf⟩ := (hz0.out.below hwl.out hz0.out.lt).cells)
  rw [jumps_ret]
  have hset := (hz0.out.below hwl.out hz0.out.lt).set 0 0 0 0 0
  have hbw := below_setInst (hb0.out.trans (hwl.out.mono hb0.out.size)) (Nat.le_refl w.heap.size) 0 0 0 0 0
  change Q8 _ _ _ _ (setInst _ w.heap.size 0 0 0 0 0)
  generalize setInst _ w.heap.size 0 0 0 0 0 = WW at *
  obtain ⟨y0, y1, y2, y3, y4, _⟩ := hset
  refine bodyPost_ret (by simp [results, Tryd.results8, go_sem, y0, y1, y2, y3, y4]; try rfl) rfl ?_
  exact ⟨rfl, hbw⟩

theorem hdE_ok {zs : List Int} {at' : Int} (h : hdE zs at' = 0) : ∃ k : Nat, at' = k ∧ k < zs.length ∧ begI (zs.getD k 0) < 43 ∧ (k : Int) + sizI (zs.getD k 0) ≤ zs.length := by
  unfold hdE at h
  by_cases h1 : at' < 0 ∨ (zs.length : Int) < at'
  · rw [if_pos h1] at h; omega
  rw [if_neg h1] at h
  by_cases h2 : at' = zs.length
  · rw [if_pos h2] at h; omega
  rw [if_neg h2] at h
  obtain ⟨k, rfl⟩ : ∃ k : Nat, at' = k := ⟨at'.toNat, by omega⟩
  rw [Int.toNat_natCast] at h
  by_cases h3 : begI (zs.getD k 0) = 43
  · rw [if_pos h3] at h; omega
  rw [if_neg h3] at h
  by_cases h4 : (zs.length : Int) - k < sizI (zs.getD k 0)
  · rw [if_pos h4] at h; omega
  have := begI_le (zs.getD k 0)
  exact ⟨k, rfl, by omega, by omega, by omega⟩

theorem decode_any (a : Option Addr) (cap m : Nat) (zs : List Int) (at' : Int) (w : World) (hm : m = zs.length) (hT : Tab w) (hl : Lies w a zs) (hcap : m ≤ cap) (hml : m ≤ 140737488355328) (ha : -9223372036854775808 ≤ at' ∧ at' ≤ 9223372036854775807) :
    Calls Tryd.prog 8 #[.slice a m cap, .int .i64 at'] w fun e w' => e = .returned (decV zs at') ∧ Below w.heap.size w w' := by
  by_cases hE : hdE zs at' = 0
  · obtain ⟨k, rfl, hkl, hb43, hfit⟩ := hdE_ok hE
    obtain ⟨c, hc⟩ : ∃ c, c = zs.getD k 0 := ⟨_, rfl⟩
    have hV := decV_end hc hE
    rw [← hc] at hb43 hfit
    have hHd : ∀ W, Tab W → Lies W a zs → Calls Tryd.prog 17 #[.slice a m cap, .int .i64 (k : Int)] W fun e w' => e = .returned (.tuple #[instV (opI c) 0 0 0 (frmI c), .int .i64 (sizI c), .int .i64 0]) ∧ Below W.heap.size W w' := fun W hW hL =>
      (head_any a cap m zs k W hm hW hL (by omega) ha).mono fun e w' ⟨he, hb⟩ => ⟨by rw [he, hdV, if_pos hE, Int.toNat_natCast, ← hc], hb⟩
    obtain ⟨s, hs, hsn, h1, h14⟩ := shp_nat hb43
    have hfc := frm_cases (begI_is hb43)
    have hAt : ∀ W, Tab W → Calls Tryd.prog 18 #[.int .i64 (opI c)] W fun e w' => e = .returned (.tuple #[opV (nameAt (begI c)) (byteAt (begI c)) (s : Int), .bool true]) ∧ Below W.heap.size W w' := fun W hW => by
      have := atE_parts (begI c) hb43 W hW
      rw [hs] at this
      exact this
    have hsh : shpI c = s := hsn
    rw [hs] at hfc
    rw [← hm] at hfit
    clear hsn hs hc hE hb43
    obtain ⟨b, off, rfl, hbw⟩ : ∃ b off, a = some ⟨b, off, none⟩ ∧ b < w.heap.size := by
      rcases hl.2 with h | ⟨b, off, ha, hcc⟩
      · rw [h] at hkl; simp at hkl
      · exact ⟨b, off, ha, World.block_lt_of_cell? w _ (hcc 0 (by omega))⟩
    rcases hfc with ⟨hsp, hf, -⟩ | ⟨hsp, hf⟩
    · change frmI c = 0 at hf
      rcases lim_cases s h14 with rfl | rfl | rfl | rfl | rfl | rfl | rfl | rfl | rfl | rfl | rfl | rfl | rfl | rfl
      · omega
      · have eS : sizI c = 1 := by rw [sizI, hsh, sizeAt1, hf]; rfl
        rw [hf, eS] at hHd
        rw [hsh, hf, eS] at hV
        exact dec_1_0 b off cap m k zs (opI c) (nameAt (begI c)) (byteAt (begI c)) w _ hm hT hl hbw hcap hml (by rw [eS] at hfit; omega) hHd hAt hV
      · have eS : sizI c = 2 := by rw [sizI, hsh, sizeAt2, hf]; rfl
        rw [hf, eS] at hHd
        rw [hsh, hf, eS] at hV
        exact dec_2_0 b off cap m k zs (opI c) (nameAt (begI c)) (byteAt (begI c)) w _ hm hT hl hbw hcap hml (by rw [eS] at hfit; omega) hHd hAt hV
      · have eS : sizI c = 2 := by rw [sizI, hsh, sizeAt3, hf]; rfl
        rw [hf, eS] at hHd
        rw [hsh, hf, eS] at hV
        exact dec_3_0 b off cap m k zs (opI c) (nameAt (begI c)) (byteAt (begI c)) w _ hm hT hl hbw hcap hml (by rw [eS] at hfit; omega) hHd hAt hV
      · have eS : sizI c = 2 := by rw [sizI, hsh, sizeAt4, hf]; rfl
        rw [hf, eS] at hHd
        rw [hsh, hf, eS] at hV
        exact dec_4_0 b off cap m k zs (opI c) (nameAt (begI c)) (byteAt (begI c)) w _ hm hT hl hbw hcap hml (by rw [eS] at hfit; omega) hHd hAt hV
      · have eS : sizI c = 2 := by rw [sizI, hsh, sizeAt5, hf]; rfl
        rw [hf, eS] at hHd
        rw [hsh, hf, eS] at hV
        exact dec_5_0 b off cap m k zs (opI c) (nameAt (begI c)) (byteAt (begI c)) w _ hm hT hl hbw hcap hml (by rw [eS] at hfit; omega) hHd hAt hV
      · have eS : sizI c = 2 := by rw [sizI, hsh, sizeAt6, hf]; rfl
        rw [hf, eS] at hHd
        rw [hsh, hf, eS] at hV
        exact dec_6_0 b off cap m k zs (opI c) (nameAt (begI c)) (byteAt (begI c)) w _ hm hT hl hbw hcap hml (by rw [eS] at hfit; omega) hHd hAt hV
      · have eS : sizI c = 3 := by rw [sizI, hsh, sizeAt7, hf]; rfl
        rw [hf, eS] at hHd
        rw [hsh, hf, eS] at hV
        exact dec_7_0 b off cap m k zs (opI c) (nameAt (begI c)) (byteAt (begI c)) w _ hm hT hl hbw hcap hml (by rw [eS] at hfit; omega) hHd hAt hV
      · have eS : sizI c = 3 := by rw [sizI, hsh, sizeAt8, hf]; rfl
        rw [hf, eS] at hHd
        rw [hsh, hf, eS] at hV
        exact dec_8_0 b off cap m k zs (opI c) (nameAt (begI c)) (byteAt (begI c)) w _ hm hT hl hbw hcap hml (by rw [eS] at hfit; omega) hHd hAt hV
      · have eS : sizI c = 2 := by rw [sizI, hsh, sizeAt9, hf]; rfl
        rw [hf, eS] at hHd
        rw [hsh, hf, eS] at hV
        exact dec_9_0 b off cap m k zs (opI c) (nameAt (begI c)) (byteAt (begI c)) w _ hm hT hl hbw hcap hml (by rw [eS] at hfit; omega) hHd hAt hV
      · have eS : sizI c = 6 := by rw [sizI, hsh, sizeAt10, hf]; rfl
        rw [hf, eS] at hHd
        rw [hsh, hf, eS] at hV
        exact dec_10_0 b off cap m k zs (opI c) (nameAt (begI c)) (byteAt (begI c)) w _ hm hT hl hbw hcap hml (by rw [eS] at hfit; omega) hHd hAt hV
      · have eS : sizI c = 4 := by rw [sizI, hsh, sizeAt11, hf]; rfl
        rw [hf, eS] at hHd
        rw [hsh, hf, eS] at hV
        exact dec_11_0 b off cap m k zs (opI c) (nameAt (begI c)) (byteAt (begI c)) w _ hm hT hl hbw hcap hml (by rw [eS] at hfit; omega) hHd hAt hV
      · cases hsp
      · cases hsp
    · have hs2 : s = 12 ∨ s = 13 := by
        simp [spansB] at hsp
        omega
      rcases hs2 with rfl | rfl
      · rcases hf with ⟨hf, -⟩ | ⟨hf, -⟩ | ⟨hf, -⟩ <;> change frmI c = _ at hf
        · have eS : sizI c = 2 := by rw [sizI, hsh, sizeAt12, hf]; rfl
          rw [hf, eS] at hHd
          rw [hsh, hf, eS] at hV
          exact dec_12_1 b off cap m k zs (opI c) (nameAt (begI c)) (byteAt (begI c)) w _ hm hT hl hbw hcap hml (by rw [eS] at hfit; omega) hHd hAt hV
        · have eS : sizI c = 3 := by rw [sizI, hsh, sizeAt12, hf]; rfl
          rw [hf, eS] at hHd
          rw [hsh, hf, eS] at hV
          exact dec_12_2 b off cap m k zs (opI c) (nameAt (begI c)) (byteAt (begI c)) w _ hm hT hl hbw hcap hml (by rw [eS] at hfit; omega) hHd hAt hV
        · have eS : sizI c = 5 := by rw [sizI, hsh, sizeAt12, hf]; rfl
          rw [hf, eS] at hHd
          rw [hsh, hf, eS] at hV
          exact dec_12_4 b off cap m k zs (opI c) (nameAt (begI c)) (byteAt (begI c)) w _ hm hT hl hbw hcap hml (by rw [eS] at hfit; omega) hHd hAt hV
      · rcases hf with ⟨hf, -⟩ | ⟨hf, -⟩ | ⟨hf, -⟩ <;> change frmI c = _ at hf
        · have eS : sizI c = 3 := by rw [sizI, hsh, sizeAt13, hf]; rfl
          rw [hf, eS] at hHd
          rw [hsh, hf, eS] at hV
          exact dec_13_1 b off cap m k zs (opI c) (nameAt (begI c)) (byteAt (begI c)) w _ hm hT hl hbw hcap hml (by rw [eS] at hfit; omega) hHd hAt hV
        · have eS : sizI c = 4 := by rw [sizI, hsh, sizeAt13, hf]; rfl
          rw [hf, eS] at hHd
          rw [hsh, hf, eS] at hV
          exact dec_13_2 b off cap m k zs (opI c) (nameAt (begI c)) (byteAt (begI c)) w _ hm hT hl hbw hcap hml (by rw [eS] at hfit; omega) hHd hAt hV
        · have eS : sizI c = 6 := by rw [sizI, hsh, sizeAt13, hf]; rfl
          rw [hf, eS] at hHd
          rw [hsh, hf, eS] at hV
          exact dec_13_4 b off cap m k zs (opI c) (nameAt (begI c)) (byteAt (begI c)) w _ hm hT hl hbw hcap hml (by rw [eS] at hfit; omega) hHd hAt hV
  · exact decode_bad a cap m zs at' w hm hT hl (by omega) ha hE

end Go.Proofs.YthboapfbgdcdoaaDoor

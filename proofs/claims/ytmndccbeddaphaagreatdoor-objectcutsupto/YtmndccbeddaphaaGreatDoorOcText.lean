/- Contracts of octet.GetText and of the document's GetText: what they answer of bytes that lie in memory. -/
import Derived.Test.YtmndccbeddaphaaGreatDoorOcGets0
import Derived.Laws.BytesArg
namespace Go.Proofs.YtmndccbeddaphaaGreatDoor.O
open Go.ChangeShapes Go.WideShapes Go.ChangeAt Go.RowKit
set_option linter.unusedVariables false

def getTE (zs : List Int) (at' most : Int) : Int :=
  if getE zs at' 2 = 0 then (if most < getN zs at' 2 then 3 else if (zs.length : Int) - (at' + 2) < getN zs at' 2 then 10 else 0) else getE zs at' 2
def getTo (zs : List Int) (at' most : Int) : Int := if getTE zs at' most = 0 then at' + 2 + getN zs at' 2 else 0
def getTS (zs : List Int) (at' most : Int) : ByteArray :=
  if getTE zs at' most = 0 then strOfNums ((zs.drop (at'.toNat + 2)).take (getN zs at' 2).toNat) else ByteArray.empty

theorem refGet_any (a : Option Addr) (cap : Nat) (zs : List Int) (at' width : Int) (w : World) (hl : Lies w a zs) (hm : zs.length ≤ maxLen) (ha : -9223372036854775808 ≤ at' ∧ at' ≤ 9223372036854775807) :
    Calls Tryz.prog 89 #[.slice a zs.length cap, .int .i64 at', .int .i64 width] w fun e w' => e = .returned (.tuple #[.int .u32 (getN zs at' width), .int .i64 (getE zs at' width)]) ∧ w' = w := by
  by_cases h1 : isW width = false
  · have e : getE zs at' width = 1 := by simp [getE, h1]
    have e' : getN zs at' width = 0 := by simp [getN, e]
    rw [e, e']
    clear e e'
    have hne : (width == 1) = false ∧ (width == 2) = false ∧ (width == 4) = false := by simp [isW] at h1; simp; omega
    obtain ⟨n1, n2, n4⟩ := hne
    have m1 : (width != 1) = true := by simp [bne, n1]
    have m2 : (width != 2) = true := by simp [bne, n2]
    have m4 : (width != 4) = true := by simp [bne, n4]
    unfold maxLen at hm
    go_enter Tryz.func89, Tryz.ntmps89
    go_wp2
    go_ret2
    exact ⟨rfl, rfl⟩
  · replace h1 : isW width = true := by simpa using h1
    by_cases h2 : at' < 0
    · have e : getE zs at' width = 1 := by simp [getE, h2]
      have e' : getN zs at' width = 0 := by simp [getN, e]
      rw [e, e']
      clear e e'
      unfold maxLen at hm
      rcases isW_cases h1 with rfl | rfl | rfl
      all_goals
        go_enter Tryz.func89, Tryz.ntmps89
        go_wp2
        go_ret2
        exact ⟨rfl, rfl⟩
    · by_cases h3 : (zs.length : Int) < at'
      · have e : getE zs at' width = 1 := by simp [getE, h3]
        have e' : getN zs at' width = 0 := by simp [getN, e]
        rw [e, e']
        clear e e'
        unfold maxLen at hm
        rcases isW_cases h1 with rfl | rfl | rfl
        all_goals
          go_enter Tryz.func89, Tryz.ntmps89
          go_wp2
          go_ret2
          exact ⟨rfl, rfl⟩
      · obtain ⟨k, rfl⟩ : ∃ k : Nat, at' = k := ⟨at'.toNat, by omega⟩
        by_cases h4 : (zs.length : Int) - k < width
        · have e : getE zs k width = 10 := by simp only [getE]; rw [if_neg (by simp [h1]; omega), if_pos h4]
          have e' : getN zs k width = 0 := by simp [getN, e]
          rw [e, e']
          clear e e'
          unfold maxLen at hm
          rcases isW_cases h1 with rfl | rfl | rfl
          all_goals
            go_enter Tryz.func89, Tryz.ntmps89
            go_wp2
            go_ret2
            exact ⟨rfl, rfl⟩
        · have e : getE zs k width = 0 := by simp only [getE]; rw [if_neg (by simp [h1]; omega), if_neg h4]
          have hwc := isW_cases h1
          obtain ⟨wd, rfl⟩ : ∃ wd : Nat, width = wd := ⟨width.toNat, by omega⟩
          have e' : getN zs k wd = partN zs k wd := by simp [getN, e, partN]
          rw [e, e']
          obtain ⟨hz, hb⟩ := hl
          rcases hb with rfl | ⟨b, off, rfl, hc⟩
          · simp at h4; omega
          · exact refGet_ok b off k wd cap zs w hz hc hm (by omega) (by omega)

theorem convert_none (a : Option Addr) (c : Nat) (w : World) : (convert 22 9 (.slice a 0 c)).run Tryz.prog w = .ok (.string ByteArray.empty) w := by
  cases a with
  | none => exact run_convert_bytes_nil (P := Tryz.prog) w 22 5 Tryz.underlying22 Tryz.underlying5 0 c 9 Tryz.underlying9
  | some a =>
    have hl : (loadCells a 0).run Tryz.prog w = .ok ((([] : List Int).map (Value.int .u8)).toArray) w := by
      have := run_loadCells_list (P := Tryz.prog) w a (([] : List Int).map (Value.int .u8)) (fun j v hj => by simp at hj)
      simpa using this
    rw [run_convert_bytes_string w 22 9 5 _ 0 c Tryz.underlying22 Tryz.underlying5 Tryz.underlying9, run_bytesToString w _ 0 c [] hl]
    rfl

theorem getN_bd (zs : List Int) (hz : AreBytes zs) (at' : Int) : 0 ≤ getN zs at' 2 ∧ getN zs at' 2 ≤ 65535 := by
  by_cases h : getE zs at' 2 = 0
  · simp only [getN, h, if_true]
    have hb := leN_bd ((zs.drop at'.toNat).take (2 : Int).toNat) (areBytes_take _ (areBytes_drop _ hz _) _)
    have hl : ((zs.drop at'.toNat).take (2 : Int).toNat).length ≤ 2 := List.length_take_le _ _
    have hp : (256 : Int) ^ ((zs.drop at'.toNat).take (2 : Int).toNat).length ≤ 65536 := by
      have : ((zs.drop at'.toNat).take (2 : Int).toNat).length = 0 ∨ ((zs.drop at'.toNat).take (2 : Int).toNat).length = 1 ∨ ((zs.drop at'.toNat).take (2 : Int).toNat).length = 2 := by omega
      rcases this with h | h | h <;> rw [h] <;> decide
    omega
  · simp [getN, h]

theorem getText_ok0 (a : Option Addr) (k cap : Nat) (zs : List Int) (most : Int) (w : World) (hl : Lies w a zs) (hm : zs.length ≤ maxLen) (hcap : zs.length ≤ cap)
    (he : getE zs k 2 = 0) (hn : getN zs k 2 = 0) (hk : k + 2 ≤ zs.length) (hmo : 0 ≤ most) :
    Calls Tryz.prog 140 #[.slice a zs.length cap, .int .i64 k, .int .i64 most] w fun e w' => e = .returned (.tuple #[.string ByteArray.empty, .int .i64 ((k : Int) + 2), .int .i64 0]) ∧ w' = w := by
  have hg := get_any a cap zs k 2 w hl hm (by unfold maxLen at hm; omega)
  rw [he, hn] at hg
  have kc := convert_none
  unfold maxLen at hm
  go_enter Tryz.func140, Tryz.ntmps140
  go_wp2_with (first | (go_at_call 137; refine hg.mono ?_; rintro e w' ⟨rfl, rfl⟩))
  all_goals
    go_ret3
    exact ⟨rfl, rfl⟩

theorem getText_ok1 (b off k n cap : Nat) (zs : List Int) (most : Int) (w : World) (hz : AreBytes zs) (hc : ∀ i, i < zs.length → w.cell? ⟨b, off + i, none⟩ = some (.int .u8 (zs.getD i 0))) (hm : zs.length ≤ maxLen) (hcap : zs.length ≤ cap)
    (he : getE zs k 2 = 0) (hn : getN zs k 2 = n) (h0 : 0 < n) (hk : k + 2 + n ≤ zs.length) (hmo : (n : Int) ≤ most) (h64 : n ≤ 65535) :
    Calls Tryz.prog 140 #[.slice (some ⟨b, off, none⟩) zs.length cap, .int .i64 k, .int .i64 most] w fun e w' => e = .returned (.tuple #[.string (strOfNums ((zs.drop (k + 2)).take n)), .int .i64 ((k : Int) + 2 + n), .int .i64 0]) ∧ w' = w := by
  have hg := get_any (some ⟨b, off, none⟩) cap zs k 2 w ⟨hz, .inr ⟨b, off, rfl, hc⟩⟩ hm (by unfold maxLen at hm; omega)
  rw [he, hn] at hg
  have kc := fun cp => run_convert_bytes_arg (P := Tryz.prog) w 22 5 Tryz.underlying22 Tryz.underlying5 b (off + (k + 2)) n cp ((zs.drop (k + 2)).take n) (by simp; omega)
    (fun i hi => by rw [Nat.add_assoc, hc (k + 2 + i) (by omega)]; simp [List.getElem?_take_of_lt hi]) 9 Tryz.underlying9
  unfold maxLen at hm
  clear hc hz
  go_enter Tryz.func140, Tryz.ntmps140
  go_wp2_with (first | (go_at_call 137; refine hg.mono ?_; rintro e w' ⟨rfl, rfl⟩))
  go_ret3
  exact ⟨rfl, rfl⟩

theorem getText_any (a : Option Addr) (cap : Nat) (zs : List Int) (at' most : Int) (w : World) (hl : Lies w a zs) (hm : zs.length ≤ maxLen) (hcap : zs.length ≤ cap) (ha : -9223372036854775808 ≤ at' ∧ at' ≤ 9223372036854775807) :
    Calls Tryz.prog 140 #[.slice a zs.length cap, .int .i64 at', .int .i64 most] w fun e w' => e = .returned (.tuple #[.string (getTS zs at' most), .int .i64 (getTo zs at' most), .int .i64 (getTE zs at' most)]) ∧ w' = w := by
  by_cases he : getE zs at' 2 = 0
  · have hk : 0 ≤ at' ∧ at' + 2 ≤ zs.length := by
      simp only [getE] at he
      split at he
      · omega
      · split at he <;> omega
    obtain ⟨k, rfl⟩ : ∃ k : Nat, at' = k := ⟨at'.toNat, by omega⟩
    have hb := getN_bd zs hl.1 k
    obtain ⟨n, hn⟩ : ∃ n : Nat, getN zs k 2 = n := ⟨(getN zs k 2).toNat, by omega⟩
    rw [hn] at hb
    by_cases h1 : most < n
    · have e1 : getTE zs k most = 3 := by simp [getTE, he, hn, h1]
      have e2 : getTS zs k most = ByteArray.empty := by simp [getTS, e1]
      have e3 : getTo zs k most = 0 := by simp [getTo, e1]
      rw [e1, e2, e3]
      have hg := get_any a cap zs k 2 w hl hm ha
      rw [he, hn] at hg
      clear e1 e2 e3 he hn
      unfold maxLen at hm
      go_enter Tryz.func140, Tryz.ntmps140
      go_wp2_with (first | (go_at_call 137; refine hg.mono ?_; rintro e w' ⟨rfl, rfl⟩))
      go_ret3
      exact ⟨rfl, rfl⟩
    · by_cases h2 : (zs.length : Int) - (k + 2) < n
      · have e1 : getTE zs k most = 10 := by simp only [getTE, he, hn, if_true, if_neg h1, if_pos h2]
        have e2 : getTS zs k most = ByteArray.empty := by simp [getTS, e1]
        have e3 : getTo zs k most = 0 := by simp [getTo, e1]
        rw [e1, e2, e3]
        have hg := get_any a cap zs k 2 w hl hm ha
        rw [he, hn] at hg
        clear e1 e2 e3 he hn
        unfold maxLen at hm
        have h2' : (zs.length : Int) - k - 2 < n := by omega
        go_enter Tryz.func140, Tryz.ntmps140
        go_wp2_with (first | (go_at_call 137; refine hg.mono ?_; rintro e w' ⟨rfl, rfl⟩))
        go_ret3
        exact ⟨rfl, rfl⟩
      · have e1 : getTE zs k most = 0 := by simp only [getTE, he, hn, if_true, if_neg h1, if_neg h2]
        have e2 : getTS zs k most = strOfNums ((zs.drop (k + 2)).take n) := by simp [getTS, e1, hn]
        have e3 : getTo zs k most = k + 2 + n := by simp [getTo, e1, hn]
        rw [e1, e2, e3]
        by_cases h0 : n = 0
        · subst h0
          have := getText_ok0 a k cap zs most w hl hm hcap he hn (by omega) (by omega)
          refine this.mono ?_
          rintro e w' ⟨rfl, rfl⟩
          exact ⟨by simp [strOfNums, ByteArray.empty, ByteArray.emptyWithCapacity]; rfl, rfl⟩
        · obtain ⟨hz, hb'⟩ := hl
          rcases hb' with rfl | ⟨b, off, rfl, hc⟩
          · simp at hk; omega
          · exact getText_ok1 b off k n cap zs most w hz hc hm hcap he hn (by omega) (by omega) (by omega) (by omega)
  · have e1 : getTE zs at' most = getE zs at' 2 := by simp [getTE, he]
    have e2 : getTS zs at' most = ByteArray.empty := by simp [getTS, e1, he]
    have e3 : getTo zs at' most = 0 := by simp [getTo, e1, he]
    rw [e1, e2, e3]
    have hg := get_any a cap zs at' 2 w hl hm ha
    have hne : (getE zs at' 2 == 0) = false := by simpa using he
    have hne' : (getE zs at' 2 != 0) = true := by simp [bne, hne]
    clear e1 e2 e3 he
    unfold maxLen at hm
    go_enter Tryz.func140, Tryz.ntmps140
    go_wp2_with (first | (go_at_call 137; refine hg.mono ?_; rintro e w' ⟨rfl, rfl⟩))
    go_ret3
    exact ⟨rfl, rfl⟩

theorem refGetText_ok0 (a : Option Addr) (k cap : Nat) (zs : List Int) (most : Int) (w : World) (hl : Lies w a zs) (hm : zs.length ≤ maxLen) (hcap : zs.length ≤ cap)
    (he : getE zs k 2 = 0) (hn : getN zs k 2 = 0) (hk : k + 2 ≤ zs.length) (hmo : 0 ≤ most) :
    Calls Tryz.prog 90 #[.slice a zs.length cap, .int .i64 k, .int .i64 most] w fun e w' => e = .returned (.tuple #[.string ByteArray.empty, .int .i64 ((k : Int) + 2), .int .i64 0]) ∧ w' = w := by
  have hg := refGet_any a cap zs k 2 w hl hm (by unfold maxLen at hm; omega)
  rw [he, hn] at hg
  have kc := convert_none
  unfold maxLen at hm
  go_enter Tryz.func90, Tryz.ntmps90
  go_wp2_with (first | (go_at_call 89; refine hg.mono ?_; rintro e w' ⟨rfl, rfl⟩))
  all_goals
    go_ret3
    exact ⟨rfl, rfl⟩

theorem refGetText_ok1 (b off k n cap : Nat) (zs : List Int) (most : Int) (w : World) (hz : AreBytes zs) (hc : ∀ i, i < zs.length → w.cell? ⟨b, off + i, none⟩ = some (.int .u8 (zs.getD i 0))) (hm : zs.length ≤ maxLen) (hcap : zs.length ≤ cap)
    (he : getE zs k 2 = 0) (hn : getN zs k 2 = n) (h0 : 0 < n) (hk : k + 2 + n ≤ zs.length) (hmo : (n : Int) ≤ most) (h64 : n ≤ 65535) :
    Calls Tryz.prog 90 #[.slice (some ⟨b, off, none⟩) zs.length cap, .int .i64 k, .int .i64 most] w fun e w' => e = .returned (.tuple #[.string (strOfNums ((zs.drop (k + 2)).take n)), .int .i64 ((k : Int) + 2 + n), .int .i64 0]) ∧ w' = w := by
  have hg := refGet_any (some ⟨b, off, none⟩) cap zs k 2 w ⟨hz, .inr ⟨b, off, rfl, hc⟩⟩ hm (by unfold maxLen at hm; omega)
  rw [he, hn] at hg
  have kc := fun cp => run_convert_bytes_arg (P := Tryz.prog) w 22 5 Tryz.underlying22 Tryz.underlying5 b (off + (k + 2)) n cp ((zs.drop (k + 2)).take n) (by simp; omega)
    (fun i hi => by rw [Nat.add_assoc, hc (k + 2 + i) (by omega)]; simp [List.getElem?_take_of_lt hi]) 9 Tryz.underlying9
  unfold maxLen at hm
  clear hc hz
  go_enter Tryz.func90, Tryz.ntmps90
  go_wp2_with (first | (go_at_call 89; refine hg.mono ?_; rintro e w' ⟨rfl, rfl⟩))
  go_ret3
  exact ⟨rfl, rfl⟩

theorem refGetText_any (a : Option Addr) (cap : Nat) (zs : List Int) (at' most : Int) (w : World) (hl : Lies w a zs) (hm : zs.length ≤ maxLen) (hcap : zs.length ≤ cap) (ha : -9223372036854775808 ≤ at' ∧ at' ≤ 9223372036854775807) :
    Calls Tryz.prog 90 #[.slice a zs.length cap, .int .i64 at', .int .i64 most] w fun e w' => e = .returned (.tuple #[.string (getTS zs at' most), .int .i64 (getTo zs at' most), .int .i64 (getTE zs at' most)]) ∧ w' = w := by
  by_cases he : getE zs at' 2 = 0
  · have hk : 0 ≤ at' ∧ at' + 2 ≤ zs.length := by
      simp only [getE] at he
      split at he
      · omega
      · split at he <;> omega
    obtain ⟨k, rfl⟩ : ∃ k : Nat, at' = k := ⟨at'.toNat, by omega⟩
    have hb := getN_bd zs hl.1 k
    obtain ⟨n, hn⟩ : ∃ n : Nat, getN zs k 2 = n := ⟨(getN zs k 2).toNat, by omega⟩
    rw [hn] at hb
    by_cases h1 : most < n
    · have e1 : getTE zs k most = 3 := by simp [getTE, he, hn, h1]
      have e2 : getTS zs k most = ByteArray.empty := by simp [getTS, e1]
      have e3 : getTo zs k most = 0 := by simp [getTo, e1]
      rw [e1, e2, e3]
      have hg := refGet_any a cap zs k 2 w hl hm ha
      rw [he, hn] at hg
      clear e1 e2 e3 he hn
      unfold maxLen at hm
      go_enter Tryz.func90, Tryz.ntmps90
      go_wp2_with (first | (go_at_call 89; refine hg.mono ?_; rintro e w' ⟨rfl, rfl⟩))
      go_ret3
      exact ⟨rfl, rfl⟩
    · by_cases h2 : (zs.length : Int) - (k + 2) < n
      · have e1 : getTE zs k most = 10 := by simp only [getTE, he, hn, if_true, if_neg h1, if_pos h2]
        have e2 : getTS zs k most = ByteArray.empty := by simp [getTS, e1]
        have e3 : getTo zs k most = 0 := by simp [getTo, e1]
        rw [e1, e2, e3]
        have hg := refGet_any a cap zs k 2 w hl hm ha
        rw [he, hn] at hg
        clear e1 e2 e3 he hn
        unfold maxLen at hm
        have h2' : (zs.length : Int) - k - 2 < n := by omega
        go_enter Tryz.func90, Tryz.ntmps90
        go_wp2_with (first | (go_at_call 89; refine hg.mono ?_; rintro e w' ⟨rfl, rfl⟩))
        go_ret3
        exact ⟨rfl, rfl⟩
      · have e1 : getTE zs k most = 0 := by simp only [getTE, he, hn, if_true, if_neg h1, if_neg h2]
        have e2 : getTS zs k most = strOfNums ((zs.drop (k + 2)).take n) := by simp [getTS, e1, hn]
        have e3 : getTo zs k most = k + 2 + n := by simp [getTo, e1, hn]
        rw [e1, e2, e3]
        by_cases h0 : n = 0
        · subst h0
          have := refGetText_ok0 a k cap zs most w hl hm hcap he hn (by omega) (by omega)
          refine this.mono ?_
          rintro e w' ⟨rfl, rfl⟩
          exact ⟨by simp [strOfNums, ByteArray.empty, ByteArray.emptyWithCapacity]; rfl, rfl⟩
        · obtain ⟨hz, hb'⟩ := hl
          rcases hb' with rfl | ⟨b, off, rfl, hc⟩
          · simp at hk; omega
          · exact refGetText_ok1 b off k n cap zs most w hz hc hm hcap he hn (by omega) (by omega) (by omega) (by omega)
  · have e1 : getTE zs at' most = getE zs at' 2 := by simp [getTE, he]
    have e2 : getTS zs at' most = ByteArray.empty := by simp [getTS, e1, he]
    have e3 : getTo zs at' most = 0 := by simp [getTo, e1, he]
    rw [e1, e2, e3]
    have hg := refGet_any a cap zs at' 2 w hl hm ha
    have hne : (getE zs at' 2 == 0) = false := by simpa using he
    have hne' : (getE zs at' 2 != 0) = true := by simp [bne, hne]
    clear e1 e2 e3 he
    unfold maxLen at hm
    go_enter Tryz.func90, Tryz.ntmps90
    go_wp2_with (first | (go_at_call 89; refine hg.mono ?_; rintro e w' ⟨rfl, rfl⟩))
    go_ret3
    exact ⟨rfl, rfl⟩

end Go.Proofs.YtmndccbeddaphaaGreatDoor.O

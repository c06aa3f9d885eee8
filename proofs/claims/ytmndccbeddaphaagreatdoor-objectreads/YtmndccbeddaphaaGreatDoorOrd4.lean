/- object's reader: term. -/
import Derived.Test.YtmndccbeddaphaaGreatDoorOcGets0
import Derived.Laws.BytesArg
import Derived.Deep.QuietTactic
import Derived.BigQuiet
import Derived.WalkSmall
import Derived.WalkSpells
/- Contracts of octet.GetText and of the document's GetText: what they answer of bytes that lie in memory. -/
namespace Go.Proofs.YtmndccbeddaphaaGreatDoor.O
open Go.ChangeShapes Go.WideShapes Go.ChangeAt Go.RowKit
set_option linter.unusedVariables false
def getTE (zs : List Int) (at' most : Int) : Int :=
  if getE zs at' 2 = 0 then (if most < getN zs at' 2 then 3 else if (zs.length : Int) - (at' + 2) < getN zs at' 2 then 10 else 0) else getE zs at' 2
def getTo (zs : List Int) (at' most : Int) : Int := if getTE zs at' most = 0 then at' + 2 + getN zs at' 2 else 0
def getTS (zs : List Int) (at' most : Int) : ByteArray :=
  if getTE zs at' most = 0 then strOfNums ((zs.drop (at'.toNat + 2)).take (getN zs at' 2).toNat) else ByteArray.empty
theorem refGet_any (a : Option Addr) (cap : Nat) (zs : List Int) (at' width : Int) (w : World) (hl : Lies w a zs) (hm : zs.length ≤ maxLen) (ha : -9223372036854775808 ≤ at' ∧ at' ≤ 9223372036854775807) :
    Calls Tryz.prog 89 #[.slice a zs.length cap, .int .i64 at', .int .i64 width] w fun e w' => e = .returned (.tuple #[.int .u32 (getN zs at' width), .int .i64 (getE zs at' width)]) ∧ w' = w := by
  by_cases h1 : isW width = false
  · have e : getE zs at' width = 1 := by simp [getE, h1]
    have e' : getN zs at' width = 0 := by simp [getN, e]
    rw [e, e']
    clear e e'
    have hne : (width == 1) = false ∧ (width == 2) = false ∧ (width == 4) = false := by simp [isW] at h1; simp; omega
    obtain ⟨n1, n2, n4⟩ := hne
    have m1 : (width != 1) = true := by simp [bne, n1]
    have m2 : (width != 2) = true := by simp [bne, n2]
    have m4 : (width != 4) = true := by simp [bne, n4]
    unfold maxLen at hm
    go_enter Tryz.func89, Tryz.ntmps89
    go_wp2
    go_ret2
    exact ⟨rfl, rfl⟩
  · replace h1 : isW width = true := by simpa using h1
    by_cases h2 : at' < 0
    · have e : getE zs at' width = 1 := by simp [getE, h2]
      have e' : getN zs at' width = 0 := by simp [getN, e]
      rw [e, e']
      clear e e'
      unfold maxLen at hm
      rcases isW_cases h1 with rfl | rfl | rfl
      all_goals
        go_enter Tryz.func89, Tryz.ntmps89
        go_wp2
        go_ret2
        exact ⟨rfl, rfl⟩
    · by_cases h3 : (zs.length : Int) < at'
      · have e : getE zs at' width = 1 := by simp [getE, h3]
        have e' : getN zs at' width = 0 := by simp [getN, e]
        rw [e, e']
        clear e e'
        unfold maxLen at hm
        rcases isW_cases h1 with rfl | rfl | rfl
        all_goals
          go_enter Tryz.func89, Tryz.ntmps89
          go_wp2
          go_ret2
          exact ⟨rfl, rfl⟩
      · obtain ⟨k, rfl⟩ : ∃ k : Nat, at' = k := ⟨at'.toNat, by omega⟩
        by_cases h4 : (zs.length : Int) - k < width
        · have e : getE zs k width = 10 := by simp only [getE]; rw [if_neg (by simp [h1]; omega), if_pos h4]
          have e' : getN zs k width = 0 := by simp [getN, e]
          rw [e, e']
          clear e e'
          unfold maxLen at hm
          rcases isW_cases h1 with rfl | rfl | rfl
          all_goals
            go_enter Tryz.func89, Tryz.ntmps89
            go_wp2
            go_ret2
            exact ⟨rfl, rfl⟩
        · have e : getE zs k width = 0 := by simp only [getE]; rw [if_neg (by simp [h1]; omega), if_neg h4]
          have hwc := isW_cases h1
          obtain ⟨wd, rfl⟩ : ∃ wd : Nat, width = wd := ⟨width.toNat, by omega⟩
          have e' : getN zs k wd = partN zs k wd := by simp [getN, e, partN]
          rw [e, e']
          obtain ⟨hz, hb⟩ := hl
          rcases hb with rfl | ⟨b, off, rfl, hc⟩
          · simp at h4; omega
          · exact refGet_ok b off k wd cap zs w hz hc hm (by omega) (by omega)
theorem convert_none (a : Option Addr) (c : Nat) (w : World) : (convert 22 9 (.slice a 0 c)).run Tryz.prog w = .ok (.string ByteArray.empty) w := by
  cases a with
  | none => exact run_convert_bytes_nil (P := Tryz.prog) w 22 5 Tryz.underlying22 Tryz.underlying5 0 c 9 Tryz.underlying9
  | some a =>
    have hl : (loadCells a 0).run Tryz.prog w = .ok ((([] : List Int).map (Value.int .u8)).toArray) w := by
      have := run_loadCells_list (P := Tryz.prog) w a (([] : List Int).map (Value.int .u8)) (fun j v hj => by simp at hj)
      simpa using this
    rw [run_convert_bytes_string w 22 9 5 _ 0 c Tryz.underlying22 Tryz.underlying5 Tryz.underlying9, run_bytesToString w _ 0 c [] hl]
    rfl
theorem getN_bd (zs : List Int) (hz : AreBytes zs) (at' : Int) : 0 ≤ getN zs at' 2 ∧ getN zs at' 2 ≤ 65535 := by
  by_cases h : getE zs at' 2 = 0
  · simp only [getN, h, if_true]
    have hb := leN_bd ((zs.drop at'.toNat).take (2 : Int).toNat) (areBytes_take _ (areBytes_drop _ hz _) _)
    have hl : ((zs.drop at'.toNat).take (2 : Int).toNat).length ≤ 2 := List.length_take_le _ _
    have hp : (256 : Int) ^ ((zs.drop at'.toNat).take (2 : Int).toNat).length ≤ 65536 := by
      have : ((zs.drop at'.toNat).take (2 : Int).toNat).length = 0 ∨ ((zs.drop at'.toNat).take (2 : Int).toNat).length = 1 ∨ ((zs.drop at'.toNat).take (2 : Int).toNat).length = 2 := by omega
      rcases this with h | h | h <;> rw [h] <;> decide
    omega
  · simp [getN, h]
theorem getText_ok0 (a : Option Addr) (k cap : Nat) (zs : List Int) (most : Int) (w : World) (hl : Lies w a zs) (hm : zs.length ≤ maxLen) (hcap : zs.length ≤ cap)
    (he : getE zs k 2 = 0) (hn : getN zs k 2 = 0) (hk : k + 2 ≤ zs.length) (hmo : 0 ≤ most) :
    Calls Tryz.prog 140 #[.slice a zs.length cap, .int .i64 k, .int .i64 most] w fun e w' => e = .returned (.tuple #[.string ByteArray.empty, .int .i64 ((k : Int) + 2), .int .i64 0]) ∧ w' = w := by
  have hg := get_any a cap zs k 2 w hl hm (by unfold maxLen at hm; omega)
  rw [he, hn] at hg
  have kc := convert_none
  unfold maxLen at hm
  go_enter Tryz.func140, Tryz.ntmps140
  go_wp2_with (first | (go_at_call 137; refine hg.mono ?_; rintro e w' ⟨rfl, rfl⟩))
  all_goals
    go_ret3
    exact ⟨rfl, rfl⟩
theorem getText_ok1 (b off k n cap : Nat) (zs : List Int) (most : Int) (w : World) (hz : AreBytes zs) (hc : ∀ i, i < zs.length → w.cell? ⟨b, off + i, none⟩ = some (.int .u8 (zs.getD i 0))) (hm : zs.length ≤ maxLen) (hcap : zs.length ≤ cap)
    (he : getE zs k 2 = 0) (hn : getN zs k 2 = n) (h0 : 0 < n) (hk : k + 2 + n ≤ zs.length) (hmo : (n : Int) ≤ most) (h64 : n ≤ 65535) :
    Calls Tryz.prog 140 #[.slice (some ⟨b, off, none⟩) zs.length cap, .int .i64 k, .int .i64 most] w fun e w' => e = .returned (.tuple #[.string (strOfNums ((zs.drop (k + 2)).take n)), .int .i64 ((k : Int) + 2 + n), .int .i64 0]) ∧ w' = w := by
  have hg := get_any (some ⟨b, off, none⟩) cap zs k 2 w ⟨hz, .inr ⟨b, off, rfl, hc⟩⟩ hm (by unfold maxLen at hm; omega)
  rw [he, hn] at hg
  have kc := fun cp => run_convert_bytes_arg (P := Tryz.prog) w 22 5 Tryz.underlying22 Tryz.underlying5 b (off + (k + 2)) n cp ((zs.drop (k + 2)).take n) (by simp; omega)
    (fun i hi => by rw [Nat.add_assoc, hc (k + 2 + i) (by omega)]; simp [List.getElem?_take_of_lt hi]) 9 Tryz.underlying9
  unfold maxLen at hm
  clear hc hz
  go_enter Tryz.func140, Tryz.ntmps140
  go_wp2_with (first | (go_at_call 137; refine hg.mono ?_; rintro e w' ⟨rfl, rfl⟩))
  go_ret3
  exact ⟨rfl, rfl⟩
theorem getText_any (a : Option Addr) (cap : Nat) (zs : List Int) (at' most : Int) (w : World) (hl : Lies w a zs) (hm : zs.length ≤ maxLen) (hcap : zs.length ≤ cap) (ha : -9223372036854775808 ≤ at' ∧ at' ≤ 9223372036854775807) :
    Calls Tryz.prog 140 #[.slice a zs.length cap, .int .i64 at', .int .i64 most] w fun e w' => e = .returned (.tuple #[.string (getTS zs at' most), .int .i64 (getTo zs at' most), .int .i64 (getTE zs at' most)]) ∧ w' = w := by
  by_cases he : getE zs at' 2 = 0
  · have hk : 0 ≤ at' ∧ at' + 2 ≤ zs.length := by
      simp only [getE] at he
      split at he
      · omega
      · split at he <;> omega
    obtain ⟨k, rfl⟩ : ∃ k : Nat, at' = k := ⟨at'.toNat, by omega⟩
    have hb := getN_bd zs hl.1 k
    obtain ⟨n, hn⟩ : ∃ n : Nat, getN zs k 2 = n := ⟨(getN zs k 2).toNat, by omega⟩
    rw [hn] at hb
    by_cases h1 : most < n
    · have e1 : getTE zs k most = 3 := by simp [getTE, he, hn, h1]
      have e2 : getTS zs k most = ByteArray.empty := by simp [getTS, e1]
      have e3 : getTo zs k most = 0 := by simp [getTo, e1]
      rw [e1, e2, e3]
      have hg := get_any a cap zs k 2 w hl hm ha
      rw [he, hn] at hg
      clear e1 e2 e3 he hn
      unfold maxLen at hm
      go_enter Tryz.func140, Tryz.ntmps140
      go_wp2_with (first | (go_at_call 137; refine hg.mono ?_; rintro e w' ⟨rfl, rfl⟩))
      go_ret3
      exact ⟨rfl, rfl⟩
    · by_cases h2 : (zs.length : Int) - (k + 2) < n
      · have e1 : getTE zs k most = 10 := by simp only [getTE, he, hn, if_true, if_neg h1, if_pos h2]
        have e2 : getTS zs k most = ByteArray.empty := by simp [getTS, e1]
        have e3 : getTo zs k most = 0 := by simp [getTo, e1]
        rw [e1, e2, e3]
        have hg := get_any a cap zs k 2 w hl hm ha
        rw [he, hn] at hg
        clear e1 e2 e3 he hn
        unfold maxLen at hm
        have h2' : (zs.length : Int) - k - 2 < n := by omega
        go_enter Tryz.func140, Tryz.ntmps140
        go_wp2_with (first | (go_at_call 137; refine hg.mono ?_; rintro e w' ⟨rfl, rfl⟩))
        go_ret3
        exact ⟨rfl, rfl⟩
      · have e1 : getTE zs k most = 0 := by simp only [getTE, he, hn, if_true, if_neg h1, if_neg h2]
        have e2 : getTS zs k most = strOfNums ((zs.drop (k + 2)).take n) := by simp [getTS, e1, hn]
        have e3 : getTo zs k most = k + 2 + n := by simp [getTo, e1, hn]
        rw [e1, e2, e3]
        by_cases h0 : n = 0
        · subst h0
          have := getText_ok0 a k cap zs most w hl hm hcap he hn (by omega) (by omega)
          refine this.mono ?_
          rintro e w' ⟨rfl, rfl⟩
          exact ⟨by simp [strOfNums, ByteArray.empty, ByteArray.emptyWithCapacity]; rfl, rfl⟩
        · obtain ⟨hz, hb'⟩ := hl
          rcases hb' with rfl | ⟨b, off, rfl, hc⟩
          · simp at hk; omega
          · exact getText_ok1 b off k n cap zs most w hz hc hm hcap he hn (by omega) (by omega) (by omega) (by omega)
  · have e1 : getTE zs at' most = getE zs at' 2 := by simp [getTE, he]
    have e2 : getTS zs at' most = ByteArray.empty := by simp [getTS, e1, he]
    have e3 : getTo zs at' most = 0 := by simp [getTo, e1, he]
    rw [e1, e2, e3]
    have hg := get_any a cap zs at' 2 w hl hm ha
    have hne : (getE zs at' 2 == 0) = false := by simpa using he
    have hne' : (getE zs at' 2 != 0) = true := by simp [bne, hne]
    clear e1 e2 e3 he
    unfold maxLen at hm
    go_enter Tryz.func140, Tryz.ntmps140
    go_wp2_with (first | (go_at_call 137; refine hg.mono ?_; rintro e w' ⟨rfl, rfl⟩))
    go_ret3
    exact ⟨rfl, rfl⟩
theorem refGetText_ok0 (a : Option Addr) (k cap : Nat) (zs : List Int) (most : Int) (w : World) (hl : Lies w a zs) (hm : zs.length ≤ maxLen) (hcap : zs.length ≤ cap)
    (he : getE zs k 2 = 0) (hn : getN zs k 2 = 0) (hk : k + 2 ≤ zs.length) (hmo : 0 ≤ most) :
    Calls Tryz.prog 90 #[.slice a zs.length cap, .int .i64 k, .int .i64 most] w fun e w' => e = .returned (.tuple #[.string ByteArray.empty, .int .i64 ((k : Int) + 2), .int .i64 0]) ∧ w' = w := by
  have hg := refGet_any a cap zs k 2 w hl hm (by unfold maxLen at hm; omega)
  rw [he, hn] at hg
  have kc := convert_none
  unfold maxLen at hm
  go_enter Tryz.func90, Tryz.ntmps90
  go_wp2_with (first | (go_at_call 89; refine hg.mono ?_; rintro e w' ⟨rfl, rfl⟩))
  all_goals
    go_ret3
    exact ⟨rfl, rfl⟩
theorem refGetText_ok1 (b off k n cap : Nat) (zs : List Int) (most : Int) (w : World) (hz : AreBytes zs) (hc : ∀ i, i < zs.length → w.cell? ⟨b, off + i, none⟩ = some (.int .u8 (zs.getD i 0))) (hm : zs.length ≤ maxLen) (hcap : zs.length ≤ cap)
    (he : getE zs k 2 = 0) (hn : getN zs k 2 = n) (h0 : 0 < n) (hk : k + 2 + n ≤ zs.length) (hmo : (n : Int) ≤ most) (h64 : n ≤ 65535) :
    Calls Tryz.prog 90 #[.slice (some ⟨b, off, none⟩) zs.length cap, .int .i64 k, .int .i64 most] w fun e w' => e = .returned (.tuple #[.string (strOfNums ((zs.drop (k + 2)).take n)), .int .i64 ((k : Int) + 2 + n), .int .i64 0]) ∧ w' = w := by
  have hg := refGet_any (some ⟨b, off, none⟩) cap zs k 2 w ⟨hz, .inr ⟨b, off, rfl, hc⟩⟩ hm (by unfold maxLen at hm; omega)
  rw [he, hn] at hg
  have kc := fun cp => run_convert_bytes_arg (P := Tryz.prog) w 22 5 Tryz.underlying22 Tryz.underlying5 b (off + (k + 2)) n cp ((zs.drop (k + 2)).take n) (by simp; omega)
    (fun i hi => by rw [Nat.add_assoc, hc (k + 2 + i) (by omega)]; simp [List.getElem?_take_of_lt hi]) 9 Tryz.underlying9
  unfold maxLen at hm
  clear hc hz
  go_enter Tryz.func90, Tryz.ntmps90
  go_wp2_with (first | (go_at_call 89; refine hg.mono ?_; rintro e w' ⟨rfl, rfl⟩))
  go_ret3
  exact ⟨rfl, rfl⟩
theorem refGetText_any (a : Option Addr) (cap : Nat) (zs : List Int) (at' most : Int) (w : World) (hl : Lies w a zs) (hm : zs.length ≤ maxLen) (hcap : zs.length ≤ cap) (ha : -9223372036854775808 ≤ at' ∧ at' ≤ 9223372036854775807) :
    Calls Tryz.prog 90 #[.slice a zs.length cap, .int .i64 at', .int .i64 most] w fun e w' => e = .returned (.tuple #[.string (getTS zs at' most), .int .i64 (getTo zs at' most), .int .i64 (getTE zs at' most)]) ∧ w' = w := by
  by_cases he : getE zs at' 2 = 0
  · have hk : 0 ≤ at' ∧ at' + 2 ≤ zs.length := by
      simp only [getE] at he
      split at he
      · omega
      · split at he <;> omega
    obtain ⟨k, rfl⟩ : ∃ k : Nat, at' = k := ⟨at'.toNat, by omega⟩
    have hb := getN_bd zs hl.1 k
    obtain ⟨n, hn⟩ : ∃ n : Nat, getN zs k 2 = n := ⟨(getN zs k 2).toNat, by omega⟩
    rw [hn] at hb
    by_cases h1 : most < n
    · have e1 : getTE zs k most = 3 := by simp [getTE, he, hn, h1]
      have e2 : getTS zs k most = ByteArray.empty := by simp [getTS, e1]
      have e3 : getTo zs k most = 0 := by simp [getTo, e1]
      rw [e1, e2, e3]
      have hg := refGet_any a cap zs k 2 w hl hm ha
      rw [he, hn] at hg
      clear e1 e2 e3 he hn
      unfold maxLen at hm
      go_enter Tryz.func90, Tryz.ntmps90
      go_wp2_with (first | (go_at_call 89; refine hg.mono ?_; rintro e w' ⟨rfl, rfl⟩))
      go_ret3
      exact ⟨rfl, rfl⟩
    · by_cases h2 : (zs.length : Int) - (k + 2) < n
      · have e1 : getTE zs k most = 10 := by simp only [getTE, he, hn, if_true, if_neg h1, if_pos h2]
        have e2 : getTS zs k most = ByteArray.empty := by simp [getTS, e1]
        have e3 : getTo zs k most = 0 := by simp [getTo, e1]
        rw [e1, e2, e3]
        have hg := refGet_any a cap zs k 2 w hl hm ha
        rw [he, hn] at hg
        clear e1 e2 e3 he hn
        unfold maxLen at hm
        have h2' : (zs.length : Int) - k - 2 < n := by omega
        go_enter Tryz.func90, Tryz.ntmps90
        go_wp2_with (first | (go_at_call 89; refine hg.mono ?_; rintro e w' ⟨rfl, rfl⟩))
        go_ret3
        exact ⟨rfl, rfl⟩
      · have e1 : getTE zs k most = 0 := by simp only [getTE, he, hn, if_true, if_neg h1, if_neg h2]
        have e2 : getTS zs k most = strOfNums ((zs.drop (k + 2)).take n) := by simp [getTS, e1, hn]
        have e3 : getTo zs k most = k + 2 + n := by simp [getTo, e1, hn]
        rw [e1, e2, e3]
        by_cases h0 : n = 0
        · subst h0
          have := refGetText_ok0 a k cap zs most w hl hm hcap he hn (by omega) (by omega)
          refine this.mono ?_
          rintro e w' ⟨rfl, rfl⟩
          exact ⟨by simp [strOfNums, ByteArray.empty, ByteArray.emptyWithCapacity]; rfl, rfl⟩
        · obtain ⟨hz, hb'⟩ := hl
          rcases hb' with rfl | ⟨b, off, rfl, hc⟩
          · simp at hk; omega
          · exact refGetText_ok1 b off k n cap zs most w hz hc hm hcap he hn (by omega) (by omega) (by omega) (by omega)
  · have e1 : getTE zs at' most = getE zs at' 2 := by simp [getTE, he]
    have e2 : getTS zs at' most = ByteArray.empty := by simp [getTS, e1, he]
    have e3 : getTo zs at' most = 0 := by simp [getTo, e1, he]
    rw [e1, e2, e3]
    have hg := refGet_any a cap zs at' 2 w hl hm ha
    have hne : (getE zs at' 2 == 0) = false := by simpa using he
    have hne' : (getE zs at' 2 != 0) = true := by simp [bne, hne]
    clear e1 e2 e3 he
    unfold maxLen at hm
    go_enter Tryz.func90, Tryz.ntmps90
    go_wp2_with (first | (go_at_call 89; refine hg.mono ?_; rintro e w' ⟨rfl, rfl⟩))
    go_ret3
    exact ⟨rfl, rfl⟩
end Go.Proofs.YtmndccbeddaphaaGreatDoor.O
/- object's reader in memory: refused, refuse, number, text. -/
namespace Go.Proofs.YtmndccbeddaphaaGreatDoor
open Go.ChangeShapes Go.WideShapes Go.ChangeAt Go.RowKit Go.Sort
set_option linter.unusedVariables false
set_option linter.unusedSimpArgs false
set_option maxRecDepth 100000
def RfO (w : World) (rp : Option Nat) : Option (Int × Int) → Prop
  | none => rp = none
  | some f => ∃ q, rp = some q ∧ w.heap[q]? = some (.cells #[.int .i64 f.1, .int .i64 f.2] 68 (0, 0))
abbrev rpV (rp : Option Nat) : Value := .pointer (rp.map fun q => ⟨q, 0, none⟩)
def firstR (bad : Option (Int × Int)) (f : Int × Int) : Option (Int × Int) := match bad with | none => some f | some g => some g
structure RS (w : World) (r : Nat) (a : Option Addr) (c : Nat) (zs : List Int) (p : Nat) (bad : Option (Int × Int)) (rp : Option Nat) (mv : Value) (last : List UInt8) : Prop where
  blk : w.heap[r]? = some (.cells #[.slice a zs.length c, .int .i64 (p : Int), rpV rp, mv, .string (str last)] 71 (0, 0))
  lies : O.Lies w a zs
  old : ∀ x, a = some x → x.block < r
  cap : zs.length ≤ c
  few : zs.length ≤ 2000000
  at_ : p ≤ zs.length ∨ (bad.isSome = true ∧ p ≤ zs.length + 1)
  rf : RfO w rp bad
theorem five_read {T : TypeId} {w : World} {g : Nat} {v0 v1 v2 v3 v4 : Value} (h : w.heap[g]? = some (.cells #[v0, v1, v2, v3, v4] T (0, 0))) : w.cell? ⟨g, 0, none⟩ = some v0 ∧ w.cell? ⟨g, 1, none⟩ = some v1 ∧ w.cell? ⟨g, 2, none⟩ = some v2 ∧ w.cell? ⟨g, 3, none⟩ = some v3 ∧ w.cell? ⟨g, 4, none⟩ = some v4 :=
  ⟨(cell_blockT h 0).trans rfl, (cell_blockT h 1).trans rfl, (cell_blockT h 2).trans rfl, (cell_blockT h 3).trans rfl, (cell_blockT h 4).trans rfl⟩
theorem keepB {w : World} {g : Nat} {x : Obj} (h : w.heap[g]? = some x) (o : Obj) : (w.alloc o).heap[g]? = some x := ((below_alloc w o).block g (Array.getElem?_eq_some_iff.1 h).1).trans h
section
variable {w w' : World} {r : Nat} {a : Option Addr} {c : Nat} {zs : List Int} {p : Nat} {bad : Option (Int × Int)} {rp : Option Nat} {mv : Value} {last : List UInt8}
theorem lies_grown {k : Option Nat} (h : O.Lies w a zs) (ho : ∀ x, a = some x → x.block < w.heap.size ∧ k ≠ some x.block) (hg : w.grownBy w' k) : O.Lies w' a zs := by
  refine ⟨h.1, ?_⟩
  rcases h.2 with h0 | ⟨b, off, rfl, hc⟩
  · exact .inl h0
  · refine .inr ⟨b, off, rfl, fun i hi => ?_⟩
    obtain ⟨h1, h2⟩ := ho _ rfl
    rw [World.cell?_of_block (hg.block b h1 (Ne.symm h2))]
    exact hc i hi
theorem RfO.grown {k : Option Nat} (h : RfO w rp bad) (hk : ∀ q, rp = some q → k ≠ some q) (hg : w.grownBy w' k) : RfO w' rp bad := by
  cases bad with
  | none => exact h
  | some f =>
    obtain ⟨q, h1, h2⟩ := h
    exact ⟨q, h1, (hg.block q (blk_lt h2) (Ne.symm (hk q h1))).trans h2⟩
theorem RS.rne (h : RS w r a c zs p bad rp mv last) : ∀ q, rp = some q → some r ≠ some q := fun q hq e => by
  cases e
  cases hb : bad with
  | none => rw [hb] at h; have := h.rf; rw [hq] at this; cases this
  | some f =>
    have h1 := h.rf
    rw [hb] at h1
    obtain ⟨q', h2, h3⟩ := h1
    rw [hq] at h2
    cases h2
    rw [h.blk] at h3
    cases h3
theorem RS.put (h : RS w r a c zs p bad rp mv last) {p' : Nat} {bad' : Option (Int × Int)} {rp' : Option Nat} {mv' : Value} {last' : List UInt8} (hg : w.grownBy w' (some r)) (hp : p' ≤ zs.length ∨ (bad'.isSome = true ∧ p' ≤ zs.length + 1))
    (hb : w'.heap[r]? = some (.cells #[.slice a zs.length c, .int .i64 (p' : Int), rpV rp', mv', .string (str last')] 71 (0, 0))) (hr : RfO w' rp' bad') : RS w' r a c zs p' bad' rp' mv' last' :=
  ⟨hb, lies_grown h.lies (fun x hx => ⟨Nat.lt_trans (h.old x hx) (blk_lt h.blk), fun e => by cases e; exact absurd (h.old x hx) (Nat.lt_irrefl _)⟩) hg, h.old, h.cap, h.few, hp, hr⟩
theorem RS.below (h : RS w r a c zs p bad rp mv last) (hb : Below w.heap.size w w') : RS w' r a c zs p bad rp mv last :=
  ⟨(hb.block r (blk_lt h.blk)).trans h.blk, lies_grown h.lies (fun x hx => ⟨Nat.lt_trans (h.old x hx) (blk_lt h.blk), by simp⟩) (grown_of_below hb), h.old, h.cap, h.few, h.at_, h.rf.grown (by simp) (grown_of_below hb)⟩
theorem refused_is (h : RS w r a c zs p bad rp mv last) : Calls Tryz.prog 32 #[.pointer (some ⟨r, 0, none⟩)] w fun e w' => e = .returned (.bool bad.isSome) ∧ w' = w := by
  obtain ⟨_, _, c2, _, _⟩ := five_read h.blk
  have hrf := h.rf
  cases bad with
  | none =>
    have hrp : rp = none := hrf
    subst hrp
    clear h hrf
    simp only [rpV, Option.map_none] at c2
    go_enter Tryz.func32, Tryz.ntmps32
    go_wp2
    all_goals first | omega | skip
    go_ret
    exact ⟨rfl, rfl⟩
  | some f =>
    obtain ⟨q, hq, _⟩ := hrf
    subst hq
    clear h
    simp only [rpV, Option.map_some] at c2
    go_enter Tryz.func32, Tryz.ntmps32
    go_wp2
    all_goals first | omega | skip
    go_ret
    exact ⟨rfl, rfl⟩
theorem refuse_is (h : RS w r a c zs p bad rp mv last) (x y : Int) : Calls Tryz.prog 82 #[.pointer (some ⟨r, 0, none⟩), .int .i64 x, .int .i64 y] w fun e w' => e = .returned (.tuple #[]) ∧ w.grownBy w' (some r) ∧ ∃ rp', RS w' r a c zs p (firstR bad (x, y)) rp' mv last := by
  have h32 := Hid.intro (refused_is h)
  cases hb : bad with
  | some f =>
    rw [hb] at h32 h
    go_enter Tryz.func82, Tryz.ntmps82
    go_wp2_with (go_at_call 32; (with_reducible refine (h32.out).mono ?_); rintro e w1 ⟨rfl, hw1⟩; subst w1)
    all_goals first | omega | skip
    go_end0
    exact ⟨rfl, World.grownBy.refl _ _, rp, h⟩
  | none =>
    rw [hb] at h32 h
    have hlt := blk_lt h.blk
    obtain ⟨_, _, c2, _, _⟩ := five_read h.blk
    have f2 := frozen_of_row _ r 2 _ 71 h.blk
    have hA := keepB h.blk (.cells #[.int .i64 x, .int .i64 y] 68)
    obtain ⟨_, _, d2, _, _⟩ := five_read hA
    have g2 := frozen_of_row _ r 2 _ 71 hA
    have nr : ¬ w.heap.size = r := Nat.ne_of_gt hlt
    obtain ⟨s1, s2⟩ := row_set h.blk 2 (.pointer (some ⟨w.heap.size, 0, none⟩))
    have hfin : Hid (w.grownBy ((w.setCell ⟨r, 2, none⟩ (.pointer (some ⟨w.heap.size, 0, none⟩))).alloc (.cells #[.int .i64 x, .int .i64 y] 68)) (some r) ∧ ∃ rp', RS ((w.setCell ⟨r, 2, none⟩ (.pointer (some ⟨w.heap.size, 0, none⟩))).alloc (.cells #[.int .i64 x, .int .i64 y] 68)) r a c zs p (firstR none (x, y)) rp' mv last) := by
      have hg := grown_trans s2 (World.grownBy_alloc (w.setCell ⟨r, 2, none⟩ (.pointer (some ⟨w.heap.size, 0, none⟩))) (.cells #[.int .i64 x, .int .i64 y] 68) (some r))
      refine ⟨hg, some w.heap.size, h.put hg (.inl (h.at_.resolve_right (fun hh => by cases hh.1))) (keepB s1 _) ⟨w.heap.size, rfl, ?_⟩⟩
      have := heap_alloc_new (w.setCell ⟨r, 2, none⟩ (.pointer (some ⟨w.heap.size, 0, none⟩))) (.cells #[.int .i64 x, .int .i64 y] 68)
      rw [show (w.setCell ⟨r, 2, none⟩ (.pointer (some ⟨w.heap.size, 0, none⟩))).heap.size = w.heap.size by simp] at this
      exact this
    clear h s1 s2
    go_enter Tryz.func82, Tryz.ntmps82
    go_wp2_with (go_at_call 32; (with_reducible refine (h32.out).mono ?_); rintro e w1 ⟨rfl, hw1⟩; subst w1)
    all_goals first | omega | skip
    go_end0
    exact ⟨rfl, hfin.out⟩
def rdV (zs : List Int) (p wd : Nat) : Int := if p + wd ≤ zs.length then O.leN ((zs.drop p).take wd) else 0
def rdP (zs : List Int) (p wd : Nat) : Nat := if p + wd ≤ zs.length then p + wd else p
def rdB (zs : List Int) (p wd : Nat) (bad : Option (Int × Int)) : Option (Int × Int) := if p + wd ≤ zs.length then bad else firstR bad (zs.length, 10)
set_option maxHeartbeats 4000000 in
theorem number_is (h : RS w r a c zs p bad rp mv last) (wd : Nat) (hw : wd = 1 ∨ wd = 2 ∨ wd = 4) : Calls Tryz.prog 113 #[.pointer (some ⟨r, 0, none⟩), .int .i64 (wd : Int)] w fun e w' => e = .returned (.int .u32 (rdV zs p wd)) ∧ w.grownBy w' (some r) ∧ ∃ rp', RS w' r a c zs (rdP zs p wd) (rdB zs p wd bad) rp' mv last := by
  have hat : p ≤ zs.length + 1 := by rcases h.at_ with h1 | ⟨_, h1⟩ <;> omega
  have hfw := h.few
  have hiw : O.isW (wd : Int) = true := by rcases hw with rfl | rfl | rfl <;> rfl
  have hget := Hid.intro (fun n => O.get_any a c zs (p : Int) (wd : Int) (w.drewN n) (lies_grown h.lies (fun x hx => ⟨Nat.lt_trans (h.old x hx) (blk_lt h.blk), by simp⟩) (grown_of_below (below_drewN (Below.refl w.heap.size w) n))) (by unfold maxLen; omega) (by omega))
  obtain ⟨n0, hn0⟩ : ∃ n0, n0 = zs.length := ⟨_, rfl⟩
  have hblk := h.blk
  rw [← hn0] at hblk hget hat hfw
  obtain ⟨c0, c1, _, _, _⟩ := five_read hblk
  by_cases hq : p + wd ≤ n0
  · have e1 : O.getE zs (p : Int) (wd : Int) = 0 := by unfold O.getE; rw [hiw, if_neg (by rw [← hn0]; simp; omega), if_neg (by rw [← hn0]; omega)]
    have e2 : O.getN zs (p : Int) (wd : Int) = rdV zs p wd := by unfold O.getN rdV; rw [if_pos e1, if_pos (by omega)]; rfl
    rw [e1, e2] at hget
    have f1 := fun (n : Nat) => frozen_of_row (w.drewN n) r 1 _ 71 hblk
    have hfin : Hid (∀ n, w.grownBy ((w.drewN n).setCell ⟨r, 1, none⟩ (.int .i64 ((p : Int) + wd))) (some r) ∧ ∃ rp', RS ((w.drewN n).setCell ⟨r, 1, none⟩ (.int .i64 ((p : Int) + wd))) r a c zs (rdP zs p wd) (rdB zs p wd bad) rp' mv last) := fun n => by
      obtain ⟨s1, s2⟩ := row_set (show (w.drewN n).heap[r]? = _ from h.blk) 1 (.int .i64 ((p : Int) + wd))
      have hg : w.grownBy ((w.drewN n).setCell ⟨r, 1, none⟩ (.int .i64 ((p : Int) + wd))) (some r) := ⟨s2.os, s2.tape, s2.output, s2.size, s2.block⟩
      refine ⟨hg, rp, ?_⟩
      unfold rdP rdB
      rw [if_pos (by omega), if_pos (by omega)]
      exact h.put hg (.inl (by omega)) s1 (h.rf.grown h.rne hg)
    generalize rdV zs p wd = V at *
    clear h hblk e1 e2 hiw hn0
    go_enter Tryz.func113, Tryz.ntmps113
    go_wp2
    all_goals first | omega | skip
    go_quiet ((go_at_call 137; with_reducible exact Calls.quiet_of_same (hget.out _)))
    go_wp2
    all_goals first | omega | skip
    go_ret
    exact ⟨rfl, hfin.out _⟩
  · obtain ⟨te, hte⟩ : ∃ te, te = O.getE zs (p : Int) (wd : Int) := ⟨_, rfl⟩
    have hne : te ≠ 0 := by
      rw [hte]
      unfold O.getE
      rw [hiw]
      split
      · decide
      · rw [if_pos (by rw [← hn0]; omega)]; decide
    have hfst : firstR bad ((n0 : Int), te) = firstR bad ((n0 : Int), 10) := by
      rcases h.at_ with h1 | ⟨h1, _⟩
      · have : te = 10 := by rw [hte]; unfold O.getE; rw [hiw, if_neg (by simp; omega), if_pos (by rw [← hn0]; omega)]
        rw [this]
      · cases bad with
        | none => cases h1
        | some f => rfl
    have e2 : O.getN zs (p : Int) (wd : Int) = 0 := by unfold O.getN; rw [if_neg (by rw [← hte]; exact hne)]
    have e3 : rdV zs p wd = 0 := by unfold rdV; rw [if_neg (by omega)]
    rw [← hte, e2] at hget
    rw [e3]
    have hq2 : (te == 0) = false := by simpa using hne
    have hrf : Hid (∀ n, Calls Tryz.prog 82 #[.pointer (some ⟨r, 0, none⟩), .int .i64 (n0 : Int), .int .i64 te] (w.drewN n) fun e w' => e = .returned (.tuple #[]) ∧ w.grownBy w' (some r) ∧ ∃ rp', RS w' r a c zs (rdP zs p wd) (rdB zs p wd bad) rp' mv last) := fun n => by
      refine (refuse_is (h.below (below_drewN (Below.refl w.heap.size w) n)) (n0 : Int) te).mono ?_
      rintro e w' ⟨rfl, hg, rp', hR⟩
      refine ⟨rfl, ⟨hg.os, hg.tape, hg.output, hg.size, hg.block⟩, rp', ?_⟩
      unfold rdP rdB
      rw [if_neg (by omega), if_neg (by omega), ← hn0, ← hfst]
      exact hR
    clear hte hfst hne
    clear h hblk e2 e3 hiw hn0
    go_enter Tryz.func113, Tryz.ntmps113
    go_wp2
    all_goals first | omega | skip
    go_quiet ((go_at_call 137; with_reducible exact Calls.quiet_of_same (hget.out _)))
    go_wp2_with (go_at_call 82; (with_reducible refine (hrf.out _).mono ?_); rintro e w2 ⟨rfl, hg2, hR2⟩; replace hg2 := Hid.intro hg2; replace hR2 := Hid.intro hR2)
    all_goals first | omega | skip
    go_ret
    exact ⟨rfl, hg2.out, hR2.out⟩
end
end Go.Proofs.YtmndccbeddaphaaGreatDoor
/- object's reader: text. -/
namespace Go.Proofs.YtmndccbeddaphaaGreatDoor
open Go.ChangeShapes Go.WideShapes Go.ChangeAt Go.RowKit Go.Sort
set_option linter.unusedVariables false
set_option linter.unusedSimpArgs false
set_option maxRecDepth 100000
def txS (zs : List Int) (p : Nat) : ByteArray := O.getTS zs (p : Int) 65535
def txP (zs : List Int) (p : Nat) : Nat := if O.getTE zs (p : Int) 65535 = 0 then p + 2 + (O.getN zs (p : Int) 2).toNat else p
def txB (zs : List Int) (p : Nat) (bad : Option (Int × Int)) : Option (Int × Int) := if O.getTE zs (p : Int) 65535 = 0 then bad else firstR bad (zs.length, O.getTE zs (p : Int) 65535)
theorem getN_bd {zs : List Int} (hz : O.AreBytes zs) (p : Int) : 0 ≤ O.getN zs p 2 ∧ O.getN zs p 2 ≤ 65535 := by
  unfold O.getN
  split
  · have hb := O.leN_bd ((zs.drop p.toNat).take 2) (O.areBytes_take _ (O.areBytes_drop _ hz _) 2)
    have hl : ((zs.drop p.toNat).take 2).length ≤ 2 := by simp; omega
    have hp : (256 : Int) ^ ((zs.drop p.toNat).take 2).length ≤ 65536 := by
      have : ((zs.drop p.toNat).take 2).length = 0 ∨ ((zs.drop p.toNat).take 2).length = 1 ∨ ((zs.drop p.toNat).take 2).length = 2 := by omega
      rcases this with h | h | h <;> rw [h] <;> decide
    show 0 ≤ O.leN ((zs.drop p.toNat).take 2) ∧ O.leN ((zs.drop p.toNat).take 2) ≤ 65535
    omega
  · omega
section
variable {w w' : World} {r : Nat} {a : Option Addr} {c : Nat} {zs : List Int} {p : Nat} {bad : Option (Int × Int)} {rp : Option Nat} {mv : Value} {last : List UInt8}
set_option maxHeartbeats 4000000 in
theorem text_is (h : RS w r a c zs p bad rp mv last) : Calls Tryz.prog 115 #[.pointer (some ⟨r, 0, none⟩)] w fun e w' => e = .returned (.string (txS zs p)) ∧ w.grownBy w' (some r) ∧ ∃ rp', RS w' r a c zs (txP zs p) (txB zs p bad) rp' mv last := by
  have hat : p ≤ zs.length + 1 := by rcases h.at_ with h1 | ⟨_, h1⟩ <;> omega
  have hfw := h.few
  have hN := getN_bd h.lies.1 (p : Int)
  have hget := Hid.intro (fun n => O.getText_any a c zs (p : Int) 65535 (w.drewN n) (lies_grown h.lies (fun x hx => ⟨Nat.lt_trans (h.old x hx) (blk_lt h.blk), by simp⟩) (grown_of_below (below_drewN (Below.refl w.heap.size w) n))) (by unfold maxLen; omega) h.cap (by omega))
  obtain ⟨n0, hn0⟩ : ∃ n0, n0 = zs.length := ⟨_, rfl⟩
  have hblk := h.blk
  rw [← hn0] at hblk hget hat hfw
  obtain ⟨c0, c1, _, _, _⟩ := five_read hblk
  by_cases hq : O.getTE zs (p : Int) 65535 = 0
  · have e1 : O.getTo zs (p : Int) 65535 = ((txP zs p : Nat) : Int) := by unfold O.getTo txP; rw [if_pos hq, if_pos hq]; omega
    have hle : txP zs p ≤ zs.length := by
      unfold txP
      rw [if_pos hq]
      unfold O.getTE at hq
      split at hq
      · split at hq
        · cases hq
        · split at hq
          · cases hq
          · omega
      · contradiction
    rw [hq, e1] at hget
    have f1 := fun (n : Nat) => frozen_of_row (w.drewN n) r 1 _ 71 hblk
    have hfin : Hid (∀ n, w.grownBy ((w.drewN n).setCell ⟨r, 1, none⟩ (.int .i64 ((txP zs p : Nat) : Int))) (some r) ∧ ∃ rp', RS ((w.drewN n).setCell ⟨r, 1, none⟩ (.int .i64 ((txP zs p : Nat) : Int))) r a c zs (txP zs p) (txB zs p bad) rp' mv last) := fun n => by
      obtain ⟨s1, s2⟩ := row_set (show (w.drewN n).heap[r]? = _ from h.blk) 1 (.int .i64 ((txP zs p : Nat) : Int))
      have hg : w.grownBy ((w.drewN n).setCell ⟨r, 1, none⟩ (.int .i64 ((txP zs p : Nat) : Int))) (some r) := ⟨s2.os, s2.tape, s2.output, s2.size, s2.block⟩
      refine ⟨hg, rp, ?_⟩
      unfold txB
      rw [if_pos hq]
      exact h.put hg (.inl hle) s1 (h.rf.grown h.rne hg)
    have hS : Hid (O.getTS zs (p : Int) 65535 = txS zs p) := rfl
    rw [hS.out] at hget
    generalize txS zs p = S at *
    generalize txP zs p = P at *
    clear h hblk e1 hn0 hq hN hle hS
    go_enter Tryz.func115, Tryz.ntmps115
    go_wp2
    all_goals first | omega | skip
    go_quiet ((go_at_call 140; with_reducible exact Calls.quiet_of_same (hget.out _)))
    go_wp2
    all_goals first | omega | skip
    go_ret
    exact ⟨rfl, hfin.out _⟩
  · obtain ⟨te, hte⟩ : ∃ te, te = O.getTE zs (p : Int) 65535 := ⟨_, rfl⟩
    have hS : txS zs p = ByteArray.empty := by unfold txS O.getTS; rw [if_neg hq]
    have hS2 : O.getTS zs (p : Int) 65535 = ByteArray.empty := hS
    have hrf : Hid (∀ n, Calls Tryz.prog 82 #[.pointer (some ⟨r, 0, none⟩), .int .i64 (n0 : Int), .int .i64 te] (w.drewN n) fun e w' => e = .returned (.tuple #[]) ∧ w.grownBy w' (some r) ∧ ∃ rp', RS w' r a c zs (txP zs p) (txB zs p bad) rp' mv last) := fun n => by
      refine (refuse_is (h.below (below_drewN (Below.refl w.heap.size w) n)) (n0 : Int) te).mono ?_
      rintro e w' ⟨rfl, hg, rp', hR⟩
      refine ⟨rfl, ⟨hg.os, hg.tape, hg.output, hg.size, hg.block⟩, rp', ?_⟩
      unfold txP txB
      rw [if_neg hq, if_neg hq, ← hn0, ← hte]
      exact hR
    rw [hS]
    rw [← hte, hS2] at hget
    rw [← hte] at hq
    have hq2 : (te == 0) = false := by simpa using hq
    generalize O.getTo zs (p : Int) 65535 = tt at *
    clear h hblk hn0 hte hN hS hS2
    go_enter Tryz.func115, Tryz.ntmps115
    go_wp2
    all_goals first | omega | skip
    go_quiet ((go_at_call 140; with_reducible exact Calls.quiet_of_same (hget.out _)))
    go_wp2_with (go_at_call 82; (with_reducible refine (hrf.out _).mono ?_); rintro e w2 ⟨rfl, hg2, hR2⟩; replace hg2 := Hid.intro hg2; replace hR2 := Hid.intro hR2)
    all_goals first | omega | skip
    go_ret
    exact ⟨rfl, hg2.out, hR2.out⟩
end
end Go.Proofs.YtmndccbeddaphaaGreatDoor
namespace Go.Proofs.YtmndccbeddaphaaGreatDoor
open Go.ChangeShapes Go.WideShapes Go.ChangeAt Go.RowKit Go.Sort
set_option linter.unusedVariables false
set_option linter.unusedSimpArgs false
set_option maxRecDepth 100000
def tmP (zs : List Int) (p : Nat) : Nat := rdP zs (txP zs p) 4
def tmB (zs : List Int) (p : Nat) (bad : Option (Int × Int)) : Option (Int × Int) := rdB zs (txP zs p) 4 (txB zs p bad)
def tmN (zs : List Int) (p : Nat) : Int := rdV zs (txP zs p) 4
theorem two_readR {T : TypeId} {w : World} {g : Nat} {v0 v1 : Value} (h : w.heap[g]? = some (.cells #[v0, v1] T (0, 0))) : w.cell? ⟨g, 0, none⟩ = some v0 ∧ w.cell? ⟨g, 1, none⟩ = some v1 := ⟨(cell_blockT h 0).trans rfl, (cell_blockT h 1).trans rfl⟩
section
variable {w w' : World} {r : Nat} {a : Option Addr} {c : Nat} {zs : List Int} {p : Nat} {bad : Option (Int × Int)} {rp : Option Nat} {mv : Value} {last : List UInt8}
set_option maxHeartbeats 4000000 in
theorem term_is (h : RS w r a c zs p bad rp mv last) : Calls Tryz.prog 142 #[.pointer (some ⟨r, 0, none⟩)] w fun e w' => e = .returned (.agg #[.string (txS zs p), .int .u32 (tmN zs p)]) ∧ w.grownBy w' (some r) ∧ ∃ rp', RS w' r a c zs (tmP zs p) (tmB zs p bad) rp' mv last := by
  have hlt := blk_lt h.blk
  have hA := Hid.intro (h.below (below_alloc w (.cells #[.string ⟨#[]⟩, .int .u32 0] 107)))
  have h115 := Hid.intro (text_is hA.out)
  have h113 : Hid (∀ (w2 : World) rp2, RS w2 r a c zs (txP zs p) (txB zs p bad) rp2 mv last → Calls Tryz.prog 113 #[.pointer (some ⟨r, 0, none⟩), .int .i64 4] w2 fun e w' => e = .returned (.int .u32 (tmN zs p)) ∧ w2.grownBy w' (some r) ∧ ∃ rp', RS w' r a c zs (tmP zs p) (tmB zs p bad) rp' mv last) := fun w2 rp2 hR => number_is hR 4 (.inr (.inr rfl))
  have hfin : Hid (∀ w2 w3 x y, (w.alloc (.cells #[.string ⟨#[]⟩, .int .u32 0] 107)).grownBy w2 (some r) → w2.grownBy w3 (some r) → (∃ rp', RS w3 r a c zs (tmP zs p) (tmB zs p bad) rp' mv last) → w3.heap[w.heap.size]? = some (.cells #[.string ⟨#[]⟩, .int .u32 0] 107 (0, 0)) ∧ ((w3.setCell ⟨w.heap.size, 0, none⟩ x).setCell ⟨w.heap.size, 1, none⟩ y).heap[w.heap.size]? = some (.cells #[x, y] 107 (0, 0)) ∧ w.grownBy ((w3.setCell ⟨w.heap.size, 0, none⟩ x).setCell ⟨w.heap.size, 1, none⟩ y) (some r) ∧ ∃ rp', RS ((w3.setCell ⟨w.heap.size, 0, none⟩ x).setCell ⟨w.heap.size, 1, none⟩ y) r a c zs (tmP zs p) (tmB zs p bad) rp' mv last) := fun w2 w3 x y g1 g2 hR => by
    have hne : (w.heap.size : Nat) ≠ r := Nat.ne_of_gt hlt
    have g12 := grown_trans g1 g2
    have h0 := heap_alloc_new w (.cells #[.string ⟨#[]⟩, .int .u32 0] 107)
    have h3 := (g12.block _ (blk_lt h0) (fun e => hne (Option.some.inj e))).trans h0
    obtain ⟨s1, k1⟩ := row_set h3 0 x
    obtain ⟨s2, k2⟩ := row_set s1 1 y
    have k := grown_trans k1 k2
    refine ⟨h3, s2, ?_, ?_⟩
    · have hg := grown_trans (World.grownBy_alloc w (.cells #[.string ⟨#[]⟩, .int .u32 0] 107) (some r)) g12
      exact ⟨by rw [k.os, hg.os], by rw [k.tape, hg.tape], by rw [k.output, hg.output], Nat.le_trans hg.size k.size, fun j hj hjr => by rw [k.block j (Nat.lt_of_lt_of_le hj hg.size) (fun e => by cases e; exact absurd hj (Nat.lt_irrefl _)), hg.block j hj hjr]⟩
    · obtain ⟨rp', hR⟩ := hR
      refine ⟨rp', ⟨(k.block r (blk_lt hR.blk) (fun e => hne (Option.some.inj e).symm)).trans hR.blk, lies_grown hR.lies (fun z hz => ⟨Nat.lt_trans (hR.old z hz) (blk_lt hR.blk), fun e => ?_⟩) k, hR.old, hR.cap, hR.few, hR.at_, hR.rf.grown (fun q hq e => ?_) k⟩⟩
      · have := hR.old z hz; have e' := Option.some.inj e; omega
      · have e' := Option.some.inj e
        subst e'
        have h5 := hR.rf
        cases hb : tmB zs p bad with
        | none => rw [hb] at h5; rw [hq] at h5; cases h5
        | some f =>
          rw [hb] at h5
          obtain ⟨q', h6, h7⟩ := h5
          rw [hq] at h6
          cases h6
          rw [h3] at h7
          cases h7
  obtain ⟨n0, hn0⟩ : ∃ n0, n0 = tmN zs p := ⟨_, rfl⟩
  rw [← hn0] at h113 ⊢
  generalize txS zs p = S at *
  clear h hA hn0
  go_enter Tryz.func142, Tryz.ntmps142
  go_wp2_with (first
    | (go_at_call 115; (with_reducible refine (h115.out).mono ?_); rintro e w2 ⟨rfl, g1, rp2, hR2⟩; replace g1 := Hid.intro g1; replace hR2 := Hid.intro hR2)
    | (go_at_call 113; (with_reducible refine (h113.out _ rp2 hR2.out).mono ?_); rintro e w3 ⟨rfl, g2, hR3⟩; obtain ⟨k1, k2, k3, k4⟩ := hfin.out w2 w3 (.string S) (.int .u32 n0) g1.out g2 hR3; obtain ⟨d0, d1⟩ := two_readR k1; have df := fun j => frozen_of_row w3 w.heap.size j _ 107 k1; replace k3 := Hid.intro k3; replace k4 := Hid.intro k4; replace k2 := Hid.intro k2; clear k1 g2 hR3))
  all_goals first | omega | skip
  obtain ⟨z0, z1⟩ := two_readR k2.out
  refine bodyPost_ret (by simp [results, Tryz.results142, go_sem, z0, z1]; try rfl) rfl ?_
  exact ⟨rfl, k3.out, k4.out⟩
end
end Go.Proofs.YtmndccbeddaphaaGreatDoor

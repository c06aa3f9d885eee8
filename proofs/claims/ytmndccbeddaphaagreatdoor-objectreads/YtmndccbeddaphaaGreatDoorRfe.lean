/- unit's Refusal.Error; the law's refused. -/
import Derived.Test.YtmndccbeddaphaaGreatDoorUGl
import Derived.Shelf.Strconv.Itoa3
import Derived.Laws.IdiomStrings
import Derived.BigQuiet
import Derived.Test.YtmndccbeddaphaaGreatDoorShx
import Derived.Test.YtmndccbeddaphaaGreatDoorEr5
import Derived.Test.YtmndccbeddaphaaGreatDoorEr1
import Derived.Test.YtmndccbeddaphaaGreatDoorICheck
import Derived.LaidLaws
import Derived.LaidHandle
import Derived.Test.YtmndccbeddaphaaGreatDoorQuietB
import Derived.Sort.Grow
/- api's Errno.Error, unit's Refusal.Error: a text that is not empty. -/
namespace Go.Proofs.YtmndccbeddaphaaGreatDoor
open Go.ChangeShapes Go.WideShapes Go.ChangeAt Go.RowKit
set_option linter.unusedVariables false
set_option maxRecDepth 100000
theorem info5 : (Tryz.prog.info? 5).map (fun i => (i.zero, i.size, i.bytes)) = some (some (.int .u8 0), 1, 1) := by kernel_rfl
abbrev byV (l : List UInt8) : List Value := l.map fun b => .int .u8 (b.toNat : Int)
theorem conv_own {w : World} {lo : Nat} {a : Option Addr} {c : Nat} {l : List UInt8} (h : w.ownsRow lo 5 1 (.slice a l.length c) l.length (byV l)) (hne : l ≠ []) : (convert 22 9 (.slice a l.length c)).run Tryz.prog w = .ok (.string (str l)) w := by
  rcases h.2 with ⟨_, h0⟩ | ⟨g, cap, cur, hv, _⟩
  · exact absurd (List.length_eq_zero_iff.1 h0) hne
  · injection hv with hv1 _ _
    subst hv1
    exact run_convert_bytes_back w 22 9 5 ⟨g, 0, none⟩ c l Tryz.underlying22 Tryz.underlying5 Tryz.underlying9 (fun j hj => h.cells (g := g) rfl j _ (by simp [hj]))
def dg0 (k : Nat) : UInt8 := UInt8.ofNat (48 + k % 10)
def dg1 (k : Nat) : UInt8 := UInt8.ofNat (48 + k / 10)
def dgs (k : Nat) : List UInt8 := if k < 10 then [dg0 k] else [dg1 k, dg0 k]
abbrev sRefusal : ByteArray := ⟨#[114, 101, 102, 117, 115, 97, 108, 32]⟩
set_option maxHeartbeats 4000000 in
theorem ern_num (k : Nat) (hk : k ≤ 99) (h0 : k ≠ 0) (h1 : k ≠ 1) (h20 : k ≠ 20) (h23 : k ≠ 23) (w : World) : Calls Tryz.prog 84 #[.int .i64 (k : Int)] w fun e w' => e = .returned (.string (sRefusal ++ str (dgs k))) ∧ Below w.heap.size w w' := by
  have e0 : ((k : Int) == 0) = false := by simp; omega
  have e1 : ((k : Int) == 1) = false := by simp; omega
  have e2 : ((k : Int) == 20) = false := by simp; omega
  have e3 : ((k : Int) == 23) = false := by simp; omega
  have hp : ¬ ((k : Int) < 0) := by omega
  obtain ⟨i0, hi, hz0, hz1, hz2⟩ := info_parts info5
  go_enter Tryz.func84, Tryz.ntmps84
  go_wp2
  all_goals first | omega | skip
  clear e0 e1 e2 e3 hp
  go_loopw [3, 4] (fun v3 v4 wr => ∃ (n : Nat) (a : Option Addr) (c : Nat) (l : List UInt8), n ≤ 99 ∧ ((l = [] ∧ n = k) ∨ (l = [dg0 k] ∧ n = k / 10) ∨ (10 ≤ k ∧ l = [dg1 k, dg0 k] ∧ n = 0)) ∧ v3 = .int .i64 (n : Int) ∧ v4 = .slice a l.length c ∧ Hid (wr.ownsRow w.heap.size 5 1 (.slice a l.length c) l.length (byV l)) ∧ Hid (Below w.heap.size w wr)) (fun v3 v4 wr => (intOf v3).toNat)
  case atStart => exact ⟨k, none, 0, [], hk, .inl ⟨rfl, rfl⟩, rfl, rfl, World.ownsRow_nil _ _ _ _, Below.refl _ _⟩
  case round =>
    obtain ⟨n, a, c, l, hn, hcase, rfl, rfl, hO, hB⟩ := hrel
    have hll : l.length ≤ 2 := by rcases hcase with ⟨rfl, _⟩ | ⟨rfl, _⟩ | ⟨_, rfl, _⟩ <;> simp
    by_cases hn0 : n = 0
    · subst hn0
      have hne : l ≠ [] := by
        rcases hcase with ⟨_, h⟩ | ⟨rfl, _⟩ | ⟨_, rfl, _⟩
        · exact absurd h.symm h0
        · simp
        · simp
      have hdg : Hid (l = dgs k) := by
        show _ = _
        unfold dgs
        rcases hcase with ⟨_, h⟩ | ⟨rfl, h⟩ | ⟨h, rfl, _⟩
        · exact absurd h.symm h0
        · rw [if_pos (by omega)]
        · rw [if_neg (by omega)]
      have hcv := conv_own hO.out hne
      have hl0 : ((l.length : Int) == 0) = false := by
        have : l.length ≠ 0 := fun h => hne (List.length_eq_zero_iff.1 h)
        simp; omega
      have hsz : (str l).size = l.length := rfl
      have hadd : ∀ W : World, (Op.stringOp .add ⟨#[114, 101, 102, 117, 115, 97, 108, 32]⟩ (str l)).run Tryz.prog W = .ok (.string (⟨#[114, 101, 102, 117, 115, 97, 108, 32]⟩ ++ str l)) W := fun W => run_string_add_sum W _ _ (by rw [hsz]; show 8 + l.length ≤ _; omega)
      generalize l.length = ln at *
      clear hcase hne
      go_wp2
      all_goals first | omega | skip
      go_ret
      rw [← hdg.out]
      exact ⟨rfl, hB.out⟩
    · have hpos : (0 : Int) < (n : Int) := by omega
      obtain ⟨d, hdd, hd⟩ : ∃ d : UInt8, d = UInt8.ofNat (48 + n % 10) ∧ (d.toNat : Int) = 48 + (n : Int) % 10 := ⟨UInt8.ofNat (48 + n % 10), rfl, by rw [UInt8.toNat_ofNat']; omega⟩
      have hone : Hid ((wr.alloc (.cells #[.int .u8 (48 + (n : Int) % 10)] 5)).ownsRow w.heap.size 5 1 (.slice (some ⟨wr.heap.size, 0, none⟩) 1 1) 1 [.int .u8 (48 + (n : Int) % 10)]) := ⟨rfl, .inr ⟨wr.heap.size, 1, _, rfl, hB.out.size, heap_alloc_new wr _, Nat.le_refl _, by unfold maxLen; omega, rfl, rfl⟩⟩
      have hsrc : Hid (Src (wr.alloc (.cells #[.int .u8 (48 + (n : Int) % 10)] 5)) (.slice a l.length c) l.length (byV l)) := own_src (own_keptB hO.out (below_alloc wr _))
      have hl1 : Hid ((byV l).length = l.length * 1) := by show _ = _; simp
      have hone1 : Hid (∀ u ∈ byV l, u.oneCell' = true) := fun u hu => by
        obtain ⟨x, _, rfl⟩ := List.mem_map.1 hu
        rfl
      have hbase : w.heap.size ≤ (wr.alloc (.cells #[.int .u8 (48 + (n : Int) % 10)] 5)).heap.size := Nat.le_trans hB.out.size (below_alloc wr _).size
      have hB1 : Hid (Below w.heap.size w (wr.alloc (.cells #[.int .u8 (48 + (n : Int) % 10)] 5))) := hB.out.alloc hB.out.size _
      have hnx : Hid ((d :: l = [dg0 k] ∧ n / 10 = k / 10) ∨ (10 ≤ k ∧ d :: l = [dg1 k, dg0 k] ∧ n / 10 = 0)) := by
        show _ ∨ _
        rcases hcase with ⟨rfl, rfl⟩ | ⟨rfl, rfl⟩ | ⟨_, _, h⟩
        · exact .inl ⟨by rw [hdd]; rfl, rfl⟩
        · refine .inr ⟨by omega, ?_, by omega⟩
          rw [hdd]
          congr 1
          unfold dg1
          rw [Nat.mod_eq_of_lt (by omega)]
        · exact absurd h hn0
      obtain ⟨ln, hln⟩ : ∃ ln, l.length = ln := ⟨_, rfl⟩
      rw [hln] at hsrc hl1 hO hll ⊢
      replace hln := Hid.intro hln
      replace hd := Hid.intro hd
      clear hcase hn0 hdd
      go_wp2_with (at_builtin; go_must (refine wpList_app rfl (.tmp 28) (.tmp 29) 22 rfl w.heap.size 5 i0 _ 1 1 Tryz.underlying22 hi hz0 hz1 hz2 rfl (by decide) (.slice (some ⟨wr.heap.size, 0, none⟩) 1 1) 1 _ rfl hone.out (.slice a ln c) ln (byV l) rfl hsrc.out hl1.out hone1.out (by unfold maxLen; omega) (by omega) hbase ?_; intro v' w3 ho hg hw; rw [Nat.add_comm 1 ln] at ho; obtain ⟨a', c', rfl⟩ := own_slice ho; replace ho := Hid.intro ho; replace hg := Hid.intro hg; clear hw))
      all_goals first | omega | skip
      go_roundw
      case rel =>
        refine ⟨n / 10, a', c', d :: l, by omega, ?_, by simp, by rw [List.length_cons, hln.out], ?_, ?_⟩
        · exact .inr hnx.out
        · have h2 := ho.out
          show World.ownsRow _ _ _ _ _ _ _
          rw [List.length_cons, hln.out]
          have e : byV (d :: l) = [.int .u8 (48 + (n : Int) % 10)] ++ byV l := by simp [hd.out]
          rw [e]
          exact h2
        · exact hB1.out.grown hg.out hB1.out.size (fun j hj => by cases hj; exact hB.out.size)
      case measure =>
        simp [intOf]
        omega
def ernS (k : Nat) : ByteArray :=
  if k = 0 then ⟨#[110, 111, 32, 101, 114, 114, 111, 114]⟩
  else if k = 1 then ⟨#[97, 110, 32, 97, 114, 103, 117, 109, 101, 110, 116, 32, 116, 104, 97, 116, 32, 109, 97, 121, 32, 110, 111, 116, 32, 98, 101]⟩
  else if k = 20 then ⟨#[97, 32, 108, 105, 110, 101, 32, 116, 104, 97, 116, 32, 99, 97, 110, 39, 116, 32, 98, 101, 32, 114, 101, 97, 100]⟩
  else if k = 23 then ⟨#[97, 32, 110, 97, 109, 101, 32, 116, 104, 97, 116, 32, 110, 111, 98, 111, 100, 121, 32, 103, 105, 118, 101, 115]⟩
  else sRefusal ++ str (dgs k)
theorem ernS_size (k : Nat) : (ernS k).size ≤ 100 := by
  unfold ernS
  split
  · decide
  · split
    · decide
    · split
      · decide
      · split
        · decide
        · rw [ByteArray.size_append]
          unfold dgs
          split
          · show 8 + 1 ≤ 100; omega
          · show 8 + 2 ≤ 100; omega
theorem ern_any (k : Nat) (hk : k ≤ 99) (w : World) : Calls Tryz.prog 84 #[.int .i64 (k : Int)] w fun e w' => e = .returned (.string (ernS k)) ∧ Below w.heap.size w w' := by
  unfold ernS
  by_cases h0 : k = 0
  · subst h0
    go_enter Tryz.func84, Tryz.ntmps84
    go_wp2
    go_ret
    exact ⟨rfl, Below.refl _ _⟩
  rw [if_neg h0]
  by_cases h1 : k = 1
  · subst h1
    go_enter Tryz.func84, Tryz.ntmps84
    go_wp2
    go_ret
    exact ⟨rfl, Below.refl _ _⟩
  rw [if_neg h1]
  by_cases h20 : k = 20
  · subst h20
    go_enter Tryz.func84, Tryz.ntmps84
    go_wp2
    go_ret
    exact ⟨rfl, Below.refl _ _⟩
  rw [if_neg h20]
  by_cases h23 : k = 23
  · subst h23
    go_enter Tryz.func84, Tryz.ntmps84
    go_wp2
    go_ret
    exact ⟨rfl, Below.refl _ _⟩
  rw [if_neg h23]
  exact ern_num k hk h0 h1 h20 h23 w
end Go.Proofs.YtmndccbeddaphaaGreatDoor
namespace Go.Proofs.YtmndccbeddaphaaGreatDoor
open Go.ChangeShapes Go.WideShapes Go.ChangeAt Go.RowKit Go.Sort
set_option linter.unusedVariables false
set_option maxRecDepth 100000
abbrev powName : String := "internal/strconv.uint64pow10"
def Pow (w : World) : Prop := Lib.TabIs Tryz.prog w powName .u64 Lib.pow10Tab
theorem gPow : Tryz.prog.globalNamed powName = some 1 := by kernel_rfl
theorem Pow.lt {w : World} (h : Pow w) : 1 < w.heap.size := by
  unfold Pow Lib.TabIs World.var? at h
  simp only [gPow, Option.bind_some] at h
  apply Decidable.byContradiction
  intro hn
  rw [Array.getElem?_eq_none (by omega)] at h
  cases h
theorem Pow.below {w w' : World} {B : Nat} (h : Pow w) (hb : Below B w w') (hB : 1 < B) : Pow w' := by
  unfold Pow Lib.TabIs World.var? at *
  simp only [gPow, Option.bind_some] at h ⊢
  rw [hb.block 1 hB]
  exact h
theorem below_grow (w : World) (k : Nat) (os : Array Obj) : Below w.heap.size w (grow (w.drewN k) os) := by
  refine ⟨rfl, rfl, rfl, ?_, fun j hj => ?_⟩
  · simp [grow, World.drewN]
  · rw [heap_grow_old _ _ (by simpa [World.drewN] using hj)]
    rfl
abbrev itoaS (n : Nat) : ByteArray := ⟨(Lib.itoa (n : Int)).toArray⟩
theorem itoa_any (n : Nat) (hn : n ≤ 1000000) (w : World) (hP : Pow w) : Calls Tryz.prog 83 #[.int .i64 (n : Int)] w fun e w' => e = .returned (.string (itoaS n)) ∧ Below w.heap.size w w' := by
  refine (Any.strconv_Itoa Tryz.laysItoa (n : Int) (by omega) (by omega) w hP).mono ?_
  rintro e w' ⟨rfl, k, os, rfl⟩
  exact ⟨rfl, below_grow w k os⟩
theorem decDigits_len (u : Nat) : (Lib.decDigits u).length ≤ u + 1 := by
  induction u using Nat.strongRecOn with
  | ind u ih =>
    rw [Lib.decDigits]
    split
    · simp
    · have := ih (u / 10) (by omega)
      simp
      omega
theorem itoa_len (n : Nat) (hn : n ≤ 1000000) : (itoaS n).size ≤ 1000001 := by
  show (Lib.itoa (n : Int)).toArray.size ≤ _
  have := decDigits_len n
  unfold Lib.itoa
  rw [if_neg (by omega)]
  simp
  omega
def refS (n k : Nat) : ByteArray := ⟨#[98, 121, 116, 101, 32]⟩ ++ itoaS n ++ ⟨#[58, 32]⟩ ++ ernS k
theorem refS_ne (n k : Nat) : ((refS n k).toList == []) = false := by
  have h : 5 ≤ (refS n k).size := by
    unfold refS
    rw [ByteArray.size_append, ByteArray.size_append, ByteArray.size_append]
    show 5 ≤ 5 + _ + _ + _
    omega
  cases hl : (refS n k).toList with
  | cons a l => rfl
  | nil =>
    have h2 : (refS n k).toList.length = (refS n k).size := by
      rw [← bs_length]
      unfold bs
      rw [← str_toList (refS n k).data.toList]
      rfl
    rw [hl] at h2
    simp at h2
    omega
set_option maxHeartbeats 4000000 in
theorem refError_any (q n k : Nat) (hn : n ≤ 1000000) (hk : k ≤ 99) (w : World) (hP : Pow w) (hq : w.heap[q]? = some (.cells #[.int .i64 (n : Int), .int .i64 (k : Int)] 68 (0, 0))) :
    Calls Tryz.prog 33 #[.pointer (some ⟨q, 0, none⟩)] w fun e w' => e = .returned (.string (refS n k)) ∧ Below w.heap.size w w' := by
  have hlt := blk_lt hq
  have hPs := hP.lt
  have c0 : ∀ p : BelowOf w, p.wd.cell? ⟨q, 0, none⟩ = some (.int .i64 (n : Int)) := fun p => p.cell (a := ⟨q, 0, none⟩) hlt ((cell_blockT hq 0).trans rfl)
  have c1 : ∀ p : BelowOf w, p.wd.cell? ⟨q, 1, none⟩ = some (.int .i64 (k : Int)) := fun p => p.cell (a := ⟨q, 1, none⟩) hlt ((cell_blockT hq 1).trans rfl)
  have h84 := Hid.intro (fun p : BelowOf w => itoa_any n hn p.wd (hP.below p.h hPs))
  have h85 := Hid.intro (fun p : BelowOf w => ern_any k hk p.wd)
  have hi := itoa_len n hn
  have hes := ernS_size k
  have e5 : (⟨#[98, 121, 116, 101, 32]⟩ : ByteArray).size = 5 := rfl
  have e2 : (⟨#[58, 32]⟩ : ByteArray).size = 2 := rfl
  have a1 : ∀ W : World, (Op.stringOp .add ⟨#[98, 121, 116, 101, 32]⟩ (itoaS n)).run Tryz.prog W = .ok (.string (⟨#[98, 121, 116, 101, 32]⟩ ++ itoaS n)) W := fun W => run_string_add_sum W _ _ (by omega)
  have a2 : ∀ W : World, (Op.stringOp .add (⟨#[98, 121, 116, 101, 32]⟩ ++ itoaS n) ⟨#[58, 32]⟩).run Tryz.prog W = .ok (.string (⟨#[98, 121, 116, 101, 32]⟩ ++ itoaS n ++ ⟨#[58, 32]⟩)) W := fun W => run_string_add_sum W _ _ (by rw [ByteArray.size_append]; omega)
  have a3 : ∀ W : World, (Op.stringOp .add (⟨#[98, 121, 116, 101, 32]⟩ ++ itoaS n ++ ⟨#[58, 32]⟩) (ernS k)).run Tryz.prog W = .ok (.string (refS n k)) W := fun W => run_string_add_sum W _ _ (by rw [ByteArray.size_append, ByteArray.size_append]; omega)
  clear hq hP hi hes e5 e2 hn hk
  generalize ernS k = ES at *
  generalize itoaS n = IS at *
  generalize refS n k = RS at *
  go_enter Tryz.func33, Tryz.ntmps33
  go_wp2_with fail
  refine wp_region_quiet_below (by kernel_rfl) (by kernel_rfl) ?_
  repeat (first | (with_reducible refine wpQuiet_skip (by with_unfolding_all rfl) ?_; simp only [Act.put, List.setIfInBounds_toArray, List.set_cons_zero, List.set_cons_succ]) | (with_reducible refine wpQuiet_step (fun K hK => ?_); go_simp; first | (with_reducible refine hK _ ?_; clear hK K) | (apply Exists.intro; refine ⟨fun p => ?_, hK _ ?_⟩; (first | (go_at_call 83; with_reducible refine below_calls (h84.out p)) | (go_at_call 84; with_reducible refine below_calls (h85.out p))); clear hK K)))
  with_reducible refine wpQuiet_nil ?_
  intro _ hw'
  obtain ⟨pq, hw''⟩ := hw'
  subst hw''
  have hend := Hid.intro pq.h
  go_wp2_with fail
  go_ret
  exact ⟨rfl, hend.out⟩
theorem nil_eq28 (w : World) : (binOp .eql 32 .nilIface .nilIface).run Tryz.prog w = .ok (.bool true) w := by kernel_rfl
theorem assert_ref (a : Addr) (w : World) : (Instr.typeAssert (.iface 66 (.pointer (some a))) 32 66 true).run Tryz.prog w = .ok (.tuple #[.pointer (some a), .bool true]) w := by kernel_rfl
theorem ptr_ne (a : Addr) (w : World) : (binOp .neq 66 (.pointer (some a)) (.pointer none)).run Tryz.prog w = .ok (.bool true) w := by kernel_rfl
set_option maxHeartbeats 4000000 in
theorem refused_none (n : Int) (w : World) : Calls Tryz.prog 11 #[.nilIface, .agg #[.int .i64 n, .int .i64 0]] w fun e w' => e = .returned (.bool true) ∧ Below w.heap.size w w' := by
  have h := nil_eq28
  go_enter Tryz.func11, Tryz.ntmps11
  go_wp2
  go_ret
  exact ⟨rfl, below_alloc w _⟩
theorem two_read {T : TypeId} {w : World} {g : Nat} {v0 v1 : Value} (h : w.heap[g]? = some (.cells #[v0, v1] T (0, 0))) : w.cell? ⟨g, 0, none⟩ = some v0 ∧ w.cell? ⟨g, 1, none⟩ = some v1 :=
  ⟨(cell_blockT h 0).trans rfl, (cell_blockT h 1).trans rfl⟩
set_option maxHeartbeats 8000000 in
theorem refused_any (q n k : Nat) (hn : n ≤ 1000000) (hk : k ≤ 99) (hk0 : k ≠ 0) (w : World) (hP : Pow w) (hq : w.heap[q]? = some (.cells #[.int .i64 (n : Int), .int .i64 (k : Int)] 68 (0, 0))) :
    Calls Tryz.prog 11 #[.iface 66 (.pointer (some ⟨q, 0, none⟩)), .agg #[.int .i64 (n : Int), .int .i64 (k : Int)]] w fun e w' => e = .returned (.bool true) ∧ Below w.heap.size w w' := by
  have hB0 := below_alloc w (.cells #[.int .i64 (n : Int), .int .i64 (k : Int)] 37)
  have hbx := heap_alloc_new w (.cells #[.int .i64 (n : Int), .int .i64 (k : Int)] 37)
  have hq0 := (hB0.block q (blk_lt hq)).trans hq
  have hP0 := hP.below hB0 hP.lt
  have hlt := blk_lt hq0
  have hlt2 := blk_lt hbx
  obtain ⟨y0, y1⟩ := two_read hbx
  generalize hW : w.alloc (.cells #[.int .i64 (n : Int), .int .i64 (k : Int)] 37) = W at *
  have c0 : ∀ p : BelowOf W, p.wd.cell? ⟨q, 0, none⟩ = some (.int .i64 (n : Int)) := fun p => p.cell (a := ⟨q, 0, none⟩) hlt (two_read hq0).1
  have c1 : ∀ p : BelowOf W, p.wd.cell? ⟨q, 1, none⟩ = some (.int .i64 (k : Int)) := fun p => p.cell (a := ⟨q, 1, none⟩) hlt (two_read hq0).2
  have d0 : ∀ p : BelowOf W, p.wd.cell? ⟨w.heap.size, 0, none⟩ = some (.int .i64 (n : Int)) := fun p => p.cell (a := ⟨w.heap.size, 0, none⟩) hlt2 y0
  have d1 : ∀ p : BelowOf W, p.wd.cell? ⟨w.heap.size, 1, none⟩ = some (.int .i64 (k : Int)) := fun p => p.cell (a := ⟨w.heap.size, 1, none⟩) hlt2 y1
  have toB : ∀ {f : FuncId} {args : Array Value} {W1 : World} {v : Value}, (Calls Tryz.prog f args W1 fun e w' => e = .returned v ∧ w' = W1) → Calls Tryz.prog f args W1 fun e w' => e = .returned v ∧ Below W1.heap.size W1 w' := fun h => h.mono fun e w' ⟨h1, h2⟩ => ⟨h1, by rw [h2]; exact Below.refl _ _⟩
  have h46 := Hid.intro (fun p : BelowOf W => refError_any q n k hn hk p.wd (hP0.below p.h hP0.lt) ((p.h.block q hlt).trans hq0))
  have h48 := Hid.intro (fun p : BelowOf W => toB (unwrap_any q (k : Int) p.wd (c1 p)))
  have h47 := Hid.intro (fun p : BelowOf W => toB (sameErr_any (k : Int) (k : Int) p.wd))
  have h49 := Hid.intro (fun p : BelowOf W => toB (is_refusal q (k : Int) p.wd (c1 p)))
  have hne := refS_ne n k
  have e1 : ((n : Int) == (n : Int)) = true := by simp
  have e2 : ((k : Int) == (k : Int)) = true := by simp
  have e3 : ((k : Int) == 0) = false := by simp; exact hk0
  rw [e2] at h47
  have ha := assert_ref ⟨q, 0, none⟩
  have hp := ptr_ne ⟨q, 0, none⟩
  have hB0H := Hid.intro hB0
  clear hq hq0 hP hP0 hbx hB0 hn hk hk0 toB hlt hlt2
  generalize refS n k = RS at *
  generalize (n : Int) = N at *
  generalize (k : Int) = K9 at *
  go_enter Tryz.func11, Tryz.ntmps11
  subst hW
  go_wp2_with fail
  refine wp_region_quiet_below (by kernel_rfl) (by kernel_rfl) ?_
  repeat (first | (with_reducible refine wpQuiet_skip (by with_unfolding_all rfl) ?_; simp only [Act.put, List.setIfInBounds_toArray, List.set_cons_zero, List.set_cons_succ]) | (with_reducible refine wpQuiet_step (fun K hK => ?_); go_simp; first | (with_reducible refine hK _ ?_; clear hK K) | (apply Exists.intro; refine ⟨fun p => ?_, hK _ ?_⟩; (first | (go_at_call 33; with_reducible refine below_calls (h46.out p)) | (go_at_call 35; with_reducible refine below_calls (h48.out p)) | (go_at_call 34; with_reducible refine below_calls (h47.out p)) | (go_at_call 36; with_reducible refine below_calls (h49.out p))); clear hK K)))
  with_reducible refine wpQuiet_nil ?_
  intro _ hw'
  obtain ⟨pq, hw''⟩ := hw'
  subst hw''
  have hend := Hid.intro (hB0H.out.trans (pq.h.mono hB0H.out.size))
  go_wp2_with fail
  go_ret
  exact ⟨rfl, hend.out⟩
end Go.Proofs.YtmndccbeddaphaaGreatDoor

/- line.All: the iterator and its contract. -/
import Derived.RangeFuncNested
import Derived.RangeFuncBound
import Derived.RangeFuncCalls
import Derived.RangeFuncLeaves
import Derived.Shelf.Abstract
import Derived.Shelf.RegionOpen
import Derived.WalkKit
import Derived.OwnWalkIn
import Derived.TacticsInMore
import Derived.LoopNIn
import Derived.LoopIn
import Derived.Test.YtdmhdhmclcogoaaCutS
import Derived.Test.YtdmhdhmclcogoaaArgsO
namespace Go.Proofs.Ytdmhdhmclcogoaa
open Go.ChangeShapes Go.WideShapes Go.ChangeAt Go.RowKit Go.Shelf
set_option linter.unusedVariables false
set_option maxRecDepth 100000
attribute [local go_sem] Oper.semAt_some

theorem all_any (s : ByteArray) (w : World) :
    Calls Try.prog 10 #[.string s] w fun e w' => e = .returned (.func (.func 23) #[] #[.pointer (some ⟨w.heap.size, 0, none⟩)]) ∧ w' = w.alloc (.cells #[.string s] 9) := by
  have hmf : ∀ (fn : Fn) (first cap : Array Value) (w : World), (Instr.makeFunc fn first cap).run Try.prog w = .ok (.func fn first cap) w := fun _ _ _ _ => rfl
  go_enter Try.func10, Try.ntmps10
  go_wp2
  go_ret
  exact ⟨rfl, rfl⟩

/-- what a round is handed: a number and a text that is not too long -/
abbrev LnA : Type := { x : Int × ByteArray // x.2.size ≤ 3000 }
abbrev encL (x : LnA) : Array Value := #[.int .i64 x.1.1, .string x.1.2]

theorem str_size (l : List UInt8) : (str l).size = l.length := by simp [str, ByteArray.size]

def mkA (i : Nat) (l : List UInt8) : LnA := ⟨((i : Int), str (l.take 3000)), by rw [str_size, List.length_take]; omega⟩

theorem mkA_enc (i : Nat) (l : List UInt8) (h : l.length ≤ 3000) : encL (mkA i l) = #[.int .i64 (i : Int), .string (str l)] := by
  show #[Value.int .i64 (i : Int), Value.string (str (l.take 3000))] = _
  rw [List.take_of_length_le h]

/-- the lines with their numbers -/
def numbered (i : Nat) : List (List UInt8) → List LnA
  | [] => []
  | l :: ls => mkA i l :: numbered (i + 1) ls

theorem numbered_len (i : Nat) (ls : List (List UInt8)) : (numbered i ls).length = ls.length := by
  induction ls generalizing i with
  | nil => rfl
  | cons l ls ih => simp [numbered, ih]

def strLen : Value → Nat
  | .string s => s.size
  | _ => 0

set_option maxHeartbeats 2000000 in
theorem all_stops (n : Nat) (hn : 1 ≤ n) (b : Nat) (l : List UInt8) (hl : l.length ≤ 3000) (w : World) (hbw : b < w.heap.size) (hb : w.cell? ⟨b, 0, none⟩ = some (.string (str l))) :
    SeqStopsK Fence.wide n Try.prog 23 #[.pointer (some ⟨b, 0, none⟩)] encL (fun _ _ => True) (fun xs => xs = numbered 1 (linesOf l)) (fun pre => pre <+: numbered 1 (linesOf l)) (linesOf l).length w := fun lp J Jx W hW hJ hJx hY h0 => by
  have hbW : W.cell? ⟨b, 0, none⟩ = some (.string (str l)) := (hW.cell (p := ⟨b, 0, none⟩) hbw).trans hb
  refine callsIn_of_wp Try.func23 rfl trivial ?_ rfl
  simp only [Try.ntmps23, List.size_toArray, List.length_cons, List.length_nil, Nat.reduceAdd, Nat.reduceSub, Array.replicate_succ, Array.replicate_zero, List.push_toArray, List.append_toArray, List.nil_append, List.cons_append]
  gi_wp2
  have hsz0 : W.heap.size ≤ W.heap.size := Nat.le_refl _
  gi_loopw [3, 4] (fun v3 v4 wr => ∃ (pre : List LnA) (rest : List UInt8) (k : Nat), v3 = .string (str rest) ∧ v4 = .int .i64 (k : Int) ∧ numbered 1 (linesOf l) = pre ++ numbered k (linesOf rest) ∧ rest.length ≤ 3000 ∧ k ≤ 3001 ∧ pre.length + 1 = k ∧ Hid (J pre wr)) (fun v3 _ _ => strLen v3)
  case atStart => exact ⟨[], l, 1, rfl, rfl, rfl, hl, by omega, rfl, h0⟩
  case round =>
    obtain ⟨pre, rest, k, rfl, rfl, hx, hr, hk, hpk, hJr⟩ := hrel
    by_cases hrest : rest = []
    · subst hrest
      have e1 := str_toList []
      gi_wp2
      go_end0
      exact ⟨⟨_, rfl⟩, .inl ⟨pre, by rw [hx, linesOf_nil]; simp [numbered], hJr.out⟩⟩
    · have e1 := str_toList rest
      have hb1 : rest.isEmpty = false := by simp [hrest]
      have hlm := linesOf_more rest hrest
      have hle := nlLen_le rest
      obtain ⟨ln, hln⟩ : ∃ ln, ln = rest.take (nlLen rest) := ⟨_, rfl⟩
      obtain ⟨rs, hrs⟩ : ∃ rs, rs = rest.drop (nlLen rest + 1) := ⟨_, rfl⟩
      have hlnl : ln.length ≤ 3000 := by rw [hln, List.length_take]; omega
      have hrsl : rs.length < rest.length := by
        have : 0 < rest.length := List.length_pos_iff.2 hrest
        rw [hrs, List.length_drop]
        omega
      have hC := Hid.intro (fun w => cut_any rest w (by omega))
      rw [← hln, ← hrs] at hC hlm
      have hx2 : Hid (numbered 1 (linesOf l) = (pre ++ [mkA k ln]) ++ numbered (k + 1) (linesOf rs)) := by
        show _ = _
        rw [hx, hlm]
        simp [numbered]
      have hlen : pre.length < (linesOf l).length := by
        have h2 := congrArg List.length hx2.out
        rw [numbered_len] at h2
        simp at h2
        omega
      clear hx hlm hln hrs hrest
      gi_wp2_with (first
        | (refine ⟨trivial, ?_⟩; gi_at_call 24; refine (callsIn_wide.2 (hC.out _)).mono ?_; rintro e w1 ⟨⟨bb, rfl⟩, hbe1⟩)
        | (refine ⟨trivial, ?_⟩; gi_at_call 25; refine (callsIn_wide.2 (clone_any (str ln) _ (by rw [str_size]; omega))).mono ?_; rintro e w2 ⟨rfl, hbe2⟩; have hJ2 := hJ pre _ _ none (hJ pre _ _ none hJr.out (grown_of_below hbe1) (fun r e => by cases e)) (grown_of_below hbe2) (fun r e => by cases e); obtain ⟨fn, tmps, assign, body, hy, hR⟩ := hY pre (mkA k ln) w2 hJ2 hlen; rw [mkA_enc k ln hlnl] at hy))
      refine hR.mono ?_
      rintro e W3 (⟨rfl, hJ3, _⟩ | ⟨rfl, hJx3⟩)
      · gi_wp2
        go_roundw
        case rel => exact ⟨pre ++ [mkA k ln], rs, k + 1, rfl, by go_num, hx2.out, by omega, by have := linesOf_len l; omega, by simp; omega, hJ3⟩
        case measure =>
          show (str rs).size < (str rest).size
          rw [str_size, str_size]
          exact hrsl
      · gi_wp2
        refine bodyPost_ret (results_none rfl _ _ _) rfl ?_
        exact ⟨⟨_, rfl⟩, .inr ⟨pre ++ [mkA k ln], ⟨_, hx2.out.symm⟩, hJx3⟩⟩

theorem Try.seq35 : Try.prog.underlying 35 = some (.func #[63] #[] false) := by kernel_rfl
theorem seq_eq (d : Nat) (b : Option Addr) (W : World) : (Op.equalIn (d + 1) 35 (Value.func (Fn.func 23) #[] #[Value.pointer b]) Value.nilFunc).run Try.prog W = Result.ok false W := by
  simp [Op.equalIn, run_underlying Try.seq35]
theorem seq_some (b : Option Addr) (W : World) : Sem.run Try.prog (binOp BinOp.eql 35 (Value.func (Fn.func 23) #[] #[Value.pointer b]) Value.nilFunc) W = Result.ok (Value.bool false) W := by
  have h : Sem.run Try.prog (Op.equal 35 (Value.func (Fn.func 23) #[] #[Value.pointer b]) Value.nilFunc) W = Result.ok false W := seq_eq 9999 b W
  simp [binOp, go_sem, h]
end Go.Proofs.Ytdmhdhmclcogoaa

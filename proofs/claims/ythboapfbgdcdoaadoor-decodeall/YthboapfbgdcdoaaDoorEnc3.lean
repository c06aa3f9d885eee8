/- Encode as one contract; bytes as a text; the runs that every statement of this stage asks. -/
import Derived.Test.YthboapfbgdcdoaaDoorEnc2
import Derived.Laws.BytesArg
import Derived.Laws.BytesString
namespace Go.Proofs.YthboapfbgdcdoaaDoor
open Go.ChangeShapes Go.WideShapes Go.ChangeAt Go.RowKit
set_option linter.unusedVariables false
set_option maxRecDepth 100000

theorem convert_none (a : Option Addr) (c : Nat) (w : World) : (convert 22 9 (.slice a 0 c)).run Tryd.prog w = .ok (.string ByteArray.empty) w := by
  cases a with
  | none => exact run_convert_bytes_nil (P := Tryd.prog) w 22 5 Tryd.underlying22 Tryd.underlying5 0 c 9 Tryd.underlying9
  | some a =>
    have hl : (loadCells a 0).run Tryd.prog w = .ok ((([] : List Int).map (Value.int .u8)).toArray) w := by
      have := run_loadCells_list (P := Tryd.prog) w a (([] : List Int).map (Value.int .u8)) (fun j v hj => by simp at hj)
      simpa using this
    rw [run_convert_bytes_string w 22 9 5 _ 0 c Tryd.underlying22 Tryd.underlying5 Tryd.underlying9, run_bytesToString w _ 0 c [] hl]
    rfl

/-- bytes that lie in memory, made a text -/
theorem conv_lies {w : World} {a : Option Addr} {zs : List Int} {m c : Nat} (hm : m = zs.length) (h : Lies w a zs) : (convert 22 9 (.slice a m c)).run Tryd.prog w = .ok (.string (strOfNums zs)) w := by
  subst hm
  rcases h.2 with rfl | ⟨b, off, rfl, hc⟩
  · exact (convert_none a c w).trans rfl
  · exact run_convert_bytes_arg (P := Tryd.prog) w 22 5 Tryd.underlying22 Tryd.underlying5 b off zs.length c zs rfl hc 9 Tryd.underlying9

/-- the bytes of an instruction; none, if it is none -/
def encR (op a b n f : Int) : List Int := if checkN op a b n f = 0 then encL op a b n f else []

theorem encL_bytes {op a b n f : Int} (hc : checkN op a b n f = 0) : AreBytes (encL op a b n f) := by
  obtain ⟨hop, hr, hm, hf0, hf4⟩ := check_ok hc
  obtain ⟨s, hs, hs14, hsn⟩ := shape_nat op
  rw [encL, hsn]
  rw [hsn] at hr
  refine putL_bytes _ _ _ (areBytes_append (fun z hz => ?_) (regs_bytes hs14 hr))
  have := byte_range (op - 1).toNat (by omega)
  rw [List.mem_singleton] at hz
  subst hz
  omega
theorem encR_bytes (op a b n f : Int) : AreBytes (encR op a b n f) := by
  unfold encR
  split
  · exact encL_bytes ‹_›
  · exact fun z hz => by cases hz
theorem encL_len (op a b n f : Int) : (encL op a b n f).length ≤ 7 := by
  unfold encL
  have h1 := putL_length ([byteAt (op - 1).toNat + f / 2] ++ regsL a b n (shapeN op).toNat) (n % 4294967296) (widthN (shapeN op).toNat f)
  have h2 := regs_len a b n (shapeN op).toNat
  simp at h1 ⊢
  omega
theorem encR_len (op a b n f : Int) : (encR op a b n f).length ≤ 7 := by
  unfold encR
  split
  · exact encL_len _ _ _ _ _
  · simp

theorem encode_held (op a b n f : Int) (w : World) (hT : Tab w) (hn : -2147483648 ≤ n ∧ n ≤ 2147483647) :
    Calls Tryd.prog 14 #[instV op a b n f] w fun e w' => ∃ a' m c, e = .returned (.tuple #[.slice a' m c, .int .i64 (checkN op a b n f)]) ∧ SlB w' w.heap.size a' m c (encR op a b n f) ∧ Below w.heap.size w w' := by
  refine (encode_any op a b n f w hT hn).mono ?_
  rintro e w' ⟨⟨hc, v, rfl, ho⟩ | ⟨hc, rfl⟩, hb⟩
  · obtain ⟨a', c, rfl, hg⟩ := own_got ho
    have e1 : encR op a b n f = encL op a b n f := by rw [encR, if_pos hc]
    rw [e1, hc]
    exact ⟨a', _, c, rfl, ⟨rfl, hg, encL_bytes hc⟩, hb⟩
  · have e1 : encR op a b n f = [] := by rw [encR, if_neg hc]
    rw [e1]
    exact ⟨none, 0, 0, rfl, ⟨rfl, World.ownsRow_nil _ _ _ _, fun z hz => by cases hz⟩, hb⟩

/-- Encode of an instruction whose answer is known -/
theorem encode_at {op a b n f C : Int} {L : List Int} (hC : checkN op a b n f = C) (hL : encR op a b n f = L) (w : World) (hT : Tab w) (hn : -2147483648 ≤ n ∧ n ≤ 2147483647) :
    Calls Tryd.prog 14 #[instV op a b n f] w fun e w' => ∃ a' m c, e = .returned (.tuple #[.slice a' m c, .int .i64 C]) ∧ SlB w' w.heap.size a' m c L ∧ Below w.heap.size w w' := by
  subst hC hL
  exact encode_held op a b n f w hT hn

theorem known_c : checkN 38 3 0 (-2) 0 = 0 := by decide +kernel
theorem known_l : encR 38 3 0 (-2) 0 = [50, 3, 254, 255, 255, 255] := by decide +kernel
theorem known_s : strOfNums [50, 3, 254, 255, 255, 255] = ⟨#[50, 3, 254, 255, 255, 255]⟩ := by decide +kernel

end Go.Proofs.YthboapfbgdcdoaaDoor

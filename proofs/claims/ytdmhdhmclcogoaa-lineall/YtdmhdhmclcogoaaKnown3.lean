/- Chapter 3's known runs. -/
import Derived.Test.YtdmhdhmclcogoaaParse
namespace Go.Proofs.Ytdmhdhmclcogoaa
open Go.ChangeShapes Go.WideShapes Go.ChangeAt Go.RowKit
set_option linter.unusedVariables false
set_option maxRecDepth 100000

theorem parseL_bad {s : List UInt8} {p : Nat} (h : scan s 0 = .error p) : parseL s = .error p := by unfold parseL; rw [h]
theorem parseL_ok {s : List UInt8} {ts : List Tok} (h : scan s 0 = .ok ts) : parseL s = parseT s.length ts := by unfold parseL; rw [h]

theorem parse_err (s : ByteArray) (hs : s.size ≤ 1100000) (p : Nat) (h : parseL (bs s) = .error p) (w : World) :
    Calls Try.prog 8 #[.string s] w fun e w' => Below w.heap.size w w' ∧ e = .returned (.tuple #[lineZ, .int .i64 (p : Int), .int .i64 20]) := by
  have := parse_any s hs w
  rw [h] at this
  exact this

theorem parse_line (s : ByteArray) (hs : s.size ≤ 1100000) (L : Ln) (h : parseL (bs s) = .ok L) (w : World) :
    Calls Try.prog 8 #[.string s] w fun e w' => Below w.heap.size w w' ∧ ∃ a c vs m, e = .returned (.tuple #[.agg #[.string (str L.label), .string (str L.op), .slice a L.args.length c], .int .i64 0, .int .i64 0]) ∧ ArgsOwn 45 48 w.heap.size w' (.slice a L.args.length c) L.args vs m := by
  have := parse_any s hs w
  rw [h] at this
  refine this.mono ?_
  rintro e w' ⟨hb, va, vs, m, rfl, hA⟩
  obtain ⟨a, c, rfl⟩ := own_slice hA.row
  rw [hA.len] at hA ⊢
  exact ⟨hb, a, c, vs, m, rfl, hA⟩

theorem lineBox_below {w w1 : World} {T : TypeId} {x y z : Value} (hb : Below (w.alloc (.cells #[x, y, z] T)).heap.size (w.alloc (.cells #[x, y, z] T)) w1) :
    w1.cell? ⟨w.heap.size, 0, none⟩ = some x ∧ w1.cell? ⟨w.heap.size, 1, none⟩ = some y ∧ w1.cell? ⟨w.heap.size, 2, none⟩ = some z :=
  line_read (T := T) (by rw [hb.block w.heap.size (by simp)]; exact heap_alloc_new w _)

theorem cellA {w : World} {a : Addr} {v : Value} (h : w.cell? a = some v) (o : Obj) : (w.alloc o).cell? a = some v := (World.grownBy_alloc w o none).cell h (by simp)

def kToks1 : List Tok := [⟨1, [120], 0, 0⟩, ⟨3, [58], 0, 1⟩, ⟨1, [97, 100, 100], 0, 3⟩, ⟨1, [114, 49], 0, 7⟩, ⟨3, [44], 0, 9⟩, ⟨1, [114, 50], 0, 11⟩]
def kLine1 : Ln := ⟨[120], [97, 100, 100], [[⟨1, [114, 49], 0, 7⟩], [⟨1, [114, 50], 0, 11⟩]]⟩
theorem known_p1 : parseL (bs ⟨#[120, 58, 32, 97, 100, 100, 32, 114, 49, 44, 32, 114, 50]⟩) = .ok kLine1 := by
  rw [parseL_ok (ts := kToks1) (by rw [scan_eq 13 _ _ (by decide)]; kernel_rfl)]
  kernel_rfl
def kToks2 : List Tok := [⟨1, [97, 100, 100], 0, 0⟩, ⟨1, [114, 49], 0, 4⟩, ⟨3, [44], 0, 6⟩]
theorem known_p2 : parseL (bs ⟨#[97, 100, 100, 32, 114, 49, 44]⟩) = .error 7 := by
  rw [parseL_ok (ts := kToks2) (by rw [scan_eq 7 _ _ (by decide)]; kernel_rfl)]
  kernel_rfl

theorem known_any (w : World) : Calls Try.prog 11 #[] w fun e w' => e = .returned (.bool true) ∧ Below w.heap.size w w' := by
  have hH1 := Hid.intro (fun w => parse_line _ (by decide) _ known_p1 w)
  have hH2 := Hid.intro (fun w => parse_err _ (by decide) _ known_p2 w)
  have e1 := str_toList [120]
  have e2 := str_toList [97, 100, 100]
  have e3 : kLine1.args.length = 2 := rfl
  have e4 : kLine1.label = [120] := rfl
  have e5 : kLine1.op = [97, 100, 100] := rfl
  rw [e3, e4, e5] at hH1
  clear e3 e4 e5
  go_enter Try.func11, Try.ntmps11
  go_wp2_with (go_at_call 8; first
    | (with_reducible refine (hH1.out _).mono ?_; rintro e w1 ⟨hb1, a1, c1, vs, m, rfl, hA⟩; clear hA)
    | (with_reducible refine (hH2.out _).mono ?_; rintro e w2 ⟨hb2, rfl⟩; obtain ⟨k0, k1, k2⟩ := lineBox_below hb2; replace k0 := cellA k0; replace k1 := cellA k1; replace k2 := cellA k2))
  go_ret
  exact ⟨rfl, ((hb1.trans (one_below hb2 |>.mono hb1.size)).alloc (Nat.le_trans hb1.size (one_below hb2).size) _)⟩
end Go.Proofs.Ytdmhdhmclcogoaa

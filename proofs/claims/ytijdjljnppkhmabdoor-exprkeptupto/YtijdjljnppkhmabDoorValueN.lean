/- expr.Value where no name has a value: the nil map. -/
import Derived.Test.YtijdjljnppkhmabDoorValueT
namespace Go.Proofs.YtijdjljnppkhmabDoor
open Go.ChangeShapes Go.WideShapes Go.ChangeAt Go.RowKit Go.WideMaps Go.Maps
set_option linter.unusedVariables false
set_option maxRecDepth 100000

set_option maxHeartbeats 2000000 in
theorem value_nil (a : Option Addr) (c : Nat) (t : Tm) (r : List Tm) (k : Int) (w : World) (hT : TmLies w a (t :: r)) (hm : (t :: r).length ≤ 9000000) (hN : t.name.length ≤ 1100000) :
    Calls Tryd.prog 19 #[linV (.slice a (t :: r).length c) k, .map none] w fun e w' => Below w.heap.size w w' ∧ e = .returned (.tuple #[.int .u32 0, .bool false]) := by
  obtain ⟨n0, hn0⟩ : ∃ n0, n0 = (t :: r).length := ⟨_, rfl⟩
  rw [← hn0]
  rw [← hn0] at hm
  have hpos : 1 ≤ n0 := by rw [hn0]; simp
  clear hn0
  have hsz : (str t.name).size ≤ maxLen := by
    have h2 : (str t.name).size = t.name.length := by simp [str, ByteArray.size]
    unfold maxLen
    omega
  have hlook : ∀ wx : World, (Instr.lookup 54 (.map none) (.string (str t.name)) true).run Tryd.prog wx = .ok (.tuple #[.int .u32 0, .bool false]) wx := fun wx => by
    simpa using Maps.look_nil (w := wx) true lawS Tryd.underlying54 (zero23 _) (keyOf_string_mk Tryd.underlying9 hsz)
  rcases hT with hx | ⟨g, o, rfl, hg, hc⟩
  · cases hx
  have hb0 := below_alloc w (.cells #[.slice (some ⟨g, o, none⟩) n0 c, .int .u32 k] 25)
  obtain ⟨q0, q1⟩ := (hc 0 t rfl).below hb0 hg
  simp only [Nat.zero_mul, Nat.add_zero] at q0 q1
  clear hc
  go_enter Tryd.func19, Tryd.ntmps19
  go_wp2
  have hs0 : (w.alloc (.cells #[.slice (some ⟨g, o, none⟩) n0 c, .int .u32 k] 25)).heap.size = w.heap.size + 1 := by simp
  generalize w.alloc (.cells #[.slice (some ⟨g, o, none⟩) n0 c, .int .u32 k] 25) = w0 at *
  go_loopw [6, 16] (fun v6 vi wr => v6 = .int .u32 k ∧ vi = .int .i64 0 ∧ wr = w0) (fun _ vi _ => 0)
  case atStart => exact ⟨rfl, rfl, rfl⟩
  case round =>
    obtain ⟨rfl, rfl, rfl⟩ := hrel
    go_wp2
    all_goals first | omega | skip
    go_ret2
    exact ⟨hb0.alloc (by omega) _, rfl⟩
end Go.Proofs.YtijdjljnppkhmabDoor

/- expr.Value. -/
import Derived.Test.YtijdjljnppkhmabDoorTimes
import Derived.Maps.OwnSet
import Derived.Maps.OwnOps
namespace Go.Proofs.YtijdjljnppkhmabDoor
open Go.ChangeShapes Go.WideShapes Go.ChangeAt Go.RowKit Go.WideMaps Go.Maps
set_option linter.unusedVariables false
set_option maxRecDepth 100000

theorem lawS : Keyed Tryd.prog 9 := string_keyed Tryd.underlying9
theorem zero23 (w : World) : (zeroValue 23).run Tryd.prog w = .ok (.int .u32 0) w := by kernel_rfl

/-- block b is a map that has these values -/
def MapIs (w : World) (b n : Nat) (F : List UInt8 → Option Int) : Prop :=
  ∃ D : DataW Unit, w.ownsMap Tryd.prog 9 (plainElem Tryd.prog 23) b n D ∧ IsMap D ∧ ∀ s, has D (.string s) = (F s).isSome ∧ D.atKey (.string s) (.lit (.int .u32 0)) = .lit (.int .u32 ((F s).getD 0))

theorem MapIs.lt {w : World} {b n : Nat} {F : List UInt8 → Option Int} (h : MapIs w b n F) : b < w.heap.size := by
  obtain ⟨D, ⟨es, cl, hb, _⟩, _⟩ := h
  exact (Array.getElem?_eq_some_iff.1 hb).1

theorem MapIs.below {w w' : World} {b n : Nat} {F : List UInt8 → Option Int} {B : Nat} (h : MapIs w b n F) (hb : Below B w w') (hB : b < B) : MapIs w' b n F := by
  obtain ⟨D, ⟨es, cl, h1, h2⟩, h3⟩ := h
  exact ⟨D, ⟨es, cl, by rw [hb.block b hB]; exact h1, h2⟩, h3⟩

/-- the value of terms -/
def valueF (F : List UInt8 → Option Int) : Int → List Tm → Option Int
  | n, [] => some n
  | n, t :: r => match F t.name with
    | none => none
    | some v => valueF F ((n + t.coef * v % 4294967296) % 4294967296) r

theorem valueF_none {F : List UInt8 → Option Int} {n : Int} {t : Tm} {r : List Tm} (h : F t.name = none) : valueF F n (t :: r) = none := by rw [valueF, h]
theorem valueF_some {F : List UInt8 → Option Int} {n v : Int} {t : Tm} {r : List Tm} (h : F t.name = some v) : valueF F n (t :: r) = valueF F ((n + t.coef * v % 4294967296) % 4294967296) r := by rw [valueF, h]

theorem dropT_at {α : Type} (ts : List α) (i : Nat) (t : α) (h : ts[i]? = some t) : ts.drop i = t :: ts.drop (i + 1) := by
  obtain ⟨hi, he⟩ := List.getElem?_eq_some_iff.1 h
  rw [List.drop_eq_getElem_cons hi, he]

def ValOut (R : Option Int) (e : Ending) : Prop := e = .returned (.tuple #[.int .u32 (R.getD 0), .bool R.isSome])

set_option maxHeartbeats 2000000 in
theorem value_any (a : Option Addr) (c : Nat) (ts : List Tm) (k : Int) (b m : Nat) (F : List UInt8 → Option Int) (w : World) (hT : TmLies w a ts) (hm : ts.length ≤ 9000000) (hN : ∀ t ∈ ts, t.name.length ≤ 1100000) (hM : MapIs w b m F) :
    Calls Tryd.prog 19 #[linV (.slice a ts.length c) k, .map (some b)] w fun e w' => Below w.heap.size w w' ∧ ValOut (valueF F k ts) e := by
  obtain ⟨n0, hn0⟩ : ∃ n0, n0 = ts.length := ⟨_, rfl⟩
  obtain ⟨R, hR⟩ : ∃ R, R = valueF F k ts := ⟨_, rfl⟩
  rw [← hn0, ← hR]
  rw [← hn0] at hm
  have hnH := Hid.intro hn0
  have hTH := Hid.intro hT
  have hNH := Hid.intro hN
  have hMH := Hid.intro hM
  have hstart : Hid (R = valueF F k (ts.drop 0)) := hR
  clear hn0 hR hT hN hM
  go_enter Tryd.func19, Tryd.ntmps19
  go_wp2
  have hb0 := below_alloc w (.cells #[.slice a n0 c, .int .u32 k] 25)
  generalize w.alloc (.cells #[.slice a n0 c, .int .u32 k] 25) = w0 at *
  go_loopw [6, 16] (fun v6 vi wr => ∃ (i : Nat) (n : Int), i ≤ n0 ∧ v6 = .int .u32 n ∧ vi = .int .i64 (i : Int) ∧ Hid (R = valueF F n (ts.drop i)) ∧ Below w.heap.size w wr) (fun _ vi _ => n0 - (intOf vi).toNat)
  case atStart => exact ⟨0, k, Nat.zero_le _, rfl, rfl, hstart, hb0⟩
  case round =>
    obtain ⟨i, n, hi, rfl, rfl, hI, hbr⟩ := hrel
    have hszr := hbr.size
    by_cases hlt : i < n0
    · obtain ⟨t, ht⟩ : ∃ t, ts[i]? = some t := ⟨ts[i]'(by rw [← hnH.out]; exact hlt), List.getElem?_eq_getElem _⟩
      have hmem : t ∈ ts := List.mem_of_getElem? ht
      have hsz : (str t.name).size ≤ maxLen := by
        have h1 := hNH.out t hmem
        have h2 : (str t.name).size = t.name.length := by simp [str, ByteArray.size]
        unfold maxLen
        omega
      have hkey : Hid (keyOf Tryd.prog 9 (.string (str t.name)) = some (.string t.name)) := by
        have := keyOf_string_mk Tryd.underlying9 hsz
        exact this
      have hdr := dropT_at ts i t ht
      rcases hTH.out with hx | ⟨g, o, rfl, hg, hc⟩
      · rw [hx] at ht; simp at ht
      obtain ⟨q0, q1⟩ := (hc i t ht).below hbr hg
      obtain ⟨D, hown, hD1, hD2⟩ := (hMH.out.below hbr hMH.out.lt)
      have hownH : Hid (∀ o, (wr.alloc o).ownsMap Tryd.prog 9 (plainElem Tryd.prog 23) b m D) := fun o => by
        obtain ⟨es, cl, h1, h2⟩ := hown
        exact ⟨es, cl, by rw [Below.heap_alloc wr o b (Array.getElem?_eq_some_iff.1 h1).1]; exact h1, h2⟩
      have hD := Hid.intro (hD2 t.name)
      clear hown hD1 hD2 hc hmem
      cases hF : F t.name with
      | none =>
        have hfin : Hid (R = none) := by show R = _; rw [hI.out, hdr, valueF_none hF]
        have hhas : has D (.string t.name) = false := by rw [hD.out.1, hF]; rfl
        clear hF hdr ht
        go_wp2_with (at_lookup; refine wpList_lookup_own_ok_int _ rfl _ _ 54 rfl 9 23 .u32 lawS Tryd.underlying54 Tryd.underlying23 (zero23 _) b m D rfl (hownH.out _) _ _ rfl hkey.out ?_; rw [hhas]; intro cv hat hwc; clear hat hwc)
        all_goals first | omega | skip
        go_ret2
        exact ⟨hbr.alloc hszr _, by rw [hfin.out]; rfl⟩
      | some v =>
        have hnext : Hid (R = valueF F ((n + t.coef * v % 4294967296) % 4294967296) (ts.drop (i + 1))) := by show R = _; rw [hI.out, hdr, valueF_some hF]
        have hhas : has D (.string t.name) = true := by rw [hD.out.1, hF]; rfl
        have hat0 := hD.out.2
        rw [hF] at hat0
        clear hF hdr ht
        go_wp2_with (at_lookup; refine wpList_lookup_own_ok_int _ rfl _ _ 54 rfl 9 23 .u32 lawS Tryd.underlying54 Tryd.underlying23 (zero23 _) b m D rfl (hownH.out _) _ _ rfl hkey.out ?_; rw [hhas]; intro cv hat hwc; obtain rfl : cv = v := (by rw [hat0] at hat; injection hat with hat; injection hat with _ hat; exact hat.symm); clear hat hwc hat0)
        all_goals first | omega | skip
        go_roundw
        case rel => exact ⟨i + 1, _, by omega, rfl, by go_num, hnext, hbr.alloc hszr _⟩
        case measure => simp [intOf]; omega
    · have hfin : Hid (R = some n) := by
        show R = _
        rw [hI.out, show i = ts.length by rw [← hnH.out]; omega, List.drop_length]
        rfl
      go_wp2
      all_goals first | omega | skip
      go_ret2
      exact ⟨hbr, by rw [hfin.out]; rfl⟩
end Go.Proofs.YtijdjljnppkhmabDoor

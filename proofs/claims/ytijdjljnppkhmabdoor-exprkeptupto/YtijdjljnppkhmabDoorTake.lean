/- expr's reader in memory; take. -/
import Derived.Test.YtijdjljnppkhmabDoorQuietB
namespace Go.Proofs.YtijdjljnppkhmabDoor
open Go.ChangeShapes Go.WideShapes Go.ChangeAt Go.RowKit
set_option linter.unusedVariables false
set_option maxRecDepth 100000

/-- a token lies from cell o of block g on -/
structure TokOff (w : World) (g o : Nat) (t : Tok) : Prop where
  kind : w.cell? ⟨g, o, none⟩ = some (.int .i64 t.kind)
  text : w.cell? ⟨g, o + 1, none⟩ = some (.string (str t.text))
  num : w.cell? ⟨g, o + 2, none⟩ = some (.int .u32 t.num)
  place : w.cell? ⟨g, o + 3, none⟩ = some (.int .i64 (t.place : Int))

theorem TokOff.grown {w w' : World} {g o : Nat} {t : Tok} {k : Option Nat} (h : TokOff w g o t) (hg : w.grownBy w' k) (hne : some g ≠ k) : TokOff w' g o t :=
  ⟨hg.cell h.kind hne, hg.cell h.text hne, hg.cell h.num hne, hg.cell h.place hne⟩

/-- the tokens ts lie from a on, wherever in its block that is -/
def TokFrom (w : World) (a : Option Addr) (ts : List Tok) : Prop := ts = [] ∨ ∃ g o, a = some ⟨g, o, none⟩ ∧ g < w.heap.size ∧ ∀ i t, ts[i]? = some t → TokOff w g (o + i * 4) t

theorem TokFrom.head {w : World} {a : Option Addr} {t : Tok} {r : List Tok} (h : TokFrom w a (t :: r)) : ∃ g o, a = some ⟨g, o, none⟩ ∧ g < w.heap.size ∧ TokOff w g o t ∧ ∀ (i : Nat) (x : Tok), r[i]? = some x → TokOff w g (o + 4 + i * 4) x := by
  rcases h with h | ⟨g, o, ha, hg, h⟩
  · exact absurd h (by simp)
  · refine ⟨g, o, ha, hg, by simpa using h 0 t rfl, fun i x hx => ?_⟩
    have := h (i + 1) x (by simpa using hx)
    rwa [show o + (i + 1) * 4 = o + 4 + i * 4 by omega] at this

theorem tokFrom_tail {w : World} {g o : Nat} {r : List Tok} (hg : g < w.heap.size) (h : ∀ (i : Nat) (x : Tok), r[i]? = some x → TokOff w g (o + 4 + i * 4) x) : TokFrom w (some ⟨g, o + 4, none⟩) r := .inr ⟨g, o + 4, rfl, hg, h⟩

/-- the reader at g has the tokens ts left -/
structure Rd (w : World) (g : Nat) (a : Option Addr) (c : Nat) (ts : List Tok) : Prop where
  heap : w.heap[g]? = some (.cells #[.slice a ts.length c] 67 (0, 0))
  lies : TokFrom w a ts
  ne : ∀ x, a = some x → x.block < g
  cap : ts.length ≤ c
  most : c ≤ 9223372036854775807
  few : ts.length ≤ 1100000
  short : ∀ t ∈ ts, t.text.length ≤ 1000000

theorem Rd.c0 {w : World} {g : Nat} {a : Option Addr} {c : Nat} {ts : List Tok} (h : Rd w g a c ts) : w.cell? ⟨g, 0, none⟩ = some (.slice a ts.length c) := by rw [cell_of_row w g 0 _ 67 (0, 0) h.heap]; rfl
theorem Rd.f0 {w : World} {g : Nat} {a : Option Addr} {c : Nat} {ts : List Tok} (h : Rd w g a c ts) : w.frozen? ⟨g, 0, none⟩ = false := frozen_of_row w g 0 _ 67 h.heap
theorem Rd.lt {w : World} {g : Nat} {a : Option Addr} {c : Nat} {ts : List Tok} (h : Rd w g a c ts) : g < w.heap.size := (Array.getElem?_eq_some_iff.1 h.heap).1

theorem Rd.grown {w w' : World} {g : Nat} {a : Option Addr} {c : Nat} {ts : List Tok} {k : Option Nat} (h : Rd w g a c ts) (hg : w.grownBy w' k) (hk : k ≠ some g) (hx : ∀ x, a = some x → some x.block ≠ k) : Rd w' g a c ts := by
  refine ⟨by rw [hg.block g h.lt (fun e => hk e.symm)]; exact h.heap, ?_, h.ne, h.cap, h.most, h.few, h.short⟩
  rcases h.lies with hl | ⟨gt, o, ha, hgt, hl⟩
  · exact .inl hl
  · exact .inr ⟨gt, o, ha, Nat.lt_of_lt_of_le hgt hg.size, fun i t hi => (hl i t hi).grown hg (hx _ ha)⟩

/-- the reader stays, where all that was is as it was -/
theorem Rd.below {w w' : World} {g : Nat} {a : Option Addr} {c : Nat} {ts : List Tok} (h : Rd w g a c ts) (hb : Below w.heap.size w w') : Rd w' g a c ts := h.grown (grown_of_below hb) (by simp) (fun x _ => by simp)

/-- is a token one of these signs? -/
def oneOf (ss : List UInt8) (t : Tok) : Bool := ss.any (fun c => isS t c)

theorem one_set {w : World} {g : Nat} {T : TypeId} {x : Value} (h : w.heap[g]? = some (.cells #[x] T (0, 0))) (y : Value) : (w.setCell ⟨g, 0, none⟩ y).heap[g]? = some (.cells #[y] T (0, 0)) ∧ w.grownBy (w.setCell ⟨g, 0, none⟩ y) (some g) := by
  refine ⟨heap_setCell_same w g 0 _ T y h, ⟨rfl, rfl, rfl, by simp, fun k hk hne => ?_⟩⟩
  have hk' : k ≠ g := fun e => hne (by rw [e])
  rw [heap_setCell_other _ _ _ _ hk']

/-- behind the first token -/
theorem Rd.tail {w : World} {g : Nat} {c : Nat} {t : Tok} {r : List Tok} {gt o : Nat} (h : Rd w g (some ⟨gt, o, none⟩) c (t :: r)) (a' : Option Addr) (c' : Nat) (hw : (c = 1 ∧ a' = some ⟨gt, o, none⟩ ∧ c' = 0) ∨ (a' = some ⟨gt, o + 4, none⟩ ∧ c' = c - 1)) :
    Rd (w.setCell ⟨g, 0, none⟩ (.slice a' r.length c')) g a' c' r ∧ w.grownBy (w.setCell ⟨g, 0, none⟩ (.slice a' r.length c')) (some g) := by
  obtain ⟨s1, s2⟩ := one_set h.heap (.slice a' r.length c')
  have hne := h.ne _ rfl
  have hcap := h.cap
  have hmost := h.most
  have hfew := h.few
  simp only [List.length_cons] at hcap hfew
  refine ⟨⟨s1, ?_, ?_, ?_, ?_, by omega, fun x hx => h.short x (by simp [hx])⟩, s2⟩
  · obtain ⟨gt', o', ha, hg, h1, h2⟩ := h.lies.head
    injection ha with ha
    injection ha with ha1 ha2 _
    subst ha1 ha2
    rcases hw with ⟨hc, rfl, rfl⟩ | ⟨rfl, rfl⟩
    · exact .inl (List.eq_nil_of_length_eq_zero (by omega))
    · refine tokFrom_tail (Nat.lt_of_lt_of_le hg s2.size) fun i x hx => (h2 i x hx).grown s2 (fun e => by injection e with e; simp at hne; omega)
  · intro x hx
    rcases hw with ⟨_, rfl, _⟩ | ⟨rfl, _⟩ <;> (cases hx; exact hne)
  · rcases hw with ⟨hc, _, rfl⟩ | ⟨_, rfl⟩ <;> omega
  · rcases hw with ⟨hc, _, rfl⟩ | ⟨_, rfl⟩ <;> omega

/-- what take answers -/
def takenS (ss : List UInt8) (ts : List Tok) : List UInt8 :=
  match ts with
  | t :: _ => if oneOf ss t = true then t.text else []
  | [] => []
def takenR (ss : List UInt8) (ts : List Tok) : List Tok :=
  match ts with
  | t :: r => if oneOf ss t = true then r else t :: r
  | [] => []

def TakeOut (w : World) (g : Nat) (ss : List UInt8) (ts : List Tok) (e : Ending) (w' : World) : Prop :=
  e = .returned (.string (str (takenS ss ts))) ∧ w.grownBy w' (some g) ∧ ∃ a' c', Rd w' g a' c' (takenR ss ts)

theorem str_inj {a b : List UInt8} (h : str a = str b) : a = b := by
  have := congrArg (fun x => x.data.toList) h
  simpa [str] using this

theorem contains_any (b cap : Nat) (ss : List UInt8) (x : List UInt8) (w : World) (hs : ss.length ≤ 1000) (hc : ∀ j c, ss[j]? = some c → w.cell? ⟨b, j, none⟩ = some (.string (str [c]))) :
    Calls Tryd.prog 41 #[.slice (some ⟨b, 0, none⟩) ss.length cap, .string (str x)] w fun e w' => e = .returned (.bool (ss.any fun c => decide (x = [c]))) ∧ w' = w := by
  have h := Any.slices_Contains_string Tryd.laysContains b 0 ss.length cap (ss.map fun c => str [c]) (str x) w (by simp) (by omega) (fun j hj => by
    have hj' : j < ss.length := by simpa using hj
    rw [Nat.zero_add, hc j ss[j] (List.getElem?_eq_getElem hj')]
    simp [List.getD, List.getElem?_eq_getElem hj'])
  have he : Lib.containsS ((ss.map fun c => str [c]).take ss.length) (str x) = ss.any fun c => decide (x = [c]) := by
    rw [List.take_of_length_le (by simp), Bool.eq_iff_iff, Lib.containsS_iff]
    simp only [List.mem_map, List.any_eq_true, decide_eq_true_eq]
    constructor
    · rintro ⟨c, hc, h⟩
      exact ⟨c, hc, (str_inj h).symm⟩
    · rintro ⟨c, hc, h⟩
      exact ⟨c, hc, by rw [h]⟩
  rw [he] at h
  exact h

theorem oneOf_kind (ss : List UInt8) (t : Tok) (h : t.kind ≠ 3) : oneOf ss t = false := by
  simp [oneOf, isS, h]
theorem oneOf_text (ss : List UInt8) (t : Tok) (h : t.kind = 3) : oneOf ss t = ss.any fun c => decide (t.text = [c]) := by
  simp [oneOf, isS, h]

theorem take_none (a : Option Addr) (c g : Nat) (ss : List UInt8) (v : Value) (w : World) (h : Rd w g a c []) :
    Calls Tryd.prog 28 #[.pointer (some ⟨g, 0, none⟩), v] w fun e w' => TakeOut w g ss [] e w' := by
  have h0 := h.c0
  have hH := Hid.intro h
  simp only [List.length_nil] at h0
  clear h
  go_enter Tryd.func28, Tryd.ntmps28
  go_wp2
  all_goals first | omega | skip
  go_ret
  exact ⟨rfl, World.grownBy.refl _ _, a, c, hH.out⟩

theorem take_other (gt o c g : Nat) (ss : List UInt8) (v : Value) (t : Tok) (r : List Tok) (w : World) (h : Rd w g (some ⟨gt, o, none⟩) c (t :: r)) (hk : t.kind ≠ 3) :
    Calls Tryd.prog 28 #[.pointer (some ⟨g, 0, none⟩), v] w fun e w' => TakeOut w g ss (t :: r) e w' := by
  have h0 := h.c0
  have hH := Hid.intro h
  have hkH := Hid.intro hk
  obtain ⟨gt', o', ha, hg, ⟨q0, q1, q2, q3⟩, h2⟩ := h.lies.head
  injection ha with ha
  injection ha with ha1 ha2 _
  subst ha1 ha2
  have hk' : (t.kind != 3) = true := by simp [hk]
  have hz : ((r.length : Int) + 1 == 0) = false := by simp; omega
  simp only [List.length_cons] at h0
  clear h hk h2
  go_enter Tryd.func28, Tryd.ntmps28
  go_wp2
  all_goals first | omega | skip
  go_ret
  have ho := oneOf_kind ss t hkH.out
  refine ⟨?_, World.grownBy.refl _ _, some ⟨gt, o, none⟩, c, ?_⟩
  · simp only [takenS, ho]; rfl
  · simp only [takenR, ho]; exact hH.out

set_option maxHeartbeats 1000000 in
theorem take_sign (gt o c g b cap : Nat) (ss : List UInt8) (t : Tok) (r : List Tok) (w : World) (hs : ss.length ≤ 1000) (h : Rd w g (some ⟨gt, o, none⟩) c (t :: r)) (hk : t.kind = 3) (hc : ∀ j c, ss[j]? = some c → w.cell? ⟨b, j, none⟩ = some (.string (str [c]))) :
    Calls Tryd.prog 28 #[.pointer (some ⟨g, 0, none⟩), .slice (some ⟨b, 0, none⟩) ss.length cap] w fun e w' => TakeOut w g ss (t :: r) e w' := by
  have h0 := h.c0
  have f0 := h.f0
  have hH := Hid.intro h
  have hkH := Hid.intro hk
  have hcap := h.cap
  have hmost := h.most
  have hfew := h.few
  obtain ⟨gt', o', ha, hg, ⟨q0, q1, q2, q3⟩, h2⟩ := h.lies.head
  injection ha with ha
  injection ha with ha1 ha2 _
  subst ha1 ha2
  have hk' : (t.kind != 3) = false := by simp [hk]
  have hz : ((r.length : Int) + 1 == 0) = false := by simp; omega
  simp only [List.length_cons] at h0 hcap hfew
  have hC := Hid.intro (contains_any b cap ss t.text w hs hc)
  have hcH := Hid.intro hc
  obtain ⟨bv, hbv⟩ : ∃ bv, bv = ss.any fun c => decide (t.text = [c]) := ⟨_, rfl⟩
  have ho : Hid (oneOf ss t = bv) := by show _ = _; rw [hbv]; exact oneOf_text ss t hk
  rw [← hbv] at hC
  obtain ⟨L, hL⟩ : ∃ L, L = ss.length := ⟨_, rfl⟩
  rw [← hL] at hC ⊢
  clear h hk h2 hc hbv hL hs
  cases bv
  · go_enter Tryd.func28, Tryd.ntmps28
    go_wp2_with (go_at_call 41; with_reducible refine (hC.out).mono ?_; rintro e w' ⟨rfl, rfl⟩)
    all_goals first | omega | skip
    go_ret
    refine ⟨?_, World.grownBy.refl _ _, some ⟨gt, o, none⟩, c, ?_⟩
    · simp only [takenS, ho.out]; rfl
    · simp only [takenR, ho.out]; exact hH.out
  · go_enter Tryd.func28, Tryd.ntmps28
    go_wp2_with (go_at_call 41; with_reducible refine (hC.out).mono ?_; rintro e w' ⟨rfl, rfl⟩)
    all_goals first | omega | skip
    · go_ret
      have ht := hH.out.tail (some ⟨gt, o, none⟩) 0 (.inl ⟨by omega, rfl, rfl⟩)
      refine ⟨?_, ht.2, some ⟨gt, o, none⟩, 0, ?_⟩
      · simp only [takenS, ho.out]; rfl
      · simp only [takenR, ho.out]; exact ht.1
    · go_ret
      have ht := hH.out.tail (some ⟨gt, o + 4, none⟩) (c - 1) (.inr ⟨rfl, rfl⟩)
      refine ⟨?_, ht.2, some ⟨gt, o + 4, none⟩, c - 1, ?_⟩
      · simp only [takenS, ho.out]; rfl
      · simp only [takenR, ho.out]; exact ht.1

/-- take: signs ss, laid in a list at b -/
theorem take_any (a : Option Addr) (c g b cap : Nat) (ss : List UInt8) (ts : List Tok) (w : World) (hs : ss.length ≤ 1000) (h : Rd w g a c ts) (hc : ∀ j c, ss[j]? = some c → w.cell? ⟨b, j, none⟩ = some (.string (str [c]))) :
    Calls Tryd.prog 28 #[.pointer (some ⟨g, 0, none⟩), .slice (some ⟨b, 0, none⟩) ss.length cap] w fun e w' => TakeOut w g ss ts e w' := by
  cases ts with
  | nil => exact take_none a c g ss _ w h
  | cons t r =>
    obtain ⟨gt, o, rfl, _⟩ := h.lies.head
    by_cases hk : t.kind = 3
    · exact take_sign gt o c g b cap ss t r w hs h hk hc
    · exact take_other gt o c g ss _ t r w h hk

/-- is the next token this sign? -/
def headIs (c : UInt8) : List Tok → Bool
  | t :: _ => isS t c
  | [] => false

theorem isS_text {t : Tok} {c : UInt8} (h : isS t c = true) : t.text = [c] := by
  simp [isS] at h
  exact h.2

theorem sign_cells (W : World) (c : UInt8) : ∀ j x, ([c] : List UInt8)[j]? = some x → (W.alloc (.cells #[.string ⟨#[c]⟩] 9)).cell? ⟨W.heap.size, j, none⟩ = some (.string (str [x])) := by
  intro j x h
  cases j with
  | zero =>
    simp at h
    subst h
    rw [cell_of_row _ _ _ _ 9 (0, 0) (heap_alloc_new W _)]
    rfl
  | succ j => simp at h

/-- the next token is the sign -/
theorem take_yes (a : Option Addr) (cc g : Nat) (c : UInt8) (t : Tok) (r : List Tok) (W : World) (h : Rd W g a cc (t :: r)) (hs : isS t c = true) :
    Calls Tryd.prog 28 #[.pointer (some ⟨g, 0, none⟩), .slice (some ⟨W.heap.size, 0, none⟩) 1 1] (W.alloc (.cells #[.string ⟨#[c]⟩] 9)) fun e w' => e = .returned (.string ⟨#[c]⟩) ∧ W.grownBy w' (some g) ∧ ∃ a' c', Rd w' g a' c' r := by
  refine (take_any a cc g W.heap.size 1 [c] (t :: r) (W.alloc (.cells #[.string ⟨#[c]⟩] 9)) (by simp) (h.below (below_alloc W _)) (sign_cells W c)).mono ?_
  rintro e w' ⟨rfl, hg, a', c', hR⟩
  have ho : oneOf [c] t = true := by simp [oneOf, hs]
  simp only [takenS, takenR, ho, if_true] at hR ⊢
  rw [isS_text hs]
  exact ⟨rfl, grown_trans (grown_wide (grown_of_below (below_alloc W _)) _) hg, a', c', hR⟩

/-- it is not -/
theorem take_no (a : Option Addr) (cc g : Nat) (c : UInt8) (ts : List Tok) (W : World) (h : Rd W g a cc ts) (hs : headIs c ts = false) :
    Calls Tryd.prog 28 #[.pointer (some ⟨g, 0, none⟩), .slice (some ⟨W.heap.size, 0, none⟩) 1 1] (W.alloc (.cells #[.string ⟨#[c]⟩] 9)) fun e w' => e = .returned (.string ⟨#[]⟩) ∧ W.grownBy w' (some g) ∧ ∃ a' c', Rd w' g a' c' ts := by
  refine (take_any a cc g W.heap.size 1 [c] ts (W.alloc (.cells #[.string ⟨#[c]⟩] 9)) (by simp) (h.below (below_alloc W _)) (sign_cells W c)).mono ?_
  rintro e w' ⟨rfl, hg, a', c', hR⟩
  have h1 : takenS [c] ts = [] := by
    cases ts with
    | nil => rfl
    | cons t r =>
      have ho : oneOf [c] t = false := by simpa [oneOf, headIs] using hs
      simp [takenS, ho]
  have h2 : takenR [c] ts = ts := by
    cases ts with
    | nil => rfl
    | cons t r =>
      have ho : oneOf [c] t = false := by simpa [oneOf, headIs] using hs
      simp [takenR, ho]
  rw [h2] at hR
  rw [h1]
  exact ⟨rfl, grown_trans (grown_wide (grown_of_below (below_alloc W _)) _) hg, a', c', hR⟩
end Go.Proofs.YtijdjljnppkhmabDoor

/- Arguments in memory: a list of lists of tokens, each in a block of its own. -/
import Derived.Test.YtogkchgjpflmjaaGreatDoorQuietB
import Derived.Test.YtogkchgjpflmjaaGreatDoorNum
import Derived.Test.YtogkchgjpflmjaaGreatDoorKnown
import Derived.Deep.QuietTactic
import Derived.BigQuiet
import Derived.WalkSmall
import Derived.WalkSpells
/- expr's reader in memory; take. -/
namespace Go.Proofs.YtogkchgjpflmjaaGreatDoor
open Go.ChangeShapes Go.WideShapes Go.ChangeAt Go.RowKit
set_option linter.unusedVariables false
set_option maxRecDepth 100000
structure TokOff (w : World) (g o : Nat) (t : Tok) : Prop where
  kind : w.cell? ⟨g, o, none⟩ = some (.int .i64 t.kind)
  text : w.cell? ⟨g, o + 1, none⟩ = some (.string (str t.text))
  num : w.cell? ⟨g, o + 2, none⟩ = some (.int .u32 t.num)
  place : w.cell? ⟨g, o + 3, none⟩ = some (.int .i64 (t.place : Int))
theorem TokOff.grown {w w' : World} {g o : Nat} {t : Tok} {k : Option Nat} (h : TokOff w g o t) (hg : w.grownBy w' k) (hne : some g ≠ k) : TokOff w' g o t :=
  ⟨hg.cell h.kind hne, hg.cell h.text hne, hg.cell h.num hne, hg.cell h.place hne⟩
def TokFrom (w : World) (a : Option Addr) (ts : List Tok) : Prop := ts = [] ∨ ∃ g o, a = some ⟨g, o, none⟩ ∧ g < w.heap.size ∧ ∀ i t, ts[i]? = some t → TokOff w g (o + i * 4) t
theorem TokFrom.head {w : World} {a : Option Addr} {t : Tok} {r : List Tok} (h : TokFrom w a (t :: r)) : ∃ g o, a = some ⟨g, o, none⟩ ∧ g < w.heap.size ∧ TokOff w g o t ∧ ∀ (i : Nat) (x : Tok), r[i]? = some x → TokOff w g (o + 4 + i * 4) x := by
  rcases h with h | ⟨g, o, ha, hg, h⟩
  · exact absurd h (by simp)
  · refine ⟨g, o, ha, hg, by simpa using h 0 t rfl, fun i x hx => ?_⟩
    have := h (i + 1) x (by simpa using hx)
    rwa [show o + (i + 1) * 4 = o + 4 + i * 4 by omega] at this
theorem tokFrom_tail {w : World} {g o : Nat} {r : List Tok} (hg : g < w.heap.size) (h : ∀ (i : Nat) (x : Tok), r[i]? = some x → TokOff w g (o + 4 + i * 4) x) : TokFrom w (some ⟨g, o + 4, none⟩) r := .inr ⟨g, o + 4, rfl, hg, h⟩
structure Rd (w : World) (g : Nat) (a : Option Addr) (c : Nat) (ts : List Tok) : Prop where
  heap : w.heap[g]? = some (.cells #[.slice a ts.length c] 331 (0, 0))
  lies : TokFrom w a ts
  ne : ∀ x, a = some x → x.block < g
  cap : ts.length ≤ c
  most : c ≤ 9223372036854775807
  few : ts.length ≤ 1100000
  short : ∀ t ∈ ts, t.text.length ≤ 1000000
theorem Rd.c0 {w : World} {g : Nat} {a : Option Addr} {c : Nat} {ts : List Tok} (h : Rd w g a c ts) : w.cell? ⟨g, 0, none⟩ = some (.slice a ts.length c) := by rw [cell_of_row w g 0 _ 331 (0, 0) h.heap]; rfl
theorem Rd.f0 {w : World} {g : Nat} {a : Option Addr} {c : Nat} {ts : List Tok} (h : Rd w g a c ts) : w.frozen? ⟨g, 0, none⟩ = false := frozen_of_row w g 0 _ 331 h.heap
theorem Rd.lt {w : World} {g : Nat} {a : Option Addr} {c : Nat} {ts : List Tok} (h : Rd w g a c ts) : g < w.heap.size := (Array.getElem?_eq_some_iff.1 h.heap).1
theorem Rd.grown {w w' : World} {g : Nat} {a : Option Addr} {c : Nat} {ts : List Tok} {k : Option Nat} (h : Rd w g a c ts) (hg : w.grownBy w' k) (hk : k ≠ some g) (hx : ∀ x, a = some x → some x.block ≠ k) : Rd w' g a c ts := by
  refine ⟨by rw [hg.block g h.lt (fun e => hk e.symm)]; exact h.heap, ?_, h.ne, h.cap, h.most, h.few, h.short⟩
  rcases h.lies with hl | ⟨gt, o, ha, hgt, hl⟩
  · exact .inl hl
  · exact .inr ⟨gt, o, ha, Nat.lt_of_lt_of_le hgt hg.size, fun i t hi => (hl i t hi).grown hg (hx _ ha)⟩
theorem Rd.below {w w' : World} {g : Nat} {a : Option Addr} {c : Nat} {ts : List Tok} (h : Rd w g a c ts) (hb : Below w.heap.size w w') : Rd w' g a c ts := h.grown (grown_of_below hb) (by simp) (fun x _ => by simp)
def oneOf (ss : List UInt8) (t : Tok) : Bool := ss.any (fun c => isS t c)
theorem one_set {w : World} {g : Nat} {T : TypeId} {x : Value} (h : w.heap[g]? = some (.cells #[x] T (0, 0))) (y : Value) : (w.setCell ⟨g, 0, none⟩ y).heap[g]? = some (.cells #[y] T (0, 0)) ∧ w.grownBy (w.setCell ⟨g, 0, none⟩ y) (some g) := by
  refine ⟨heap_setCell_same w g 0 _ T y h, ⟨rfl, rfl, rfl, by simp, fun k hk hne => ?_⟩⟩
  have hk' : k ≠ g := fun e => hne (by rw [e])
  rw [heap_setCell_other _ _ _ _ hk']
theorem Rd.tail {w : World} {g : Nat} {c : Nat} {t : Tok} {r : List Tok} {gt o : Nat} (h : Rd w g (some ⟨gt, o, none⟩) c (t :: r)) (a' : Option Addr) (c' : Nat) (hw : (c = 1 ∧ a' = some ⟨gt, o, none⟩ ∧ c' = 0) ∨ (a' = some ⟨gt, o + 4, none⟩ ∧ c' = c - 1)) :
    Rd (w.setCell ⟨g, 0, none⟩ (.slice a' r.length c')) g a' c' r ∧ w.grownBy (w.setCell ⟨g, 0, none⟩ (.slice a' r.length c')) (some g) := by
  obtain ⟨s1, s2⟩ := one_set h.heap (.slice a' r.length c')
  have hne := h.ne _ rfl
  have hcap := h.cap
  have hmost := h.most
  have hfew := h.few
  simp only [List.length_cons] at hcap hfew
  refine ⟨⟨s1, ?_, ?_, ?_, ?_, by omega, fun x hx => h.short x (by simp [hx])⟩, s2⟩
  · obtain ⟨gt', o', ha, hg, h1, h2⟩ := h.lies.head
    injection ha with ha
    injection ha with ha1 ha2 _
    subst ha1 ha2
    rcases hw with ⟨hc, rfl, rfl⟩ | ⟨rfl, rfl⟩
    · exact .inl (List.eq_nil_of_length_eq_zero (by omega))
    · refine tokFrom_tail (Nat.lt_of_lt_of_le hg s2.size) fun i x hx => (h2 i x hx).grown s2 (fun e => by injection e with e; simp at hne; omega)
  · intro x hx
    rcases hw with ⟨_, rfl, _⟩ | ⟨rfl, _⟩ <;> (cases hx; exact hne)
  · rcases hw with ⟨hc, _, rfl⟩ | ⟨_, rfl⟩ <;> omega
  · rcases hw with ⟨hc, _, rfl⟩ | ⟨_, rfl⟩ <;> omega
def takenS (ss : List UInt8) (ts : List Tok) : List UInt8 :=
  match ts with
  | t :: _ => if oneOf ss t = true then t.text else []
  | [] => []
def takenR (ss : List UInt8) (ts : List Tok) : List Tok :=
  match ts with
  | t :: r => if oneOf ss t = true then r else t :: r
  | [] => []
def TakeOut (w : World) (g : Nat) (ss : List UInt8) (ts : List Tok) (e : Ending) (w' : World) : Prop :=
  e = .returned (.string (str (takenS ss ts))) ∧ w.grownBy w' (some g) ∧ ∃ a' c', Rd w' g a' c' (takenR ss ts)
theorem str_inj {a b : List UInt8} (h : str a = str b) : a = b := by
  have := congrArg (fun x => x.data.toList) h
  simpa [str] using this
theorem contains_any (b cap : Nat) (ss : List UInt8) (x : List UInt8) (w : World) (hs : ss.length ≤ 1000) (hc : ∀ j c, ss[j]? = some c → w.cell? ⟨b, j, none⟩ = some (.string (str [c]))) :
    Calls Tryz.prog 238 #[.slice (some ⟨b, 0, none⟩) ss.length cap, .string (str x)] w fun e w' => e = .returned (.bool (ss.any fun c => decide (x = [c]))) ∧ w' = w := by
  have h := Any.slices_Contains_string Tryz.laysContains b 0 ss.length cap (ss.map fun c => str [c]) (str x) w (by simp) (by omega) (fun j hj => by
    have hj' : j < ss.length := by simpa using hj
    rw [Nat.zero_add, hc j ss[j] (List.getElem?_eq_getElem hj')]
    simp [List.getD, List.getElem?_eq_getElem hj'])
  have he : Lib.containsS ((ss.map fun c => str [c]).take ss.length) (str x) = ss.any fun c => decide (x = [c]) := by
    rw [List.take_of_length_le (by simp), Bool.eq_iff_iff, Lib.containsS_iff]
    simp only [List.mem_map, List.any_eq_true, decide_eq_true_eq]
    constructor
    · rintro ⟨c, hc, h⟩
      exact ⟨c, hc, (str_inj h).symm⟩
    · rintro ⟨c, hc, h⟩
      exact ⟨c, hc, by rw [h]⟩
  rw [he] at h
  exact h
theorem oneOf_kind (ss : List UInt8) (t : Tok) (h : t.kind ≠ 3) : oneOf ss t = false := by
  simp [oneOf, isS, h]
theorem oneOf_text (ss : List UInt8) (t : Tok) (h : t.kind = 3) : oneOf ss t = ss.any fun c => decide (t.text = [c]) := by
  simp [oneOf, isS, h]
theorem take_none (a : Option Addr) (c g : Nat) (ss : List UInt8) (v : Value) (w : World) (h : Rd w g a c []) :
    Calls Tryz.prog 234 #[.pointer (some ⟨g, 0, none⟩), v] w fun e w' => TakeOut w g ss [] e w' := by
  have h0 := h.c0
  have hH := Hid.intro h
  simp only [List.length_nil] at h0
  clear h
  go_enter Tryz.func234, Tryz.ntmps234
  go_wp2
  all_goals first | omega | skip
  go_ret
  exact ⟨rfl, World.grownBy.refl _ _, a, c, hH.out⟩
theorem take_other (gt o c g : Nat) (ss : List UInt8) (v : Value) (t : Tok) (r : List Tok) (w : World) (h : Rd w g (some ⟨gt, o, none⟩) c (t :: r)) (hk : t.kind ≠ 3) :
    Calls Tryz.prog 234 #[.pointer (some ⟨g, 0, none⟩), v] w fun e w' => TakeOut w g ss (t :: r) e w' := by
  have h0 := h.c0
  have hH := Hid.intro h
  have hkH := Hid.intro hk
  obtain ⟨gt', o', ha, hg, ⟨q0, q1, q2, q3⟩, h2⟩ := h.lies.head
  injection ha with ha
  injection ha with ha1 ha2 _
  subst ha1 ha2
  have hk' : (t.kind != 3) = true := by simp [hk]
  have hz : ((r.length : Int) + 1 == 0) = false := by simp; omega
  simp only [List.length_cons] at h0
  clear h hk h2
  go_enter Tryz.func234, Tryz.ntmps234
  go_wp2
  all_goals first | omega | skip
  go_ret
  have ho := oneOf_kind ss t hkH.out
  refine ⟨?_, World.grownBy.refl _ _, some ⟨gt, o, none⟩, c, ?_⟩
  · simp only [takenS, ho]; rfl
  · simp only [takenR, ho]; exact hH.out
set_option maxHeartbeats 1000000 in
theorem take_sign (gt o c g b cap : Nat) (ss : List UInt8) (t : Tok) (r : List Tok) (w : World) (hs : ss.length ≤ 1000) (h : Rd w g (some ⟨gt, o, none⟩) c (t :: r)) (hk : t.kind = 3) (hc : ∀ j c, ss[j]? = some c → w.cell? ⟨b, j, none⟩ = some (.string (str [c]))) :
    Calls Tryz.prog 234 #[.pointer (some ⟨g, 0, none⟩), .slice (some ⟨b, 0, none⟩) ss.length cap] w fun e w' => TakeOut w g ss (t :: r) e w' := by
  have h0 := h.c0
  have f0 := h.f0
  have hH := Hid.intro h
  have hkH := Hid.intro hk
  have hcap := h.cap
  have hmost := h.most
  have hfew := h.few
  obtain ⟨gt', o', ha, hg, ⟨q0, q1, q2, q3⟩, h2⟩ := h.lies.head
  injection ha with ha
  injection ha with ha1 ha2 _
  subst ha1 ha2
  have hk' : (t.kind != 3) = false := by simp [hk]
  have hz : ((r.length : Int) + 1 == 0) = false := by simp; omega
  simp only [List.length_cons] at h0 hcap hfew
  have hC := Hid.intro (contains_any b cap ss t.text w hs hc)
  have hcH := Hid.intro hc
  obtain ⟨bv, hbv⟩ : ∃ bv, bv = ss.any fun c => decide (t.text = [c]) := ⟨_, rfl⟩
  have ho : Hid (oneOf ss t = bv) := by show _ = _; rw [hbv]; exact oneOf_text ss t hk
  rw [← hbv] at hC
  obtain ⟨L, hL⟩ : ∃ L, L = ss.length := ⟨_, rfl⟩
  rw [← hL] at hC ⊢
  clear h hk h2 hc hbv hL hs
  cases bv
  · go_enter Tryz.func234, Tryz.ntmps234
    go_wp2_with (go_at_call 238; with_reducible refine (hC.out).mono ?_; rintro e w' ⟨rfl, rfl⟩)
    all_goals first | omega | skip
    go_ret
    refine ⟨?_, World.grownBy.refl _ _, some ⟨gt, o, none⟩, c, ?_⟩
    · simp only [takenS, ho.out]; rfl
    · simp only [takenR, ho.out]; exact hH.out
  · go_enter Tryz.func234, Tryz.ntmps234
    go_wp2_with (go_at_call 238; with_reducible refine (hC.out).mono ?_; rintro e w' ⟨rfl, rfl⟩)
    all_goals first | omega | skip
    · go_ret
      have ht := hH.out.tail (some ⟨gt, o, none⟩) 0 (.inl ⟨by omega, rfl, rfl⟩)
      refine ⟨?_, ht.2, some ⟨gt, o, none⟩, 0, ?_⟩
      · simp only [takenS, ho.out]; rfl
      · simp only [takenR, ho.out]; exact ht.1
    · go_ret
      have ht := hH.out.tail (some ⟨gt, o + 4, none⟩) (c - 1) (.inr ⟨rfl, rfl⟩)
      refine ⟨?_, ht.2, some ⟨gt, o + 4, none⟩, c - 1, ?_⟩
      · simp only [takenS, ho.out]; rfl
      · simp only [takenR, ho.out]; exact ht.1
theorem take_any (a : Option Addr) (c g b cap : Nat) (ss : List UInt8) (ts : List Tok) (w : World) (hs : ss.length ≤ 1000) (h : Rd w g a c ts) (hc : ∀ j c, ss[j]? = some c → w.cell? ⟨b, j, none⟩ = some (.string (str [c]))) :
    Calls Tryz.prog 234 #[.pointer (some ⟨g, 0, none⟩), .slice (some ⟨b, 0, none⟩) ss.length cap] w fun e w' => TakeOut w g ss ts e w' := by
  cases ts with
  | nil => exact take_none a c g ss _ w h
  | cons t r =>
    obtain ⟨gt, o, rfl, _⟩ := h.lies.head
    by_cases hk : t.kind = 3
    · exact take_sign gt o c g b cap ss t r w hs h hk hc
    · exact take_other gt o c g ss _ t r w h hk
def headIs (c : UInt8) : List Tok → Bool
  | t :: _ => isS t c
  | [] => false
theorem isS_text {t : Tok} {c : UInt8} (h : isS t c = true) : t.text = [c] := by
  simp [isS] at h
  exact h.2
theorem sign_cells (W : World) (c : UInt8) : ∀ j x, ([c] : List UInt8)[j]? = some x → (W.alloc (.cells #[.string ⟨#[c]⟩] 9)).cell? ⟨W.heap.size, j, none⟩ = some (.string (str [x])) := by
  intro j x h
  cases j with
  | zero =>
    simp at h
    subst h
    rw [cell_of_row _ _ _ _ 9 (0, 0) (heap_alloc_new W _)]
    rfl
  | succ j => simp at h
theorem take_yes (a : Option Addr) (cc g : Nat) (c : UInt8) (t : Tok) (r : List Tok) (W : World) (h : Rd W g a cc (t :: r)) (hs : isS t c = true) :
    Calls Tryz.prog 234 #[.pointer (some ⟨g, 0, none⟩), .slice (some ⟨W.heap.size, 0, none⟩) 1 1] (W.alloc (.cells #[.string ⟨#[c]⟩] 9)) fun e w' => e = .returned (.string ⟨#[c]⟩) ∧ W.grownBy w' (some g) ∧ ∃ a' c', Rd w' g a' c' r := by
  refine (take_any a cc g W.heap.size 1 [c] (t :: r) (W.alloc (.cells #[.string ⟨#[c]⟩] 9)) (by simp) (h.below (below_alloc W _)) (sign_cells W c)).mono ?_
  rintro e w' ⟨rfl, hg, a', c', hR⟩
  have ho : oneOf [c] t = true := by simp [oneOf, hs]
  simp only [takenS, takenR, ho, if_true] at hR ⊢
  rw [isS_text hs]
  exact ⟨rfl, grown_trans (grown_wide (grown_of_below (below_alloc W _)) _) hg, a', c', hR⟩
theorem take_no (a : Option Addr) (cc g : Nat) (c : UInt8) (ts : List Tok) (W : World) (h : Rd W g a cc ts) (hs : headIs c ts = false) :
    Calls Tryz.prog 234 #[.pointer (some ⟨g, 0, none⟩), .slice (some ⟨W.heap.size, 0, none⟩) 1 1] (W.alloc (.cells #[.string ⟨#[c]⟩] 9)) fun e w' => e = .returned (.string ⟨#[]⟩) ∧ W.grownBy w' (some g) ∧ ∃ a' c', Rd w' g a' c' ts := by
  refine (take_any a cc g W.heap.size 1 [c] ts (W.alloc (.cells #[.string ⟨#[c]⟩] 9)) (by simp) (h.below (below_alloc W _)) (sign_cells W c)).mono ?_
  rintro e w' ⟨rfl, hg, a', c', hR⟩
  have h1 : takenS [c] ts = [] := by
    cases ts with
    | nil => rfl
    | cons t r =>
      have ho : oneOf [c] t = false := by simpa [oneOf, headIs] using hs
      simp [takenS, ho]
  have h2 : takenR [c] ts = ts := by
    cases ts with
    | nil => rfl
    | cons t r =>
      have ho : oneOf [c] t = false := by simpa [oneOf, headIs] using hs
      simp [takenR, ho]
  rw [h2] at hR
  rw [h1]
  exact ⟨rfl, grown_trans (grown_wide (grown_of_below (below_alloc W _)) _) hg, a', c', hR⟩
end Go.Proofs.YtogkchgjpflmjaaGreatDoor
/- The document's Tokens: the tokens of a text. -/
namespace Go.Proofs.YtogkchgjpflmjaaGreatDoor
open Go.ChangeShapes Go.WideShapes Go.ChangeAt Go.RowKit
set_option linter.unusedVariables false
set_option maxRecDepth 100000
structure RSt (s : ByteArray) (w0 : World) (R : Except Nat (List Tok)) (at_ : Nat) (acc : List Tok) (v : Value) (w : World) : Prop where
  le : at_ ≤ s.size
  few : acc.length ≤ at_
  eq : R = ext acc (scan ((bs s).drop at_) at_)
  own : w.ownsRow w0.heap.size 258 4 v acc.length (rowOf acc)
  bel : Below w0.heap.size w0 w
  siz : w0.heap.size ≤ w.heap.size
end Go.Proofs.YtogkchgjpflmjaaGreatDoor
/- What a line is, as a function on its tokens. -/
namespace Go.Proofs.YtogkchgjpflmjaaGreatDoor
set_option linter.unusedVariables false
structure Ln where
  label : List UInt8
  op : List UInt8
  args : List (List Tok)
def argsF (e : Nat) : List Tok → List Tok → List (List Tok) → Except Nat (List (List Tok))
  | [], arg, acc => if arg.length = 0 then .error e else .ok (acc ++ [arg])
  | t :: ts, arg, acc =>
    if isS t 58 = true then .error t.place
    else if isS t 44 = true then (if arg.length = 0 then .error t.place else argsF e ts [] (acc ++ [arg]))
    else argsF e ts (arg ++ [t]) acc
def argsT (e : Nat) (ts : List Tok) : Except Nat (List (List Tok)) := if ts.length = 0 then .ok [] else argsF e ts [] []
def cutT (ts : List Tok) : List UInt8 × List Tok :=
  match ts with
  | t :: u :: r => if t.kind = 1 ∧ isS u 58 = true then (t.text, r) else ([], t :: u :: r)
  | ts => ([], ts)
def lineT (n : Nat) (label : List UInt8) (ts : List Tok) : Except Nat Ln :=
  match ts with
  | [] => .ok ⟨label, [], []⟩
  | t :: r => if t.kind = 1 then
      match argsT n r with
      | .ok xs => .ok ⟨label, t.text, xs⟩
      | .error p => .error p
    else .error t.place
def parseT (n : Nat) (ts : List Tok) : Except Nat Ln := lineT n (cutT ts).1 (cutT ts).2
def parseL (s : List UInt8) : Except Nat Ln :=
  match scan s 0 with
  | .error p => .error p
  | .ok ts => parseT s.length ts
theorem argsF_sign (e : Nat) (t : Tok) (ts arg : List Tok) (acc : List (List Tok)) (h : isS t 58 = true) : argsF e (t :: ts) arg acc = .error t.place := by
  rw [argsF, if_pos h]
theorem argsF_empty (e : Nat) (t : Tok) (ts arg : List Tok) (acc : List (List Tok)) (h : isS t 58 = false) (hc : isS t 44 = true) (h0 : arg.length = 0) : argsF e (t :: ts) arg acc = .error t.place := by
  rw [argsF, if_neg (by rw [h]; decide), if_pos hc, if_pos h0]
theorem argsF_comma (e : Nat) (t : Tok) (ts arg : List Tok) (acc : List (List Tok)) (h : isS t 58 = false) (hc : isS t 44 = true) (h0 : arg.length ≠ 0) : argsF e (t :: ts) arg acc = argsF e ts [] (acc ++ [arg]) := by
  rw [argsF, if_neg (by rw [h]; decide), if_pos hc, if_neg h0]
theorem argsF_more (e : Nat) (t : Tok) (ts arg : List Tok) (acc : List (List Tok)) (h : isS t 58 = false) (hc : isS t 44 = false) : argsF e (t :: ts) arg acc = argsF e ts (arg ++ [t]) acc := by
  rw [argsF, if_neg (by rw [h]; decide), if_neg (by rw [hc]; decide)]
theorem isS_kind (t : Tok) (c : UInt8) (h : t.kind ≠ 3) : isS t c = false := by simp [isS, h]
theorem lisS_text (t : Tok) (c : UInt8) (h : t.kind = 3) : isS t c = decide (t.text = [c]) := by simp [isS, h]
end Go.Proofs.YtogkchgjpflmjaaGreatDoor
/- Lists of tokens in memory, held against each other: book.Same, and the law's same. -/
namespace Go.Proofs.YtogkchgjpflmjaaGreatDoor
open Go.ChangeShapes Go.WideShapes Go.ChangeAt Go.RowKit
set_option linter.unusedVariables false
set_option maxRecDepth 100000
def TokLies (w : World) (a : Option Addr) (ts : List Tok) : Prop := ts = [] ∨ ∃ g, a = some ⟨g, 0, none⟩ ∧ g < w.heap.size ∧ ∀ i t, ts[i]? = some t → TokAt w g i t
theorem TokLies.below {w w' : World} {a : Option Addr} {ts : List Tok} {B : Nat} (h : TokLies w a ts) (hb : Below B w w') (hB : w.heap.size ≤ B) : TokLies w' a ts := by
  rcases h with h | ⟨g, ha, hg, h⟩
  · exact .inl h
  · exact .inr ⟨g, ha, Nat.lt_of_lt_of_le hg hb.size, fun i t hi => (h i t hi).below hb (by omega)⟩
theorem own_any' {w : World} {B n : Nat} {T : TypeId} {v : Value} {xs : List Value} (h : w.ownsRow B T 4 v n xs) : ∃ a cap, v = .slice a n cap := by
  obtain ⟨hl, ⟨hv, h0⟩ | ⟨g, cap, cur, hv, r⟩⟩ := h
  · exact ⟨none, 0, by rw [hv, h0]⟩
  · exact ⟨_, cap, hv⟩
theorem own_lies {w : World} {B : Nat} {T : TypeId} {v : Value} {ts : List Tok} (h : w.ownsRow B T 4 v ts.length (rowOf ts)) : ∃ a cap, v = .slice a ts.length cap ∧ TokLies w a ts := by
  cases ts with
  | nil =>
    obtain ⟨a, cap, hv⟩ := own_any' h
    exact ⟨a, cap, hv, .inl rfl⟩
  | cons t ts =>
    obtain ⟨g, cap, rfl, _, hg⟩ := own_form (n := ts.length) h
    exact ⟨_, cap, rfl, .inr ⟨g, rfl, hg, fun i x hi => tok_at h i x hi⟩⟩
end Go.Proofs.YtogkchgjpflmjaaGreatDoor
/- line.isSign, and the document's sign. -/
namespace Go.Proofs.YtogkchgjpflmjaaGreatDoor
open Go.ChangeShapes Go.WideShapes Go.ChangeAt Go.RowKit
set_option linter.unusedVariables false
set_option maxRecDepth 100000
abbrev ltokV (t : Tok) : Value := .agg #[.int .i64 t.kind, .string (str t.text), .int .u32 t.num, .int .i64 (t.place : Int)]
theorem lineSign_any (t : Tok) (c : UInt8) (w : World) :
    Calls Tryz.prog 130 #[ltokV t, .string ⟨#[c]⟩] w fun e w' => e = .returned (.bool (isS t c)) ∧ ∃ o, w' = w.alloc o := by
  by_cases hk : t.kind = 3
  · go_enter Tryz.func130, Tryz.ntmps130
    go_wp2
    go_ret
    refine ⟨?_, _, rfl⟩
    rw [lisS_text t c hk, str_toList]
    show Ending.returned (Value.bool (t.text == [c])) = _
    rw [show (t.text == [c]) = decide (t.text = [c]) by by_cases h : t.text = [c] <;> simp [h]]
  · have hk' : (t.kind == 3) = false := by simp [hk]
    rw [isS_kind t c hk]
    go_enter Tryz.func130, Tryz.ntmps130
    go_wp2
    go_ret
    exact ⟨rfl, _, rfl⟩
end Go.Proofs.YtogkchgjpflmjaaGreatDoor
/- line.cutLabel. -/
namespace Go.Proofs.YtogkchgjpflmjaaGreatDoor
open Go.ChangeShapes Go.WideShapes Go.ChangeAt Go.RowKit
set_option linter.unusedVariables false
set_option maxRecDepth 100000
theorem cutLabel_few (a : Option Addr) (n c : Nat) (w : World) (hn : n < 2) :
    Calls Tryz.prog 102 #[.slice a n c] w fun e w' => e = .returned (.tuple #[.string ⟨#[]⟩, .slice a n c]) ∧ w' = w := by
  go_enter Tryz.func102, Tryz.ntmps102
  go_wp2
  all_goals first | omega | skip
  go_ret2
  exact ⟨rfl, rfl⟩
theorem lbelow_alloc (w : World) (o : Obj) : Below w.heap.size w (w.alloc o) := (Below.refl _ w).alloc (Nat.le_refl _) o
theorem lineSign_b (t : Tok) (c : UInt8) (b : Bool) (h : isS t c = b) (w : World) :
    Calls Tryz.prog 130 #[ltokV t, .string ⟨#[c]⟩] w fun e w' => e = .returned (.bool b) ∧ Below w.heap.size w w' := by
  refine (lineSign_any t c w).mono ?_
  rintro e w' ⟨rfl, o, rfl⟩
  exact ⟨by rw [h], lbelow_alloc w o⟩
theorem TokOff.below {w w' : World} {g o : Nat} {t : Tok} {B : Nat} (h : TokOff w g o t) (hb : Below B w w') (hg : g < B) : TokOff w' g o t :=
  ⟨by rw [hb.cell (p := ⟨g, o, none⟩) hg]; exact h.kind, by rw [hb.cell (p := ⟨g, o + 1, none⟩) hg]; exact h.text, by rw [hb.cell (p := ⟨g, o + 2, none⟩) hg]; exact h.num, by rw [hb.cell (p := ⟨g, o + 3, none⟩) hg]; exact h.place⟩
theorem TokFrom.below {w w' : World} {a : Option Addr} {ts : List Tok} {B : Nat} (h : TokFrom w a ts) (hb : Below B w w') (hB : w.heap.size ≤ B) : TokFrom w' a ts := by
  rcases h with h | ⟨g, o, ha, hg, h⟩
  · exact .inl h
  · exact .inr ⟨g, o, ha, Nat.lt_of_lt_of_le hg hb.size, fun i t hi => (h i t hi).below hb (by omega)⟩
theorem cutLabel_many (g n c : Nat) (t u : Tok) (w : World) (hn : 2 ≤ n) (hm : n ≤ 1100000) (hc : n ≤ c) (hcc : c ≤ maxLen) (hg : g < w.heap.size) (h0 : TokAt w g 0 t) (h1 : TokAt w g 1 u) (hk : t.kind = 1) (hu : isS u 58 = true) :
    Calls Tryz.prog 102 #[.slice (some ⟨g, 0, none⟩) n c] w fun e w' => Below w.heap.size w w' ∧ ∃ o c', e = .returned (.tuple #[.string (str t.text), .slice (some ⟨g, o, none⟩) (n - 2) c']) ∧ n - 2 ≤ c' ∧ c' ≤ 9223372036854775807 ∧ (n ≠ 2 → o = 8) := by
  unfold maxLen at hcc
  have hH := Hid.intro h0
  obtain ⟨q0, q1, q2, q3⟩ := h0
  obtain ⟨p0, p1, p2, p3⟩ := h1
  simp only [Nat.zero_mul, Nat.zero_add, Nat.one_mul, Nat.reduceAdd] at q0 q1 q2 q3 p0 p1 p2 p3
  have hS := Hid.intro (lineSign_b u 58 true hu)
  have hk' : (t.kind != 1) = false := by simp [hk]
  clear hk hu
  go_enter Tryz.func102, Tryz.ntmps102
  go_wp2_with (go_at_call 130; with_reducible refine (hS.out _).mono ?_; rintro e w1 ⟨rfl, hb1⟩; obtain ⟨k0, k1, k2, k3⟩ := hH.out.below hb1 hg; simp only [Nat.zero_mul, Nat.zero_add] at k0 k1 k2 k3)
  all_goals first | omega | skip
  go_quiet (fail)
  go_wp2
  all_goals first | omega | skip
  · rename_i hc2
    go_ret2
    exact ⟨below_drewN hb1 nq, 0, 0, rfl, by omega, by omega, by omega⟩
  · go_ret2
    exact ⟨below_drewN hb1 nq, 8, c - 2, rfl, by omega, by omega, fun _ => rfl⟩
theorem cutLabel_not (g n c : Nat) (t u : Tok) (w : World) (hn : 2 ≤ n) (hm : n ≤ 1100000) (hg : g < w.heap.size) (h0 : TokAt w g 0 t) (h1 : TokAt w g 1 u) (h : ¬ (t.kind = 1 ∧ isS u 58 = true)) :
    Calls Tryz.prog 102 #[.slice (some ⟨g, 0, none⟩) n c] w fun e w' => Below w.heap.size w w' ∧ e = .returned (.tuple #[.string ⟨#[]⟩, .slice (some ⟨g, 0, none⟩) n c]) := by
  obtain ⟨q0, q1, q2, q3⟩ := h0
  obtain ⟨p0, p1, p2, p3⟩ := h1
  simp only [Nat.zero_mul, Nat.zero_add, Nat.one_mul, Nat.reduceAdd] at q0 q1 q2 q3 p0 p1 p2 p3
  by_cases hk : t.kind = 1
  · have hu : isS u 58 = false := by
      cases hx : isS u 58
      · rfl
      · exact absurd ⟨hk, hx⟩ h
    have hS := Hid.intro (lineSign_b u 58 false hu)
    have hk' : (t.kind != 1) = false := by simp [hk]
    clear hk hu h
    go_enter Tryz.func102, Tryz.ntmps102
    go_wp2_with (go_at_call 130; with_reducible refine (hS.out _).mono ?_; rintro e w1 ⟨rfl, hb1⟩)
    all_goals first | omega | skip
    go_ret2
    exact ⟨hb1, rfl⟩
  · have hk' : (t.kind != 1) = true := by simp [hk]
    clear hk h
    go_enter Tryz.func102, Tryz.ntmps102
    go_wp2
    all_goals first | omega | skip
    go_ret2
    exact ⟨Below.refl _ _, rfl⟩
theorem tokAt_off {w : World} {g i : Nat} {t : Tok} (h : TokAt w g i t) : TokOff w g (i * 4) t := ⟨h.kind, h.text, h.num, h.place⟩
theorem cutLabel_any (v : Value) (ts : List Tok) (B : Nat) (w : World) (hm : ts.length ≤ 1100000) (hown : w.ownsRow B 188 4 v ts.length (rowOf ts)) :
    Calls Tryz.prog 102 #[v] w fun e w' => Below w.heap.size w w' ∧ ∃ a' c', e = .returned (.tuple #[.string (str (cutT ts).1), .slice a' (cutT ts).2.length c']) ∧ (cutT ts).2.length ≤ c' ∧ c' ≤ 9223372036854775807 ∧ TokFrom w' a' (cutT ts).2 ∧ ∀ x, a' = some x → B ≤ x.block := by
  match ts, hm, hown with
  | [], hm, hown =>
    obtain ⟨hl, ⟨hv, h0⟩ | ⟨g, cap, cur, hv, hbg, hgg, hle, hcap, hsz, htk⟩⟩ := hown
    · subst hv
      refine (cutLabel_few none 0 0 w (by omega)).mono ?_
      rintro e w' ⟨rfl, rfl⟩
      exact ⟨Below.refl _ _, none, 0, rfl, by simp [cutT], by omega, .inl rfl, fun x hx => by cases hx⟩
    · subst hv
      refine (cutLabel_few _ _ cap w (by simp)).mono ?_
      rintro e w' ⟨rfl, rfl⟩
      unfold maxLen at hcap
      exact ⟨Below.refl _ _, _, cap, rfl, by simp [cutT], by omega, .inl rfl, fun x hx => by cases hx; exact hbg⟩
  | [t], hm, hown =>
    have hown' := hown
    obtain ⟨hl, ⟨hv, h0⟩ | ⟨g, cap, cur, hv, hbg, hgg, hle, hcap, hsz, htk⟩⟩ := hown
    · simp at h0
    · subst hv
      refine (cutLabel_few _ _ cap w (by simp)).mono ?_
      rintro e w' ⟨rfl, rfl⟩
      unfold maxLen at hcap
      refine ⟨Below.refl _ _, _, cap, rfl, by simpa [cutT] using hle, by omega, .inr ⟨g, 0, rfl, (Array.getElem?_eq_some_iff.1 hgg).1, fun i x hi => ?_⟩, fun x hx => by cases hx; exact hbg⟩
      rw [Nat.zero_add]
      exact tokAt_off (tok_at hown' i x hi)
  | t :: u :: r, hm, hown =>
    have hown' := hown
    obtain ⟨hl, ⟨hv, h0⟩ | ⟨g, cap, cur, hv, hbg, hgg, hle, hcap, hsz, htk⟩⟩ := hown
    · simp at h0
    · subst hv
      have hg := (Array.getElem?_eq_some_iff.1 hgg).1
      have h0 := tok_at hown' 0 t rfl
      have h1 := tok_at hown' 1 u rfl
      by_cases h : t.kind = 1 ∧ isS u 58 = true
      · have e1 : cutT (t :: u :: r) = (t.text, r) := by simp only [cutT]; rw [if_pos h]
        rw [e1]
        refine (cutLabel_many g _ cap t u w (by simp) hm hle hcap hg h0 h1 h.1 h.2).mono ?_
        rintro e w' ⟨hb, o, c', rfl, hc1, hc2, ho⟩
        refine ⟨hb, _, c', rfl, by simpa using hc1, hc2, ?_, fun x hx => by cases hx; exact hbg⟩
        cases r with
        | nil => exact .inl rfl
        | cons x r =>
          have ho8 : o = 8 := ho (by simp)
          subst ho8
          refine .inr ⟨g, 8, rfl, Nat.lt_of_lt_of_le hg hb.size, fun i y hi => ?_⟩
          have := (tokAt_off (tok_at hown' (i + 2) y (by simpa using hi))).below hb hg
          rw [show (i + 2) * 4 = 8 + i * 4 by omega] at this
          exact this
      · have e1 : cutT (t :: u :: r) = ([], t :: u :: r) := by simp only [cutT]; rw [if_neg h]
        rw [e1]
        refine (cutLabel_not g _ cap t u w (by simp) hm hg h0 h1 h).mono ?_
        rintro e w' ⟨hb, rfl⟩
        unfold maxLen at hcap
        refine ⟨hb, _, cap, rfl, hle, by omega, .inr ⟨g, 0, rfl, Nat.lt_of_lt_of_le hg hb.size, fun i x hi => ?_⟩, fun x hx => by cases hx; exact hbg⟩
        rw [Nat.zero_add]
        exact (tokAt_off (tok_at hown' i x hi)).below hb hg
end Go.Proofs.YtogkchgjpflmjaaGreatDoor
namespace Go.Proofs.YtogkchgjpflmjaaGreatDoor
open Go.ChangeShapes Go.WideShapes Go.ChangeAt Go.RowKit
set_option linter.unusedVariables false
set_option maxRecDepth 100000
theorem lgrown_of_below {w w' : World} (h : Below w.heap.size w w') : w.grownBy w' none := ⟨h.os, h.tape, h.output, h.size, fun k hk _ => h.block k hk⟩
structure ArgsOwn (T E : TypeId) (lo : Nat) (w : World) (va : Value) (acc : List (List Tok)) (vs : List Value) (m : Nat) : Prop where
  len : vs.length = acc.length
  row : w.ownsRow lo T 1 va vs.length vs
  each : ∀ (i : Nat) (v : Value) (xs : List Tok), vs[i]? = some v → acc[i]? = some xs → xs.length ≠ 0 ∧ w.ownsRow lo E 4 v xs.length (rowOf xs)
  low : ∀ (i : Nat) (v : Value) (g : Nat), vs[i]? = some v → v.ownBlock = some g → g < m
  rise : ∀ (i j : Nat) (v v' : Value) (g g' : Nat), i < j → vs[i]? = some v → vs[j]? = some v' → v.ownBlock = some g → v'.ownBlock = some g' → g < g'
  le : m ≤ w.heap.size
theorem lown_type {w : World} {lo : Nat} {T : TypeId} {sz : Nat} {v : Value} {n : Nat} {xs : List Value} (h : w.ownsRow lo T sz v n xs) {g : Nat} (hg : v.ownBlock = some g) : ∃ cur, w.heap[g]? = some (.cells cur T (0, 0)) := by
  rcases h.2 with ⟨rfl, _⟩ | ⟨g', cap, cur, rfl, _, hgg, _⟩
  · simp [Value.ownBlock] at hg
  · simp [Value.ownBlock] at hg
    subst hg
    exact ⟨cur, hgg⟩
theorem own_other {w : World} {lo lo' : Nat} {T T' : TypeId} {sz sz' : Nat} {v v' : Value} {n n' : Nat} {xs xs' : List Value} (h : w.ownsRow lo T sz v n xs) (h' : w.ownsRow lo' T' sz' v' n' xs') (hT : T ≠ T') : v.ownBlock = none ∨ v.ownBlock ≠ v'.ownBlock := by
  cases hv : v.ownBlock with
  | none => exact .inl rfl
  | some g =>
    refine .inr fun e => ?_
    obtain ⟨c1, e1⟩ := lown_type h hv
    obtain ⟨c2, e2⟩ := lown_type h' e.symm
    rw [e1] at e2
    injection e2 with e2
    injection e2 with _ e2
    exact hT e2
theorem ArgsOwn.start (T E : TypeId) (lo : Nat) (w : World) (m : Nat) (hm : m ≤ w.heap.size) : ArgsOwn T E lo w (.slice none 0 0) [] [] m :=
  ⟨rfl, World.ownsRow_nil _ _ _ _, fun i v xs h => by simp at h, fun i v g h => by simp at h, fun i j v v' g g' _ h => by simp at h, hm⟩
theorem ArgsOwn.grown {T E : TypeId} {lo : Nat} {w w' : World} {va : Value} {acc : List (List Tok)} {vs : List Value} {m : Nat} (h : ArgsOwn T E lo w va acc vs m) {row : Option Nat} (hg : w.grownBy w' row)
    (h1 : va.ownBlock = none ∨ va.ownBlock ≠ row) (h2 : ∀ k, row = some k → m ≤ k) : ArgsOwn T E lo w' va acc vs m := by
  refine ⟨h.len, h.row.kept hg h1, fun i v xs hv hx => ?_, h.low, h.rise, Nat.le_trans h.le hg.size⟩
  obtain ⟨h0, ho⟩ := h.each i v xs hv hx
  refine ⟨h0, ho.kept hg ?_⟩
  cases hb : v.ownBlock with
  | none => exact .inl rfl
  | some g =>
    refine .inr fun e => ?_
    have k1 := h.low i v g hv hb
    have k2 := h2 g e.symm
    omega
theorem ArgsOwn.below {T E : TypeId} {lo : Nat} {w w' : World} {va : Value} {acc : List (List Tok)} {vs : List Value} {m : Nat} (h : ArgsOwn T E lo w va acc vs m) (hb : Below w.heap.size w w') : ArgsOwn T E lo w' va acc vs m :=
  h.grown (lgrown_of_below hb) (by cases va.ownBlock <;> simp) (fun k e => by cases e)
theorem ArgsOwn.arg {T E : TypeId} {lo : Nat} {w w' : World} {va : Value} {acc : List (List Tok)} {vs : List Value} {m : Nat} (h : ArgsOwn T E lo w va acc vs m) (hT : T ≠ E) {v : Value} {n : Nat} {xs : List Value} (hv : w.ownsRow m E 4 v n xs) (hg : w.grownBy w' v.ownBlock) : ArgsOwn T E lo w' va acc vs m :=
  h.grown hg (own_other h.row hv hT) (fun k e => (hv.lt k e).1)
theorem ArgsOwn.push {T E : TypeId} {lo : Nat} {w w' : World} {va va' : Value} {acc : List (List Tok)} {vs : List Value} {m : Nat} (h : ArgsOwn T E lo w va acc vs m) (hT : T ≠ E) (hlo : lo ≤ m) {v : Value} {xs : List Tok} (h0 : xs.length ≠ 0) (hv : w.ownsRow m E 4 v xs.length (rowOf xs))
    (hg : w.grownBy w' va.ownBlock) (hrow : w'.ownsRow lo T 1 va' (vs.length + 1) (vs ++ [v])) : ArgsOwn T E lo w' va' (acc ++ [xs]) (vs ++ [v]) w'.heap.size := by
  have hv' : w'.ownsRow lo E 4 v xs.length (rowOf xs) := by
    have := hv.kept hg (own_other hv h.row (Ne.symm hT))
    refine ⟨this.1, ?_⟩
    rcases this.2 with hx | ⟨g, cap, cur, k1, k2, k3⟩
    · exact .inl hx
    · exact .inr ⟨g, cap, cur, k1, by omega, k3⟩
  have hlt : ∀ (i : Nat) (u : Value), (vs ++ [v])[i]? = some u → (i < vs.length ∧ vs[i]? = some u) ∨ (i = vs.length ∧ u = v) := fun i u hu => by
    by_cases hi : i < vs.length
    · rw [List.getElem?_append_left hi] at hu; exact .inl ⟨hi, hu⟩
    · rw [List.getElem?_append_right (by omega)] at hu
      have : i - vs.length = 0 := by
        apply Decidable.byContradiction
        intro hn
        rw [List.getElem?_eq_none (by simp; omega)] at hu
        cases hu
      rw [this] at hu
      simp at hu
      exact .inr ⟨by omega, hu.symm⟩
  refine ⟨by simp [h.len], by simpa using hrow, fun i u ys hu hy => ?_, fun i u g hu hb => ?_, fun i j u u' g g' hij hu hu' hb hb' => ?_, Nat.le_refl _⟩
  · rcases hlt i u hu with ⟨hi, hu⟩ | ⟨hi, hu⟩
    · rw [List.getElem?_append_left (by rw [← h.len]; exact hi)] at hy
      obtain ⟨k0, k1⟩ := h.each i u ys hu hy
      exact ⟨k0, k1.kept hg (own_other k1 h.row (Ne.symm hT))⟩
    · subst hu
      rw [hi, h.len, List.getElem?_append_right (Nat.le_refl _), Nat.sub_self] at hy
      simp at hy
      subst hy
      exact ⟨h0, hv'⟩
  · rcases hlt i u hu with ⟨hi, hu⟩ | ⟨hi, hu⟩
    · have := h.low i u g hu hb
      have := h.le
      have := hg.size
      omega
    · subst hu
      exact (hv'.lt g hb).2
  · rcases hlt i u hu with ⟨hi, k1⟩ | ⟨hi, k1⟩
    · rcases hlt j u' hu' with ⟨hj, k2⟩ | ⟨hj, k2⟩
      · exact h.rise i j u u' g g' hij k1 k2 hb hb'
      · rw [k2] at hb'
        have k3 := h.low i u g k1 hb
        have k4 := (hv.lt g' hb').1
        omega
    · rcases hlt j u' hu' with ⟨hj, k2⟩ | ⟨hj, k2⟩
      · omega
      · omega
end Go.Proofs.YtogkchgjpflmjaaGreatDoor

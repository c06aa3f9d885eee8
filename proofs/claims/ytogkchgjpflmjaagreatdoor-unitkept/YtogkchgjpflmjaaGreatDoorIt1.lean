/- item's word, register, name, constant, numberOf, setRegister. -/
import Derived.Test.YtogkchgjpflmjaaGreatDoorTRoom
import Derived.Test.YtogkchgjpflmjaaGreatDoorArgsO
import Derived.Test.YtogkchgjpflmjaaGreatDoorShelf
/- The document's reader of tokens: refuse, is. -/
namespace Go.Proofs.YtogkchgjpflmjaaGreatDoor
open Go.ChangeShapes Go.WideShapes Go.ChangeAt Go.RowKit
set_option linter.unusedVariables false
set_option maxRecDepth 100000
structure RR (w : World) (g : Nat) (a : Option Addr) (c : Nat) (ts : List Tok) (k d e : Int) : Prop where
  heap : w.heap[g]? = some (.cells #[.slice a ts.length c, .int .i64 k, .int .i64 d, .int .i64 e] 295 (0, 0))
  lies : TLies w a ts
  ne : ∀ x, a = some x → x.block < g
  k0 : 0 ≤ k
  k1 : k ≤ 2000
  few : ts.length ≤ 1000
  short : ∀ t ∈ ts, t.text.length ≤ 1000000
  nums : ∀ t ∈ ts, 0 ≤ t.num ∧ t.num < 4294967296
theorem RR.lt {w : World} {g : Nat} {a : Option Addr} {c : Nat} {ts : List Tok} {k d e : Int} (h : RR w g a c ts k d e) : g < w.heap.size := (Array.getElem?_eq_some_iff.1 h.heap).1
theorem RR.cells {w : World} {g : Nat} {a : Option Addr} {c : Nat} {ts : List Tok} {k d e : Int} (h : RR w g a c ts k d e) :
    w.cell? ⟨g, 0, none⟩ = some (.slice a ts.length c) ∧ w.cell? ⟨g, 1, none⟩ = some (.int .i64 k) ∧ w.cell? ⟨g, 2, none⟩ = some (.int .i64 d) ∧ w.cell? ⟨g, 3, none⟩ = some (.int .i64 e) :=
  ⟨(cell_blockT h.heap 0).trans rfl, (cell_blockT h.heap 1).trans rfl, (cell_blockT h.heap 2).trans rfl, (cell_blockT h.heap 3).trans rfl⟩
theorem RR.frozen {w : World} {g : Nat} {a : Option Addr} {c : Nat} {ts : List Tok} {k d e : Int} (h : RR w g a c ts k d e) (j : Nat) : w.frozen? ⟨g, j, none⟩ = false := frozen_of_row w g j _ 295 h.heap
theorem TLies.grown {w w' : World} {a : Option Addr} {xs : List Tok} {k : Option Nat} (h : TLies w a xs) (hg : w.grownBy w' k) (hne : ∀ x, a = some x → some x.block ≠ k) : TLies w' a xs := by
  rcases h with h | ⟨g, off, ha, hc⟩
  · exact .inl h
  · exact .inr ⟨g, off, ha, fun i x hx => ⟨hg.cell (hc i x hx).o (hne ⟨g, off, none⟩ ha), hg.cell (hc i x hx).a (hne ⟨g, off, none⟩ ha), hg.cell (hc i x hx).b (hne ⟨g, off, none⟩ ha), hg.cell (hc i x hx).n (hne ⟨g, off, none⟩ ha)⟩⟩
theorem RR.grown {w w' : World} {g : Nat} {a : Option Addr} {c : Nat} {ts : List Tok} {k d e : Int} {b : Option Nat} (h : RR w g a c ts k d e) (hg : w.grownBy w' b) (hb : b ≠ some g) (hx : ∀ x, a = some x → some x.block ≠ b) : RR w' g a c ts k d e :=
  ⟨by rw [hg.block g h.lt (fun e => hb e.symm)]; exact h.heap, h.lies.grown hg hx, h.ne, h.k0, h.k1, h.few, h.short, h.nums⟩
theorem RR.below {w w' : World} {g : Nat} {a : Option Addr} {c : Nat} {ts : List Tok} {k d e : Int} (h : RR w g a c ts k d e) (hb : Below w.heap.size w w') : RR w' g a c ts k d e := h.grown (grown_of_below hb) (by simp) (fun x _ => by simp)
theorem row_set {w : World} {g : Nat} {T : TypeId} {cur : Array Value} (h : w.heap[g]? = some (.cells cur T (0, 0))) (j : Nat) (y : Value) :
    (w.setCell ⟨g, j, none⟩ y).heap[g]? = some (.cells (cur.setIfInBounds j y) T (0, 0)) ∧ w.grownBy (w.setCell ⟨g, j, none⟩ y) (some g) := by
  refine ⟨heap_setCell_same w g j _ T y h, ⟨rfl, rfl, rfl, by simp, fun k hk hne => ?_⟩⟩
  have hk' : k ≠ g := fun e => hne (by rw [e])
  rw [heap_setCell_other _ _ _ _ hk']
end Go.Proofs.YtogkchgjpflmjaaGreatDoor
/- What a line says, as a function on its tokens: the small ones. -/
namespace Go.Proofs.YtogkchgjpflmjaaGreatDoor
open Go.ChangeShapes Go.WideShapes Go.ChangeAt Go.RowKit
set_option linter.unusedVariables false
set_option maxRecDepth 100000
structure Itm where
  kind : Int
  name : List UInt8
  op : Int
  a : Int
  b : Int
  m : Int
  form : Int
  e : Lin
  n : Int
structure Thg where
  kind : Int
  items : List Itm
  name : List UInt8
  e : Lin
  sec : Int
def linE : Lin := ⟨[], 0⟩
def itmE : Itm := ⟨0, [], 0, 0, 0, 0, 0, linE, 0⟩
def thgE : Thg := ⟨0, [], [], linE, 0⟩
def wordF : List Tok → List UInt8
  | [t] => if t.kind = 1 then t.text else []
  | _ => []
def regF (arg : List Tok) (z : Bool) : Option Int :=
  if (isR (str (wordF arg)) || isZ (str (wordF arg))) = true ∧ isZ (str (wordF arg)) = z then some (regN (str (wordF arg))) else none
def i32F (n : Int) : Int := if n < 2147483648 then n else n - 4294967296
def constF (arg : List Tok) : Except Int Int :=
  match parseF arg with
  | .error e => .error e
  | .ok x => if x.terms.length = 0 then .ok (i32F x.const) else .error 21
def numOfB (kind n : Int) : Bool :=
  if kind = 3 then decide (n = 1 ∨ n = 2 ∨ n = 4 ∨ n = 8 ∨ n = 16 ∨ n = 32 ∨ n = 64 ∨ n = 128 ∨ n = 256)
  else if kind = 5 then decide (-128 ≤ n ∧ n ≤ 255)
  else if kind = 7 then decide (0 ≤ n ∧ n ≤ 1048576)
  else decide (n = 0)
def numF (kind : Int) (arg : List Tok) : Except Int Int :=
  match constF arg with
  | .error e => .error e
  | .ok n => if numOfB kind n = true then .ok n else .error 21
def standsB (kind sec : Int) : Bool :=
  if kind = 1 ∨ kind = 3 then true
  else if kind = 2 ∨ kind = 4 then decide (sec ≠ 1)
  else if kind = 5 ∨ kind = 6 ∨ kind = 7 then decide (sec = 1)
  else false
def nameF (arg : List Tok) : Except Int (List UInt8) := if legB (str (wordF arg)) = true then .ok (wordF arg) else .error 20
def wantsF (s : Int) : List UInt8 :=
  if s = 2 then [114] else if s = 3 then [122] else if s = 4 then [114, 114] else if s = 5 then [122, 122] else if s = 6 then [114, 122] else if s = 7 then [122, 114, 114]
  else if s = 8 then [114, 110] else if s = 9 then [110] else if s = 10 ∨ s = 13 then [114, 101] else if s = 11 then [114, 61] else if s = 12 then [101] else []
theorem stands_any (k s : Int) (w : World) :
    Calls Tryz.prog 107 #[.int .i64 k, .int .i64 s] w fun e w' => e = .returned (.bool (standsB k s)) ∧ w' = w := by
  by_cases h1 : k = 1
  · subst h1; go_enter Tryz.func107, Tryz.ntmps107; go_wp2; go_ret; exact ⟨rfl, rfl⟩
  by_cases h3 : k = 3
  · subst h3; go_enter Tryz.func107, Tryz.ntmps107; go_wp2; go_ret; exact ⟨rfl, rfl⟩
  by_cases h2 : k = 2
  · subst h2; go_enter Tryz.func107, Tryz.ntmps107; go_wp2; go_ret; exact ⟨by simp [standsB]; try rfl, rfl⟩
  by_cases h4 : k = 4
  · subst h4; go_enter Tryz.func107, Tryz.ntmps107; go_wp2; go_ret; exact ⟨by simp [standsB]; try rfl, rfl⟩
  by_cases h5 : k = 5
  · subst h5; go_enter Tryz.func107, Tryz.ntmps107; go_wp2; go_ret; exact ⟨by simp [standsB]; try rfl, rfl⟩
  by_cases h6 : k = 6
  · subst h6; go_enter Tryz.func107, Tryz.ntmps107; go_wp2; go_ret; exact ⟨by simp [standsB]; try rfl, rfl⟩
  by_cases h7 : k = 7
  · subst h7; go_enter Tryz.func107, Tryz.ntmps107; go_wp2; go_ret; exact ⟨by simp [standsB]; try rfl, rfl⟩
  have hs : standsB k s = false := by simp [standsB, h1, h2, h3, h4, h5, h6, h7]
  rw [hs]
  go_enter Tryz.func107, Tryz.ntmps107
  go_wp2
  go_ret
  exact ⟨rfl, rfl⟩
theorem and_small : ∀ m : Fin 257, 1 ≤ m.val → (bits BinOp.and IntKind.i64 (m.val : Int) ((m.val : Int) - 1) == 0) = numOfB 3 (m.val : Int) := by decide +kernel
theorem wanted_any (s : Int) (w : World) :
    Calls Tryz.prog 133 #[.int .i64 s] w fun e w' => e = .returned (.string (str (wantsF s))) ∧ w' = w := by
  by_cases h : 2 ≤ s ∧ s ≤ 13
  · have : s = 2 ∨ s = 3 ∨ s = 4 ∨ s = 5 ∨ s = 6 ∨ s = 7 ∨ s = 8 ∨ s = 9 ∨ s = 10 ∨ s = 11 ∨ s = 12 ∨ s = 13 := by omega
    rcases this with rfl | rfl | rfl | rfl | rfl | rfl | rfl | rfl | rfl | rfl | rfl | rfl
    all_goals (go_enter Tryz.func133, Tryz.ntmps133; go_wp2; go_ret; exact ⟨rfl, rfl⟩)
  · have hw : wantsF s = [] := by
      unfold wantsF
      rw [if_neg (by omega), if_neg (by omega), if_neg (by omega), if_neg (by omega), if_neg (by omega), if_neg (by omega), if_neg (by omega), if_neg (by omega), if_neg (by omega), if_neg (by omega), if_neg (by omega)]
    rw [hw]
    have g2 : (s == 2) = false := by simp; omega
    have g3 : (s == 3) = false := by simp; omega
    have g4 : (s == 4) = false := by simp; omega
    have g5 : (s == 5) = false := by simp; omega
    have g6 : (s == 6) = false := by simp; omega
    have g7 : (s == 7) = false := by simp; omega
    have g8 : (s == 8) = false := by simp; omega
    have g9 : (s == 9) = false := by simp; omega
    have g10 : (s == 10) = false := by simp; omega
    have g11 : (s == 11) = false := by simp; omega
    have g12 : (s == 12) = false := by simp; omega
    have g13 : (s == 13) = false := by simp; omega
    go_enter Tryz.func133, Tryz.ntmps133
    go_wp2
    go_ret
    exact ⟨rfl, rfl⟩
theorem isNumberOf_any (k n : Int) (w : World) (hn : -9223372036854775808 ≤ n ∧ n ≤ 9223372036854775807) :
    Calls Tryz.prog 113 #[.int .i64 k, .int .i64 n] w fun e w' => e = .returned (.bool (numOfB k n)) ∧ w' = w := by
  by_cases h3 : k = 3
  · subst h3
    by_cases h1 : 1 ≤ n
    · by_cases h2 : n ≤ 256
      · go_enter Tryz.func113, Tryz.ntmps113
        go_wp2
        go_ret
        refine ⟨?_, rfl⟩
        have hm : (n.toNat : Int) = n := by omega
        have := and_small ⟨n.toNat, by omega⟩ (by show 1 ≤ n.toNat; omega)
        simp only [hm] at this
        rw [← this]
        rfl
      · have hz : numOfB 3 n = false := by simp [numOfB]; omega
        rw [hz]
        go_enter Tryz.func113, Tryz.ntmps113
        go_wp2
        go_ret
        exact ⟨rfl, rfl⟩
    · have hz : numOfB 3 n = false := by simp [numOfB]; omega
      rw [hz]
      go_enter Tryz.func113, Tryz.ntmps113
      go_wp2
      go_ret
      exact ⟨rfl, rfl⟩
  by_cases h5 : k = 5
  · subst h5
    have hz : numOfB 5 n = (decide (-128 ≤ n) && decide (n ≤ 255)) := by simp [numOfB]
    rw [hz]
    by_cases h1 : -128 ≤ n
    · go_enter Tryz.func113, Tryz.ntmps113
      go_wp2
      go_ret
      exact ⟨by simp [h1]; try rfl, rfl⟩
    · have hf : decide (-128 ≤ n) = false := by simp [h1]
      rw [hf, Bool.false_and]
      go_enter Tryz.func113, Tryz.ntmps113
      go_wp2
      go_ret
      exact ⟨rfl, rfl⟩
  by_cases h7 : k = 7
  · subst h7
    have hz : numOfB 7 n = (decide (0 ≤ n) && decide (n ≤ 1048576)) := by simp [numOfB]
    rw [hz]
    by_cases h1 : 0 ≤ n
    · go_enter Tryz.func113, Tryz.ntmps113
      go_wp2
      go_ret
      exact ⟨by simp [h1]; try rfl, rfl⟩
    · have hf : decide (0 ≤ n) = false := by simp [h1]
      rw [hf, Bool.false_and]
      go_enter Tryz.func113, Tryz.ntmps113
      go_wp2
      go_ret
      exact ⟨rfl, rfl⟩
  have hz : numOfB k n = decide (n = 0) := by simp [numOfB, h3, h5, h7]
  rw [hz]
  go_enter Tryz.func113, Tryz.ntmps113
  go_wp2
  go_ret
  exact ⟨by simp; try rfl, rfl⟩
end Go.Proofs.YtogkchgjpflmjaaGreatDoor
namespace Go.Proofs.YtogkchgjpflmjaaGreatDoor
open Go.ChangeShapes Go.WideShapes Go.ChangeAt Go.RowKit
set_option linter.unusedVariables false
set_option maxRecDepth 100000
theorem wordF_other {arg : List Tok} (h : arg.length ≠ 1) : wordF arg = [] := by
  match arg, h with
  | [], _ => rfl
  | [t], h => simp at h
  | t :: u :: r, _ => rfl
theorem word_any (a : Option Addr) (c : Nat) (arg : List Tok) (w : World) (hT : TokFrom w a arg) :
    Calls Tryz.prog 266 #[.slice a arg.length c] w fun e w' => e = .returned (.string (str (wordF arg))) ∧ w' = w := by
  by_cases h1 : arg.length = 1
  · match arg, h1, hT with
    | [t], _, hT =>
      obtain ⟨g, o, rfl, hg, ⟨q0, q1, q2, q3⟩, _⟩ := hT.head
      by_cases hk : t.kind = 1
      · have hw : wordF [t] = t.text := by simp [wordF, hk]
        rw [hw]
        rw [hk] at q0
        clear hT
        show Calls Tryz.prog 266 #[.slice (some ⟨g, o, none⟩) 1 c] w _
        go_enter Tryz.func266, Tryz.ntmps266
        go_wp2
        all_goals first | omega | skip
        go_ret
        exact ⟨rfl, rfl⟩
      · have hw : wordF [t] = [] := by simp [wordF, hk]
        rw [hw]
        have hk' : (t.kind == 1) = false := by simp [hk]
        clear hT
        show Calls Tryz.prog 266 #[.slice (some ⟨g, o, none⟩) 1 c] w _
        go_enter Tryz.func266, Tryz.ntmps266
        go_wp2
        all_goals first | omega | skip
        go_ret
        exact ⟨rfl, rfl⟩
  · rw [wordF_other h1]
    generalize arg.length = n0 at h1 ⊢
    have h1' : ¬ ((n0 : Int) = 1) := by omega
    clear hT
    go_enter Tryz.func266, Tryz.ntmps266
    go_wp2
    all_goals first | omega | skip
    go_ret
    exact ⟨rfl, rfl⟩
theorem wordF_len {arg : List Tok} {m : Nat} (h : ∀ t ∈ arg, t.text.length ≤ m) : (wordF arg).length ≤ m := by
  match arg, h with
  | [], _ => simp [wordF]
  | [t], h =>
    have := h t (by simp)
    show (if t.kind = 1 then t.text else []).length ≤ m
    by_cases hk : t.kind = 1
    · rw [if_pos hk]; exact this
    · rw [if_neg hk]; simp
  | t :: u :: r, _ => simp [wordF]
theorem str_sizeI (l : List UInt8) : (str l).size = l.length := rfl
def regV (r : Option Int) : Value := match r with | some n => .tuple #[.int .i64 n, .bool true] | none => .tuple #[.int .i64 0, .bool false]
theorem itRegister_any (a : Option Addr) (c : Nat) (arg : List Tok) (z : Bool) (w : World) (hT : TokFrom w a arg) (hs : ∀ t ∈ arg, t.text.length ≤ 1000000) :
    Calls Tryz.prog 272 #[.slice a arg.length c, .bool z] w fun e w' => e = .returned (regV (regF arg z)) ∧ w' = w := by
  have hw := Hid.intro (word_any a c arg w hT)
  have hr := Hid.intro (register_any (str (wordF arg)) (by rw [str_sizeI]; have := wordF_len hs; omega) w)
  have hF : regF arg z = if (isR (str (wordF arg)) || isZ (str (wordF arg))) = true ∧ isZ (str (wordF arg)) = z then some (regN (str (wordF arg))) else none := rfl
  rw [hF]
  clear hF
  generalize regN (str (wordF arg)) = N at hr ⊢
  generalize (isR (str (wordF arg)) || isZ (str (wordF arg))) = ok at hr ⊢
  generalize isZ (str (wordF arg)) = zz at hr ⊢
  clear hT hs
  generalize arg.length = n0 at hw ⊢
  cases ok
  · rw [if_neg (by simp)]
    go_enter Tryz.func272, Tryz.ntmps272
    go_wp2_with (first | (go_at_call 266; (with_reducible refine (hw.out).mono ?_); rintro e w' ⟨rfl, rfl⟩) | (go_at_call 104; (with_reducible refine (hr.out).mono ?_); rintro e w' ⟨rfl, rfl⟩))
    all_goals first | omega | skip
    go_ret2
    exact ⟨rfl, rfl⟩
  · cases zz <;> cases z
    all_goals (try rw [if_pos ⟨rfl, rfl⟩])
    all_goals (try rw [if_neg (fun h => nomatch h.2)])
    all_goals
      go_enter Tryz.func272, Tryz.ntmps272
      go_wp2_with (first | (go_at_call 266; (with_reducible refine (hw.out).mono ?_); rintro e w' ⟨rfl, rfl⟩) | (go_at_call 104; (with_reducible refine (hr.out).mono ?_); rintro e w' ⟨rfl, rfl⟩))
      all_goals first | omega | skip
      go_ret2
      exact ⟨rfl, rfl⟩
def nameVI (r : Except Int (List UInt8)) : Value := match r with | .ok s => .tuple #[.string (str s), .int .i64 0] | .error k => .tuple #[.string ⟨#[]⟩, .int .i64 k]
theorem name_any (a : Option Addr) (c : Nat) (arg : List Tok) (w : World) (hT : TokFrom w a arg) (hs : ∀ t ∈ arg, t.text.length ≤ 1000000) :
    Calls Tryz.prog 265 #[.slice a arg.length c] w fun e w' => e = .returned (nameVI (nameF arg)) ∧ Below w.heap.size w w' := by
  have hw := Hid.intro (word_any a c arg w hT)
  have hlen := wordF_len hs
  have hl := Hid.intro (legal_any (str (wordF arg)) (by rw [str_sizeI]; omega) w)
  have hc := Hid.intro (fun (w1 : World) => clone_any (str (wordF arg)) w1 (by rw [str_sizeI]; omega))
  have hF : nameF arg = if legB (str (wordF arg)) = true then .ok (wordF arg) else .error 20 := rfl
  rw [hF]
  clear hF hlen
  generalize legB (str (wordF arg)) = ok at hl ⊢
  generalize hs2 : str (wordF arg) = s2 at hw hl hc
  clear hT hs
  generalize arg.length = n0 at hw ⊢
  cases ok
  · rw [if_neg (by simp)]
    clear hs2
    go_enter Tryz.func265, Tryz.ntmps265
    go_wp2_with (first | (go_at_call 266; (with_reducible refine (hw.out).mono ?_); rintro e w' ⟨rfl, rfl⟩) | (go_at_call 68; (with_reducible refine (hl.out).mono ?_); rintro e w1 ⟨rfl, hb1⟩))
    all_goals first | omega | skip
    go_ret2
    exact ⟨rfl, hb1⟩
  · rw [if_pos rfl, show nameVI (.ok (wordF arg)) = .tuple #[.string s2, .int .i64 0] from by rw [← hs2]; rfl]
    clear hs2
    go_enter Tryz.func265, Tryz.ntmps265
    go_wp2_with (first | (go_at_call 266; (with_reducible refine (hw.out).mono ?_); rintro e w' ⟨rfl, rfl⟩) | (go_at_call 68; (with_reducible refine (hl.out).mono ?_); rintro e w1 ⟨rfl, hb1⟩) | (go_at_call 39; (with_reducible refine (hc.out _).mono ?_); rintro e w2 ⟨rfl, hb2⟩))
    all_goals first | omega | skip
    go_ret2
    exact ⟨rfl, hb1.trans (hb2.mono hb1.size)⟩
end Go.Proofs.YtogkchgjpflmjaaGreatDoor

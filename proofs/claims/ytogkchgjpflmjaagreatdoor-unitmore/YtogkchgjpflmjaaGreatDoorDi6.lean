/- item's Read, of any line. -/
import Derived.Test.YtogkchgjpflmjaaGreatDoorDi4
import Derived.Test.YtogkchgjpflmjaaGreatDoorDi5
import Derived.Test.YtogkchgjpflmjaaGreatDoorDi5b
import Derived.Test.YtogkchgjpflmjaaGreatDoorDi5c
import Derived.Test.YtogkchgjpflmjaaGreatDoorDi5d
import Derived.Test.YtogkchgjpflmjaaGreatDoorDi5e
namespace Go.Proofs.YtogkchgjpflmjaaGreatDoor
open Go.ChangeShapes Go.WideShapes Go.ChangeAt Go.RowKit
set_option linter.unusedVariables false
set_option maxRecDepth 100000
theorem read_nil (lb : List UInt8) (a : Option Addr) (n0 c : Nat) (sec : Int) (w : World) :
    Calls Tryz.prog 69 #[.agg #[.string (str lb), .string (str []), .slice a n0 c], .int .i64 sec] w fun e w' => Below w.heap.size w w' ∧ ThOwn w.heap.size w' (.ok thgE) e := by
  have hne : ((str []).toList == []) = true := by rw [str_toList]; rfl
  generalize str [] = S at hne ⊢
  go_enter Tryz.func69, Tryz.ntmps69
  go_wp2
  all_goals first | omega | skip
  have hB : Below w.heap.size w ((w.alloc (.cells #[.string (str lb), .string S, .slice a n0 c] 133)).alloc (.cells #[.int .i64 0, .slice none 0 0, .string ⟨#[]⟩, .slice none 0 0, .int .u32 0, .int .i64 0] 137)) := (below_alloc w _).alloc (by simp) _
  have hs1 : (w.alloc (.cells #[.string (str lb), .string S, .slice a n0 c] 133)).heap.size = w.heap.size + 1 := by simp
  have hq := heap_alloc_new (w.alloc (.cells #[.string (str lb), .string S, .slice a n0 c] 133)) (.cells #[.int .i64 0, .slice none 0 0, .string ⟨#[]⟩, .slice none 0 0, .int .u32 0, .int .i64 0] 137)
  rw [hs1] at hq
  generalize ((w.alloc (.cells #[.string (str lb), .string S, .slice a n0 c] 133)).alloc (.cells #[.int .i64 0, .slice none 0 0, .string ⟨#[]⟩, .slice none 0 0, .int .u32 0, .int .i64 0] 137)) = w9 at hB hq ⊢
  obtain ⟨k0, k1, k2, k3, k4, k5⟩ := thing_ret (w8 := w9) hq
  refine bodyPost_ret (by simp [results, Tryz.results69, go_sem, k0, k1, k2, k3, k4, k5]; try rfl) rfl ?_
  exact ⟨hB, .slice none 0 0, none, 0, 0, rfl, ThO.none _ _⟩
theorem read_none (lb s : List UInt8) (hs0 : s ≠ []) (hd : s ∉ dirs) (hf : findN s = 0) (a : Option Addr) (n0 c : Nat) (sec : Int) (w : World) (hT : Tab w) :
    Calls Tryz.prog 69 #[.agg #[.string (str lb), .string (str s), .slice a n0 c], .int .i64 sec] w fun e w' => Below w.heap.size w w' ∧ ThOwn w.heap.size w' (.error 20) e := by
  have hne : ((str s).toList == []) = false := by rw [str_toList]; exact beq_false_of_ne hs0
  have hnl : ∀ w, (binOp .eql 192 .nilIface .nilIface).run Tryz.prog w = .ok (.bool true) w := nil_none
  have hro := Hid.intro (readerOf_none s hd hf ((w.alloc (.cells #[.string (str lb), .string (str s), .slice a n0 c] 133)).alloc (.cells #[.int .i64 0, .slice none 0 0, .string ⟨#[]⟩, .slice none 0 0, .int .u32 0, .int .i64 0] 137)) ((hT.alloc _).alloc _))
  clear hT hf hd hs0
  generalize str s = S at hne hro ⊢
  go_enter Tryz.func69, Tryz.ntmps69
  go_wp2_with (go_at_call 105; (with_reducible refine (hro.out).mono ?_); rintro e w1 ⟨hw1, rfl⟩; subst hw1)
  all_goals first | omega | skip
  have hB : Below w.heap.size w ((w.alloc (.cells #[.string (str lb), .string S, .slice a n0 c] 133)).alloc (.cells #[.int .i64 0, .slice none 0 0, .string ⟨#[]⟩, .slice none 0 0, .int .u32 0, .int .i64 0] 137)) := (below_alloc w _).alloc (by simp) _
  have hs1 : (w.alloc (.cells #[.string (str lb), .string S, .slice a n0 c] 133)).heap.size = w.heap.size + 1 := by simp
  have hq := heap_alloc_new (w.alloc (.cells #[.string (str lb), .string S, .slice a n0 c] 133)) (.cells #[.int .i64 0, .slice none 0 0, .string ⟨#[]⟩, .slice none 0 0, .int .u32 0, .int .i64 0] 137)
  rw [hs1] at hq
  generalize ((w.alloc (.cells #[.string (str lb), .string S, .slice a n0 c] 133)).alloc (.cells #[.int .i64 0, .slice none 0 0, .string ⟨#[]⟩, .slice none 0 0, .int .u32 0, .int .i64 0] 137)) = w9 at hB hq ⊢
  obtain ⟨k0, k1, k2, k3, k4, k5⟩ := thing_ret (w8 := w9) hq
  refine bodyPost_ret (by simp [results, Tryz.results69, go_sem, k0, k1, k2, k3, k4, k5]; try rfl) rfl ?_
  exact ⟨hB, rfl⟩
theorem args_low {w w1 : World} {a : Option Addr} {args : List (List Tok)} {b : Nat} (hA : ArgsIn w.heap.size w a args) (h1 : Below w.heap.size w w1) (hb : w.heap.size + 2 ≤ b) (hlt : b < w1.heap.size) : ArgsIn b w1 a args :=
  (hA.below h1).mono (by omega) (by omega)
def singR (R : Except Int Itm) : Except Int Thg := match R with | .error k => .error k | .ok x => .ok ⟨1, [x], [], linE, 0⟩
def sevR (R : Except Int (List Itm)) : Except Int Thg := match R with | .error k => .error k | .ok l => .ok ⟨2, l, [], linE, 0⟩
theorem singF_err {kind : Int} {args : List (List Tok)} {k : Int} (h : singF kind args = .error k) : k = 20 ∨ k = 21 := by
  cases args with
  | nil => cases h
  | cons x r => exact itOf_err h
theorem itsF_err {kind : Int} : ∀ {args : List (List Tok)} {k : Int}, itsF kind args = .error k → k = 20 ∨ k = 21 := by
  intro args
  induction args with
  | nil => intro k h; cases h
  | cons x r ih =>
    intro k h
    rw [itsF] at h
    split at h
    · rename_i hx; cases h; exact itOf_err hx
    · split at h
      · rename_i hx; cases h; exact ih hx
      · cases h
theorem read_sing (kind : Int) (hk : kind ≠ 6) (m : Nat) (hm : m ≤ 1) (lb s : List UInt8) (hs0 : s ≠ []) (hro : ∀ w1 : World, Calls Tryz.prog 105 #[.string (str s)] w1 fun e w' => Below w1.heap.size w1 w' ∧ ∃ b, w1.heap.size ≤ b ∧ e = .returned (.tuple #[.iface 226 (.pointer (some ⟨b, 0, none⟩)), .int .i64 m, .int .i64 m]) ∧ w'.heap[b]? = some (.cells (itmCells { itmE with kind := kind } (.slice none 0 0)) 228 (0, 0)))
    (a : Option Addr) (c : Nat) (args : List (List Tok)) (hal : args.length ≤ 1100000) (sec : Int) (w : World) (hA : ArgsIn w.heap.size w a args) :
    Calls Tryz.prog 69 #[.agg #[.string (str lb), .string (str s), .slice a args.length c], .int .i64 sec] w fun e w' => Below w.heap.size w w' ∧ ThOwn w.heap.size w' (singThg kind m args sec) e := by
  have hro0 : ∀ w1, Below w.heap.size w w1 → Calls Tryz.prog 105 #[.string (str s)] w1 fun e w2 => Below w1.heap.size w1 w2 ∧ ∃ b, w1.heap.size ≤ b ∧ e = .returned (.tuple #[.iface 226 (.pointer (some ⟨b, 0, none⟩)), .int .i64 m, .int .i64 m]) ∧ (b < w2.heap.size ∧ w2.heap[b]? = some (.cells (itmCells { itmE with kind := kind } (.slice none 0 0)) 228 (0, 0))) := fun w1 _ => (hro w1).mono fun e w2 ⟨h1, b, h2, h3, h4⟩ => ⟨h1, b, h2, h3, blk_lt h4, h4⟩
  by_cases hl : args.length = m
  · have hF : singThg kind m args sec = andStands (singR (singF kind args)) sec := by
      unfold singThg
      rw [if_neg (by omega)]
      cases singF kind args <;> rfl
    rw [hF]
    refine readG_single lb s hs0 a c args.length hal sec w m m (by omega) (by omega) _ (fun t w1 b => ∃ x, t = ⟨1, [x], [], linE, 0⟩ ∧ x.e = linE ∧ w1.heap[b]? = some (.cells (itmCells x (.slice none 0 0)) 228 (0, 0))) _ hro0 ?_ ?_ ?_ ?_
    · intro w1 b h1 h2 h3 h4
      refine (singRead_any b kind hk a c args (by omega) w1 (args_low hA h1 h2 h3) h4).mono ?_
      rintro e w2 ⟨g1, g2⟩
      refine ⟨g1, ?_⟩
      cases hs : singF kind args with
      | error k => rw [hs] at g2; exact g2
      | ok x => rw [hs] at g2; exact ⟨g2.1, x, rfl, g2.2.1, g2.2.2⟩
    · rintro t w1 b hbg hbl ⟨x, rfl, hx, hh⟩
      refine (said_single b x none 0 0 w1 hh).mono ?_
      rintro e w2 ⟨g1, q, hq, rfl, hqh⟩
      have hO := ThO.one (lo := w.heap.size + 2) hqh (by omega) (by rw [hx]; exact World.ownsRow_nil _ _ _ _)
      refine ⟨g1, _, _, _, _, _, _, rfl, .inr ⟨q, 1, rfl, blk_lt hqh, fun i y hi => ?_⟩, rfl, TmLies.nil _ _, hO⟩
      match i, hi with
      | 0, hi => cases hi; exact ⟨none, 0, 0, itAt_row hqh, by rw [hx]; rfl, by rw [hx]; exact TmLies.nil _ _⟩
      | i + 1, hi => simp at hi
    · intro k hk2
      cases hs : singF kind args with
      | error k' => rw [hs] at hk2; cases hk2; rcases singF_err hs with h | h <;> omega
      | ok x => rw [hs] at hk2; cases hk2
    · intro t ht
      cases hs : singF kind args with
      | error k' => rw [hs] at ht; cases ht
      | ok x => rw [hs] at ht; cases ht; simp
  · have hF : singThg kind m args sec = .error 20 := by unfold singThg; rw [if_pos hl]
    rw [hF]
    exact readLen_single lb s hs0 a c args.length hal sec w m m (by omega) _ hro0
theorem read_sev (kind : Int) (hk : kind = 5 ∨ kind = 6) (lb s : List UInt8) (hs0 : s ≠ []) (hro : ∀ w1 : World, Calls Tryz.prog 105 #[.string (str s)] w1 fun e w' => Below w1.heap.size w1 w' ∧ ∃ b, w1.heap.size ≤ b ∧ e = .returned (.tuple #[.iface 229 (.pointer (some ⟨b, 0, none⟩)), .int .i64 1, .int .i64 9223372036854775807]) ∧ w'.heap[b]? = some (.cells #[.int .i64 kind, .slice none 0 0] 231 (0, 0)))
    (a : Option Addr) (c : Nat) (args : List (List Tok)) (hal : args.length ≤ 1100000) (hfew : FewA args) (sec : Int) (w : World) (hA : ArgsIn w.heap.size w a args) :
    Calls Tryz.prog 69 #[.agg #[.string (str lb), .string (str s), .slice a args.length c], .int .i64 sec] w fun e w' => Below w.heap.size w w' ∧ ThOwn w.heap.size w' (sevThg kind args sec) e := by
  have hro0 : ∀ w1, Below w.heap.size w w1 → Calls Tryz.prog 105 #[.string (str s)] w1 fun e w2 => Below w1.heap.size w1 w2 ∧ ∃ b, w1.heap.size ≤ b ∧ e = .returned (.tuple #[.iface 229 (.pointer (some ⟨b, 0, none⟩)), .int .i64 1, .int .i64 9223372036854775807]) ∧ (b < w2.heap.size ∧ w2.heap[b]? = some (.cells #[.int .i64 kind, .slice none 0 0] 231 (0, 0))) := fun w1 _ => (hro w1).mono fun e w2 ⟨h1, b, h2, h3, h4⟩ => ⟨h1, b, h2, h3, blk_lt h4, h4⟩
  by_cases hl : args.length = 0
  · have hF : sevThg kind args sec = .error 20 := by unfold sevThg; rw [if_pos hl]
    rw [hF]
    exact readLen_several lb s hs0 a c args.length hal sec w 1 9223372036854775807 (by omega) _ hro0
  · have hF : sevThg kind args sec = andStands (sevR (itsF kind args)) sec := by
      unfold sevThg
      rw [if_neg hl]
      cases itsF kind args <;> rfl
    rw [hF]
    refine readG_several lb s hs0 a c args.length hal sec w 1 9223372036854775807 (by omega) (by omega) _ (fun t w1 b => ∃ p a1 L c1, t = ⟨2, p.map (·.1), [], linE, 0⟩ ∧ w1.heap[b]? = some (.cells #[.int .i64 kind, .slice a1 L c1] 231 (0, 0)) ∧ ItOwn (b + 1) w1 (.slice a1 L c1) p) _ hro0 ?_ ?_ ?_ ?_
    · intro w1 b h1 h2 h3 h4
      have key : Calls Tryz.prog 263 #[.pointer (some ⟨b, 0, none⟩), .slice a args.length c] w1 fun e w' => Below b w1 w' ∧ SvOut b kind (itsF kind args) e w' := by
        rcases hk with rfl | rfl
        · exact sevRead_5 b a c args hal w1 (args_low hA h1 h2 h3) h4
        · exact sevRead_6 b a c args hal w1 (args_low hA h1 h2 h3) h4
      refine key.mono ?_
      rintro e w2 ⟨g1, g2⟩
      refine ⟨g1, ?_⟩
      cases hs : itsF kind args with
      | error k => rw [hs] at g2; exact g2
      | ok l =>
        rw [hs] at g2
        obtain ⟨g3, p, a1, L, c1, g4, g5, g6⟩ := g2
        exact ⟨g3, p, a1, L, c1, by rw [g4], g5, g6⟩
    · rintro t w1 b hbg hbl ⟨p, a1, L, c1, rfl, hh, ho⟩
      refine (said_several b kind a1 L c1 w1 hh).mono ?_
      rintro e w2 ⟨g1, rfl⟩
      exact ⟨g1, a1, L, c1, none, 0, 0, rfl, ho.lies.below g1, rfl, TmLies.nil _ _, ⟨p, rfl, (ho.below g1).weaken (by omega), World.ownsRow_nil _ _ _ _⟩⟩
    · intro k hk2
      cases hs : itsF kind args with
      | error k' => rw [hs] at hk2; cases hk2; rcases itsF_err hs with h | h <;> omega
      | ok x => rw [hs] at hk2; cases hk2
    · intro t ht
      cases hs : itsF kind args with
      | error k' => rw [hs] at ht; cases ht
      | ok l =>
        rw [hs] at ht
        cases ht
        have := (itsF_kind hs).1
        show l.length ≤ _
        omega
theorem read_equ (lb : List UInt8) (a : Option Addr) (c : Nat) (args : List (List Tok)) (hal : args.length ≤ 1100000) (sec : Int) (w : World) (hA : ArgsIn w.heap.size w a args) :
    Calls Tryz.prog 69 #[.agg #[.string (str lb), .string (str sEqu), .slice a args.length c], .int .i64 sec] w fun e w' => Below w.heap.size w w' ∧ ThOwn w.heap.size w' (equThg args) e := by
  have hro0 : ∀ w1, Below w.heap.size w w1 → Calls Tryz.prog 105 #[.string (str sEqu)] w1 fun e w2 => Below w1.heap.size w1 w2 ∧ ∃ b, w1.heap.size ≤ b ∧ e = .returned (.tuple #[.iface 232 (.pointer (some ⟨b, 0, none⟩)), .int .i64 2, .int .i64 2]) ∧ (b < w2.heap.size ∧ w2.heap[b]? = some (.cells #[.string (str []), .slice none 0 0, .int .u32 0] 234 (0, 0))) := fun w1 _ => (readerOf_equ w1).mono fun e w2 ⟨h1, b, h2, h3, h4⟩ => ⟨h1, b, h2, h3, blk_lt h4, h4⟩
  by_cases hl : args.length = 2
  · obtain ⟨x0, x1, rfl⟩ : ∃ x0 x1, args = [x0, x1] := by match args, hl with | [x, y], _ => exact ⟨x, y, rfl⟩
    have hF : equThg [x0, x1] = andStands (equF x0 x1) sec := by
      show equF x0 x1 = _
      unfold equF
      cases nameF x0 with
      | error k => rfl
      | ok s => cases parseF x1 <;> rfl
    rw [hF]
    refine readG_equation lb sEqu (by decide) a c 2 (by omega) sec w 2 2 (by omega) (by omega) _ (fun t w1 b => ∃ s y, t = ⟨3, [], s, y, 0⟩ ∧ ∃ va n vc, w1.heap[b]? = some (.cells #[.string (str s), .slice va n vc, .int .u32 y.const] 234 (0, 0)) ∧ w1.ownsRow (b + 1) 123 2 (.slice va n vc) y.terms.length (rowT y.terms)) _ hro0 ?_ ?_ ?_ ?_
    · intro w1 b h1 h2 h3 h4
      refine (equRead_any b a c x0 x1 w1 (args_low hA h1 h2 h3) h4).mono ?_
      rintro e w2 ⟨g1, g2⟩
      refine ⟨g1, ?_⟩
      cases hs : equF x0 x1 with
      | error k => rw [hs] at g2; exact g2
      | ok t => rw [hs] at g2; exact g2
    · rintro t w1 b hbg hbl ⟨s, y, rfl, va, n, vc, hh, ho⟩
      refine (said_equation b s va n vc y.const w1 hh).mono ?_
      rintro e w2 ⟨g1, rfl⟩
      have hnl := own_len ho
      subst hnl
      exact ⟨g1, none, 0, 0, va, _, vc, rfl, .inl ⟨rfl, rfl⟩, rfl, (own_tmLies ho).below g1 (Nat.le_refl _), ⟨[], rfl, ItOwn.start _ _, own_weaken (own_keptB ho g1) (by omega)⟩⟩
    · intro k hk2
      unfold equF at hk2
      split at hk2
      · rename_i h; cases hk2; rw [nameF_err h]; decide
      · split at hk2
        · rename_i h; cases hk2; rcases parseF_err h with h | h <;> omega
        · cases hk2
    · intro t ht
      unfold equF at ht
      split at ht
      · cases ht
      · split at ht
        · cases ht
        · cases ht; simp
  · have hF : equThg args = .error 20 := by
      match args, hl with
      | [], _ => rfl
      | [x], _ => rfl
      | [x, y], hl => exact absurd rfl hl
      | x :: y :: z :: r, _ => rfl
    rw [hF]
    exact readLen_equation lb sEqu (by decide) a c args.length hal sec w 2 2 (by omega) _ hro0
theorem read_glo (lb : List UInt8) (a : Option Addr) (c : Nat) (args : List (List Tok)) (hal : args.length ≤ 1100000) (sec : Int) (w : World) (hA : ArgsIn w.heap.size w a args) :
    Calls Tryz.prog 69 #[.agg #[.string (str lb), .string (str sGlobal), .slice a args.length c], .int .i64 sec] w fun e w' => Below w.heap.size w w' ∧ ThOwn w.heap.size w' (gloThg args) e := by
  have hro0 : ∀ w1, Below w.heap.size w w1 → Calls Tryz.prog 105 #[.string (str sGlobal)] w1 fun e w2 => Below w1.heap.size w1 w2 ∧ ∃ b, w1.heap.size ≤ b ∧ e = .returned (.tuple #[.iface 235 (.pointer (some ⟨b, 0, none⟩)), .int .i64 1, .int .i64 1]) ∧ (b < w2.heap.size ∧ w2.heap[b]? = some (.cells #[.string (str [])] 237 (0, 0))) := fun w1 _ => (readerOf_global w1).mono fun e w2 ⟨h1, b, h2, h3, h4⟩ => ⟨h1, b, h2, h3, blk_lt h4, h4⟩
  by_cases hl : args.length = 1
  · obtain ⟨x0, rfl⟩ : ∃ x0, args = [x0] := by match args, hl with | [x], _ => exact ⟨x, rfl⟩
    have hF : gloThg [x0] = andStands (gloF x0) sec := by
      show gloF x0 = _
      unfold gloF
      cases nameF x0 <;> rfl
    rw [hF]
    refine readG_export lb sGlobal (by decide) a c 1 (by omega) sec w 1 1 (by omega) (by omega) _ (fun t w1 b => ∃ s, t = ⟨4, [], s, linE, 0⟩ ∧ w1.heap[b]? = some (.cells #[.string (str s)] 237 (0, 0))) _ hro0 ?_ ?_ ?_ ?_
    · intro w1 b h1 h2 h3 h4
      refine (exportRead_any b a c x0 w1 (args_low hA h1 h2 h3) h4).mono ?_
      rintro e w2 ⟨g1, g2⟩
      refine ⟨g1, ?_⟩
      unfold gloF
      cases hs : nameF x0 with
      | error k => rw [hs] at g2; exact g2
      | ok s => rw [hs] at g2; exact ⟨g2.1, s, rfl, g2.2⟩
    · rintro t w1 b hbg hbl ⟨s, rfl, hh⟩
      refine (said_export b s w1 hh).mono ?_
      rintro e w2 ⟨g1, rfl⟩
      exact ⟨g1, none, 0, 0, none, 0, 0, rfl, .inl ⟨rfl, rfl⟩, rfl, TmLies.nil _ _, ThO.none _ _⟩
    · intro k hk2
      unfold gloF at hk2
      split at hk2
      · rename_i h; cases hk2; rw [nameF_err h]; decide
      · cases hk2
    · intro t ht
      unfold gloF at ht
      split at ht
      · cases ht
      · cases ht; simp
  · have hF : gloThg args = .error 20 := by
      match args, hl with
      | [], _ => rfl
      | [x], hl => exact absurd rfl hl
      | x :: y :: r, _ => rfl
    rw [hF]
    exact readLen_export lb sGlobal (by decide) a c args.length hal sec w 1 1 (by omega) _ hro0
theorem read_sec (lb : List UInt8) (a : Option Addr) (c : Nat) (args : List (List Tok)) (hal : args.length ≤ 1100000) (sec : Int) (w : World) (hA : ArgsIn w.heap.size w a args) :
    Calls Tryz.prog 69 #[.agg #[.string (str lb), .string (str sSection), .slice a args.length c], .int .i64 sec] w fun e w' => Below w.heap.size w w' ∧ ThOwn w.heap.size w' (secThg args) e := by
  have hro0 : ∀ w1, Below w.heap.size w w1 → Calls Tryz.prog 105 #[.string (str sSection)] w1 fun e w2 => Below w1.heap.size w1 w2 ∧ ∃ b, w1.heap.size ≤ b ∧ e = .returned (.tuple #[.iface 238 (.pointer (some ⟨b, 0, none⟩)), .int .i64 1, .int .i64 1]) ∧ (b < w2.heap.size ∧ w2.heap[b]? = some (.cells #[.int .i64 0] 240 (0, 0))) := fun w1 _ => (readerOf_section w1).mono fun e w2 ⟨h1, b, h2, h3, h4⟩ => ⟨h1, b, h2, h3, blk_lt h4, h4⟩
  by_cases hl : args.length = 1
  · obtain ⟨x0, rfl⟩ : ∃ x0, args = [x0] := by match args, hl with | [x], _ => exact ⟨x, rfl⟩
    have hsf : ∀ t, secF x0 = .ok t → t = ⟨5, [], [], linE, t.sec⟩ := fun t ht => by
      unfold secF at ht
      split at ht
      · cases ht; rfl
      · split at ht
        · cases ht; rfl
        · cases ht
    have hF : secThg [x0] = andStands (secF x0) sec := by
      show secF x0 = _
      cases hs : secF x0 with
      | error k => rfl
      | ok t => rw [hsf t hs]; rfl
    rw [hF]
    refine readG_segment lb sSection (by decide) a c 1 (by omega) sec w 1 1 (by omega) (by omega) _ (fun t w1 b => t = ⟨5, [], [], linE, t.sec⟩ ∧ w1.heap[b]? = some (.cells #[.int .i64 t.sec] 240 (0, 0))) _ hro0 ?_ ?_ ?_ ?_
    · intro w1 b h1 h2 h3 h4
      refine (segmentRead_any b a c x0 w1 (args_low hA h1 h2 h3) h4).mono ?_
      rintro e w2 ⟨g1, g2⟩
      refine ⟨g1, ?_⟩
      cases hs : secF x0 with
      | error k => rw [hs] at g2; exact g2
      | ok t => rw [hs] at g2; exact g2
    · rintro t w1 b hbg hbl ⟨ht, hh⟩
      refine (said_segment b t.sec w1 hh).mono ?_
      rintro e w2 ⟨g1, rfl⟩
      rw [ht]
      exact ⟨g1, none, 0, 0, none, 0, 0, rfl, .inl ⟨rfl, rfl⟩, rfl, TmLies.nil _ _, ThO.none _ _⟩
    · intro k hk2
      unfold secF at hk2
      split at hk2
      · cases hk2
      · split at hk2
        · cases hk2
        · cases hk2; decide
    · intro t ht
      rw [hsf t ht]
      simp
  · have hF : secThg args = .error 20 := by
      match args, hl with
      | [], _ => rfl
      | [x], hl => exact absurd rfl hl
      | x :: y :: r, _ => rfl
    rw [hF]
    exact readLen_segment lb sSection (by decide) a c args.length hal sec w 1 1 (by omega) _ hro0
theorem read_any (lb s : List UInt8) (a : Option Addr) (c : Nat) (args : List (List Tok)) (hal : args.length ≤ 1100000) (hfew : FewA args) (sec : Int) (w : World) (hA : ArgsIn w.heap.size w a args) (hT : Tab w) :
    Calls Tryz.prog 69 #[.agg #[.string (str lb), .string (str s), .slice a args.length c], .int .i64 sec] w fun e w' => Below w.heap.size w w' ∧ ThOwn w.heap.size w' (readF s args sec) e := by
  unfold readF
  by_cases h0 : s = []
  · rw [if_pos h0, h0]; exact read_nil lb a args.length c sec w
  rw [if_neg h0]
  by_cases h1 : s = sAlign
  · rw [if_pos h1, h1]; exact read_sing 3 (by decide) 1 (by omega) lb sAlign (by decide) readerOf_align a c args hal sec w hA
  rw [if_neg h1]
  by_cases h2 : s = sPool
  · rw [if_pos h2, h2]; exact read_sing 4 (by decide) 0 (by omega) lb sPool (by decide) readerOf_pool a c args hal sec w hA
  rw [if_neg h2]
  by_cases h3 : s = sByte
  · rw [if_pos h3, h3]; exact read_sev 5 (.inl rfl) lb sByte (by decide) readerOf_byte a c args hal hfew sec w hA
  rw [if_neg h3]
  by_cases h4 : s = sWord
  · rw [if_pos h4, h4]; exact read_sev 6 (.inr rfl) lb sWord (by decide) readerOf_word a c args hal hfew sec w hA
  rw [if_neg h4]
  by_cases h5 : s = sSpace
  · rw [if_pos h5, h5]; exact read_sing 7 (by decide) 1 (by omega) lb sSpace (by decide) readerOf_space a c args hal sec w hA
  rw [if_neg h5]
  by_cases h6 : s = sEqu
  · rw [if_pos h6, h6]; exact read_equ lb a c args hal sec w hA
  rw [if_neg h6]
  by_cases h7 : s = sGlobal
  · rw [if_pos h7, h7]; exact read_glo lb a c args hal sec w hA
  rw [if_neg h7]
  by_cases h8 : s = sSection
  · rw [if_pos h8, h8]; exact read_sec lb a c args hal sec w hA
  rw [if_neg h8]
  have hd : s ∉ dirs := by
    simp only [dirs, List.mem_cons, List.not_mem_nil, or_false, not_or]
    exact ⟨h1, h2, h3, h4, h5, h6, h7, h8⟩
  by_cases h9 : findN s = 0
  · rw [if_pos h9]; exact read_none lb s h0 hd h9 a args.length c sec w hT
  rw [if_neg h9]
  have hr := findN_range s
  exact read_op lb s hd (by omega) (by omega) h0 a c args hal sec w hA hT
end Go.Proofs.YtogkchgjpflmjaaGreatDoor

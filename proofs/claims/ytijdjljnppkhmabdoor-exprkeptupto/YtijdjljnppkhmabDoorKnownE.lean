/- The law's known. -/
import Derived.Test.YtijdjljnppkhmabDoorReadW
import Derived.Test.YtijdjljnppkhmabDoorEvalM
import Derived.Test.YtijdjljnppkhmabDoorValueN
import Derived.Test.YtijdjljnppkhmabDoorTextT
import Derived.Maps.Views
namespace Go.Proofs.YtijdjljnppkhmabDoor
open Go.ChangeShapes Go.WideShapes Go.ChangeAt Go.RowKit Go.WideMaps Go.Maps
set_option linter.unusedVariables false
set_option maxRecDepth 100000

theorem readF_I (f : Nat) (s : List UInt8) (h : s.length ≤ f) : readF s = readI f s := by
  unfold readF readI
  rw [scan_eq f s 0 h]
  cases scanF f s 0 with
  | ok ts => exact parseF_I ts
  | error p => exact parseF_I []

theorem wpList_insert_in {H : Type} {P : Program} {w : World} {ops : Array Oper} {rest : List Oper} {o : Oper} {a : Act} {Q : Exit → Act → World → Prop} (hg : o.guard = none) (m x v : Operand) (t : TypeId) (hop : o.op = Op.insert t m x v)
    (k e : TypeId) (K : Keyed P k) (ht : P.underlying t = some (.map k e)) (R : Value → Option (DataW H × List MemPlace)) (b n : Nat) (D : DataW H)
    (hm : a.eval m = .map (some b)) (hown : w.ownsMap P k R b n D) (hn : n < maxLen) (key val : Value) (kl : Lit) (hx : a.eval x = key) (hv : a.eval v = val) (hkey : keyOf P k key = some kl)
    (d : DataW H) (ps : List MemPlace) (hval : R val = some (d, ps))
    (hK : ∀ w', w'.ownsMap P k R b (n + 1) (D.put kl d) → w.mapTurned w' b → wpList P ops Q rest (a.put o.dst undef) w') :
    wpList P ops Q (o :: rest) a w := by
  refine wpList_plain hg fun K' hK' => ?_
  obtain ⟨w', hrun, r1, r2⟩ := hown.store K ht hn hkey hval
  unfold Oper.wp
  simp [execOp, hop, hm, hx, hv, hrun, Result.andThen]
  exact hK' _ _ (hK w' r1 r2)

/-- two names and their values -/
def F2 (s : List UInt8) : Option Int := if s = [98] then some 1 else if s = [97] then some 10 else none
def D2 : DataW Unit := ((DataW.map []).put (.string [97]) (.lit (.int .u32 10))).put (.string [98]) (.lit (.int .u32 1))

theorem D2_is (s : List UInt8) : has D2 (.string s) = (F2 s).isSome ∧ D2.atKey (.string s) (.lit (.int .u32 0)) = .lit (.int .u32 ((F2 s).getD 0)) := by
  have i0 : IsMap (.map [] : DataW Unit) := isMap_empty
  have i1 := i0.put (.string [97]) (.lit (.int .u32 10))
  unfold D2 F2
  by_cases h1 : s = [98]
  · subst h1
    exact ⟨by rw [has_put_same i1 (show WideAt.IsKeyLit (.string [98]) from trivial)]; rfl, by rw [atKey_put_same i1 (show WideAt.IsKeyLit (.string [98]) from trivial)]; rfl⟩
  · have n1 : (Lit.string s) ≠ .string [98] := fun e => h1 (by injection e)
    rw [has_put_other n1, atKey_put_other n1, if_neg h1]
    by_cases h2 : s = [97]
    · subst h2
      exact ⟨by rw [has_put_same i0 (show WideAt.IsKeyLit (.string [97]) from trivial)]; rfl, by rw [atKey_put_same i0 (show WideAt.IsKeyLit (.string [97]) from trivial)]; rfl⟩
    · have n2 : (Lit.string s) ≠ .string [97] := fun e => h2 (by injection e)
      rw [has_put_other n2, atKey_put_other n2, if_neg h2]
      exact ⟨rfl, rfl⟩

theorem map2 {w : World} {b n : Nat} (h : w.ownsMap Tryd.prog 9 (plainElem Tryd.prog 23) b n D2) : MapIs w b n F2 := ⟨D2, h, h.isMap, D2_is⟩

theorem map_new (w : World) (b : Nat) (h : w.heap.size = b) : (w.alloc (.map #[] 0)).ownsMap Tryd.prog 9 (plainElem (H := Unit) Tryd.prog 23) b 0 (.map []) := by
  rw [← h]
  exact World.ownsMap_made w _ _ _

/-- read, of a closed text -/
theorem read_is (s : ByteArray) (hs : s.size ≤ 100) (R : Except Int Lin) (h : readI 100 (bs s) = R) (w : World) :
    Calls Tryd.prog 18 #[.string s] w fun e w' => Below w.heap.size w w' ∧ ∃ a c, e = .returned (.tuple #[linV (.slice a (outLin R).terms.length c) (outLin R).const, .int .i64 (outErr R)]) ∧ w'.ownsRow w.heap.size 30 2 (.slice a (outLin R).terms.length c) (outLin R).terms.length (rowT (outLin R).terms) :=
  (read_any s (by omega) w).mono fun e w' hx => by
    obtain ⟨h1, a, n, c, h2, h3⟩ := hx
    rw [readF_I 100 (bs s) (by rw [bs_length]; exact hs), h] at h2 h3
    obtain ⟨a', c', he⟩ := own_slice h3
    injection he with he1 he2 he3
    subst he1 he2 he3
    exact ⟨h1, _, _, h2, h3⟩

def ab : List Tm := [⟨[97], 1⟩, ⟨[98], 1⟩]
theorem ab_ok : ∀ t ∈ ab, OkT t := by
  intro t ht
  simp [ab] at ht
  rcases ht with rfl | rfl <;> exact ⟨by decide, by decide, by decide⟩
theorem dec_big : Lib.decDigits 4294967290 = [52, 50, 57, 52, 57, 54, 55, 50, 57, 48] := by
  iterate 10 rw [Lib.decDigits]
  simp
theorem text_ab : str (textF ab 4294967290) = ⟨#[97, 43, 98, 43, 52, 50, 57, 52, 57, 54, 55, 50, 57, 48]⟩ := by
  unfold textF
  rw [if_pos (.inl (by decide)), show (4294967290 : Int).toNat = 4294967290 from rfl, dec_big]
  rfl
theorem text_0 : str (textF [] 0) = ⟨#[48]⟩ := by
  unfold textF
  rw [if_pos (.inr rfl), show (0 : Int).toNat = 0 from rfl, Lib.decDigits]
  rfl
theorem text_a : str (textF [⟨[97], 1⟩] 0) = ⟨#[97]⟩ := by
  unfold textF
  rw [if_neg (by simp)]
  rfl

set_option maxHeartbeats 2000000 in
theorem known_any (w : World) (hP : Pow w) :
    Calls Tryd.prog 5 #[] w fun e w' => Below w.heap.size w w' ∧ e = .returned (.bool true) := by
  have hPH := Hid.intro hP
  clear hP
  have hR : Hid (Calls Tryd.prog 18 #[.string ⟨#[50, 42, 40, 97, 32, 45, 32, 51, 41, 32, 43, 32, 98, 32, 45, 32, 97]⟩] w fun e w' => Below w.heap.size w w' ∧ ∃ a c, e = .returned (.tuple #[linV (.slice a 2 c) 4294967290, .int .i64 0]) ∧ w'.ownsRow w.heap.size 30 2 (.slice a 2 c) 2 (rowT ab)) :=
    read_is ⟨#[50, 42, 40, 97, 32, 45, 32, 51, 41, 32, 43, 32, 98, 32, 45, 32, 97]⟩ (by decide) _ ev0 w
  have hV : Hid (∀ (a1 : Option Addr) (c1 b : Nat) (w5 : World), TmLies w5 a1 ab → MapIs w5 b 2 F2 → Calls Tryd.prog 19 #[linV (.slice a1 2 c1) 4294967290, .map (some b)] w5 fun e w' => Below w5.heap.size w5 w' ∧ e = .returned (.tuple #[.int .u32 5, .bool true])) :=
    fun a1 c1 b w5 h hm => value_any a1 c1 ab 4294967290 b 2 F2 w5 h (by decide) (by decide) hm
  have hX : Hid (∀ (a1 : Option Addr) (c1 : Nat) (w6 : World), TmLies w6 a1 ab → Pow w6 → Calls Tryd.prog 20 #[linV (.slice a1 2 c1) 4294967290] w6 fun e w' => Below w6.heap.size w6 w' ∧ e = .returned (.string ⟨#[97, 43, 98, 43, 52, 50, 57, 52, 57, 54, 55, 50, 57, 48]⟩)) :=
    fun a1 c1 w6 h hp => by
      have := text_any a1 c1 ab 4294967290 w6 h (by decide) ab_ok (by decide) (by decide) hp
      rw [text_ab] at this
      exact this
  have hmk : ∀ wx : World, (Instr.makeMap 54 none).run Tryd.prog wx = .ok (.map (some wx.heap.size)) (wx.alloc (.map #[] 0)) := fun wx => run_makeMap 54 wx
  have hk1 : keyOf Tryd.prog 9 (.string ⟨#[97]⟩) = some (.string [97]) := keyOf_string_mk Tryd.underlying9 (by decide)
  have hk2 : keyOf Tryd.prog 9 (.string ⟨#[98]⟩) = some (.string [98]) := keyOf_string_mk Tryd.underlying9 (by decide)
  have he1 : plainElem (H := Unit) Tryd.prog 23 (.int .u32 10) = some (.lit (.int .u32 10), []) := plainElem_int Tryd.underlying23 (by decide)
  have he2 : plainElem (H := Unit) Tryd.prog 23 (.int .u32 1) = some (.lit (.int .u32 1), []) := plainElem_int Tryd.underlying23 (by decide)
  have hk1 := Hid.intro hk1
  have hk2 := Hid.intro hk2
  have he1 := Hid.intro he1
  have he2 := Hid.intro he2
  go_enter Tryd.func5, Tryd.ntmps5
  go_wp2_with (first
    | (go_at_call 18; (with_reducible refine (hR.out).mono ?_); rintro e w1 ⟨hb1, a1, c1, rfl, hown⟩; replace hown := Hid.intro hown; have hs1 := hb1.size; have hlie := Hid.intro (own_tmLies hown.out); have hp1 := Hid.intro (hPH.out.below hb1); have t1 := Hid.intro (two_new w1 25 (.slice a1 2 c1) (.int .u32 4294967290)); have hmade := Hid.intro (map_new (w1.alloc (.cells #[.slice a1 2 c1, .int .u32 4294967290] 25)) (w1.heap.size + 1) (by simp)))
    | (refine wpList_insert_in rfl (.tmp 11) (.const (.string ⟨#[97]⟩)) (.const (.int .u32 10)) 54 rfl 9 23 lawS Tryd.underlying54 (plainElem (H := Unit) Tryd.prog 23) (w1.heap.size + 1) 0 (.map []) rfl hmade.out (by decide) _ _ _ rfl rfl hk1.out _ _ he1.out ?_; intro w4 hm4 ht4)
    | (refine wpList_insert_in rfl (.tmp 11) (.const (.string ⟨#[98]⟩)) (.const (.int .u32 1)) 54 rfl 9 23 lawS Tryd.underlying54 (plainElem (H := Unit) Tryd.prog 23) (w1.heap.size + 1) 1 _ rfl hm4 (by decide) _ _ _ rfl rfl hk2.out _ _ he2.out ?_; intro w5 hm5 ht5; have hg5 := Hid.intro (ht4.trans ht5).grown; have hb5 := (Hid.intro (((below_alloc w1 (.cells #[.slice a1 2 c1, .int .u32 4294967290] 25)).alloc (by simp) _).grown hg5.out (by simp; omega) (fun k hk => by cases hk; omega))); have q5 := Hid.intro (((t1.out.alloc _).grown hg5.out (by simp))); obtain ⟨_, z0, z1, _, _⟩ := q5.out)
    | (go_at_call 19; (with_reducible refine (hV.out _ _ _ _ (hlie.out.below hb5.out (Nat.le_refl _)) (map2 hm5)).mono ?_); rintro e w6 ⟨hb6, rfl⟩; have q6 := Hid.intro (q5.out.below hb6 (by have := hb5.out.size; have := hg5.out.size; simp at this; omega)); obtain ⟨_, y0, y1, _, _⟩ := q6.out)
    | (go_at_call 20; (with_reducible refine (hX.out _ _ _ ((hlie.out.below hb5.out (Nat.le_refl _)).below hb6 (Nat.le_refl _)) ((hp1.out.below hb5.out).below hb6)).mono ?_); rintro e w7 ⟨hb7, rfl⟩))
  go_ret
  have h5 := hb5.out.size
  have h6 := hb6.size
  exact ⟨((hb1.trans (hb5.out.mono hs1)).trans (hb6.mono (by omega))).trans (hb7.mono (by omega)), rfl⟩
end Go.Proofs.YtijdjljnppkhmabDoor

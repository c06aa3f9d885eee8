/- Terms are sorted by name. -/
import Derived.Test.YtogkchgjpflmjaaGreatDoorTmMem
import Derived.Shelf.SlGeneric
import Derived.Shelf.SlSortCmp.WholeK
import Derived.Shelf.Slices.Turned
import Derived.Test.YtogkchgjpflmjaaGreatDoorProg
import Derived.Shelf.SlSortCmp.NoneTotal
/- expr.Of, Named, Times. -/
namespace Go.Proofs.YtogkchgjpflmjaaGreatDoor
open Go.ChangeShapes Go.WideShapes Go.ChangeAt Go.RowKit
set_option linter.unusedVariables false
set_option maxRecDepth 100000
theorem of_any (n : Int) (w : World) :
    Calls Tryz.prog 248 #[.int .u32 n] w fun e w' => e = .returned (linV (.slice none 0 0) n) ∧ Below w.heap.size w w' := by
  go_enter Tryz.func248, Tryz.ntmps248
  go_wp2
  obtain ⟨hh, z0, z1, _, _⟩ := two_new w 89 (.slice none 0 0) (.int .u32 n)
  have hb := below_alloc w (.cells #[.slice none 0 0, .int .u32 n] 89)
  generalize w.alloc (.cells #[.slice none 0 0, .int .u32 n] 89) = w1 at *
  refine bodyPost_ret (by simp [results, Tryz.results248, go_sem, z0, z1]; try rfl) rfl ?_
  exact ⟨rfl, hb⟩
theorem named_any (s : ByteArray) (hs : s.size ≤ 1100000) (w : World) :
    Calls Tryz.prog 249 #[.string s] w fun e w' => Below w.heap.size w w' ∧ ∃ v, e = .returned (linV v 0) ∧ w'.ownsRow w.heap.size 123 2 v 1 [.string s, .int .u32 1] := by
  go_enter Tryz.func249, Tryz.ntmps249
  go_wp2_with (go_at_call 39; refine (clone_any _ _ (by omega)).mono ?_; rintro e w' ⟨rfl, hb⟩; have h2 := two_below hb; have k0 := h2.a0; have k1 := h2.a1; have k2 := h2.b0; have k3 := h2.b1; replace h2 := Hid.intro h2)
  have hlt := alloc_lt hb
  have hown := own_new w' (w.heap.size + 1) (by omega) #[.string s, .int .u32 1] 1 123 2 rfl (by omega) (by omega)
  obtain ⟨s1, s2⟩ := two_set (h2.out.alloc (.cells #[.string s, .int .u32 1] 123)).heap rfl (.slice (some ⟨w'.heap.size, 0, none⟩) 1 1) (.int .u32 0)
  have hb2 : Below w.heap.size w (((w'.alloc (.cells #[.string s, .int .u32 1] 123)).setCell ⟨w.heap.size, 0, none⟩ (.slice (some ⟨w'.heap.size, 0, none⟩) 1 1)).setCell ⟨w.heap.size, 1, none⟩ (.int .u32 0)) :=
    ((one_below hb).alloc (by omega) _).grown s2 (by simp; omega) (fun k hk => by cases hk; exact Nat.le_refl _)
  generalize (((w'.alloc (.cells #[.string s, .int .u32 1] 123)).setCell ⟨w.heap.size, 0, none⟩ (.slice (some ⟨w'.heap.size, 0, none⟩) 1 1)).setCell ⟨w.heap.size, 1, none⟩ (.int .u32 0)) = w3 at s1 s2 hb2 ⊢
  obtain ⟨_, z0, z1, _, _⟩ := s1
  refine bodyPost_ret (by simp [results, Tryz.results249, go_sem, z0, z1]; try rfl) rfl ?_
  exact ⟨hb2, _, rfl, own_weaken (own_low hown s2 (by omega)) (by omega)⟩
structure TSt (w : World) (ts : List Tm) (n k : Int) (i : Nat) (v : Value) (wr : World) : Prop where
  le : i ≤ ts.length
  res : Two wr (w.heap.size + 1) 89 (.slice none 0 0) (.int .u32 0)
  out : Two wr (w.heap.size + 1 + 1) 89 v (.int .u32 (k * n % 4294967296))
  own : wr.ownsRow (w.heap.size + 1 + 1 + 1) 123 2 v (timesT (ts.take i) n).length (rowT (timesT (ts.take i) n))
  bel : Below w.heap.size w wr
  size : w.heap.size + 1 + 1 + 1 ≤ wr.heap.size
theorem take_at {α : Type} (ts : List α) (i : Nat) (t : α) (h : ts[i]? = some t) : ts.take (i + 1) = ts.take i ++ [t] := by
  obtain ⟨hi, he⟩ := List.getElem?_eq_some_iff.1 h
  rw [List.take_add_one, h]
  rfl
theorem times_next {w : World} {ts : List Tm} {n k : Int} {i L c1 : Nat} {a1 : Option Addr} {wr : World} (h : TSt w ts n k i (.slice a1 L c1) wr) (t : Tm) (ht : ts[i]? = some t) :
    (t.coef * n % 4294967296 = 0 → ∀ o, TSt w ts n k (i + 1) (.slice a1 L c1) (wr.alloc o)) ∧
    (t.coef * n % 4294967296 ≠ 0 → ∀ o o2 v2 w3 w4, w3.ownsRow (w.heap.size + 1 + 1 + 1) 123 2 v2 (L + 1) (rowT (timesT (ts.take i) n) ++ [.string (str t.name), .int .u32 (t.coef * n % 4294967296)]) → ((wr.alloc o).alloc o2).grownBy w3 (Value.slice a1 L c1).ownBlock → w4 = w3.setCell ⟨w.heap.size + 1 + 1, 0, none⟩ v2 → TSt w ts n k (i + 1) v2 w4) := by
  have hi := (List.getElem?_eq_some_iff.1 ht).1
  have hsz := h.size
  have htk : timesT (ts.take (i + 1)) n = timesT (ts.take i) n ++ emit t.name (t.coef * n % 4294967296) [] := by
    rw [take_at ts i t ht, timesT_append, timesT_cons, timesT_nil]
  constructor
  · intro hz o
    refine ⟨by omega, h.res.alloc o, h.out.alloc o, ?_, h.bel.alloc (by omega) o, by simp; omega⟩
    rw [htk, emit, if_pos hz, List.append_nil]
    exact h.own.alloc o
  · intro hz o o2 v2 w3 w4 hown hg hw4
    subst hw4
    have hnb : (Value.slice a1 L c1).ownBlock ≠ some (w.heap.size + 1) := fun e => by have := (h.own.lt _ e).1; omega
    have hnb2 : (Value.slice a1 L c1).ownBlock ≠ some (w.heap.size + 1 + 1) := fun e => by have := (h.own.lt _ e).1; omega
    have hr := ((h.res.alloc o).alloc o2).grown hg hnb
    have ho := ((h.out.alloc o).alloc o2).grown hg hnb2
    obtain ⟨s1, s2⟩ := two_put ho v2
    have hs3 := hg.size
    simp at hs3
    refine ⟨by omega, hr.grown s2 (by simp), s1, ?_, ?_, ?_⟩
    · rw [htk, emit, if_neg hz, rowT_push, List.length_append]
      refine own_low ?_ s2 (by omega)
      have hL : (timesT (ts.take i) n).length = L := by
        have h1 := h.own.1
        have h2 := own_slice h.own
        obtain ⟨a', c', h2⟩ := h2
        injection h2 with _ h2 _
        exact h2.symm
      rw [hL]
      exact hown
    · refine Below.grown ?_ s2 (by omega) (fun j hj => by cases hj; omega)
      exact ((h.bel.alloc (by omega) o).alloc (by simp; omega) o2).grown hg (by simp; omega) (fun j hj => by have := (h.own.lt _ hj).1; omega)
    · have := s2.size
      omega
set_option maxHeartbeats 2000000 in
theorem times_any (a : Option Addr) (c : Nat) (ts : List Tm) (k n : Int) (hl : ts.length ≤ 4400000) (w : World) (hT : TmLies w a ts) :
    Calls Tryz.prog 236 #[linV (.slice a ts.length c) k, .int .u32 n] w fun e w' => Below w.heap.size w w' ∧ ∃ v, e = .returned (linV v (k * n % 4294967296)) ∧ w'.ownsRow w.heap.size 123 2 v (timesT ts n).length (rowT (timesT ts n)) := by
  obtain ⟨n0, hn0⟩ : ∃ n0, n0 = ts.length := ⟨_, rfl⟩
  rw [← hn0] at hl ⊢
  have hTH := Hid.intro hT
  have hnH := Hid.intro hn0
  clear hT hn0
  obtain ⟨i0, hi, hz0, hz1, hz2⟩ := info_parts Tryz.info123
  go_enter Tryz.func236, Tryz.ntmps236
  go_wp2
  go_loopw [16] (fun vi wr => ∃ (i : Nat) (v : Value), vi = .int .i64 (i : Int) ∧ Hid (TSt w ts n k i v wr)) (fun vi _ => n0 - (intOf vi).toNat)
  case atStart =>
    refine ⟨0, .slice none 0 0, rfl, ⟨Nat.zero_le _, ?_, ?_, World.ownsRow_nil _ _ _ _, ?_, by simp⟩⟩
    · have := (two_new (w.alloc (.cells #[.slice a n0 c, .int .u32 k] 89)) 89 (.slice none 0 0) (.int .u32 0)).alloc (.cells #[.slice none 0 0, .int .u32 (k * n % 4294967296)] 89)
      simpa using this
    · have := two_new ((w.alloc (.cells #[.slice a n0 c, .int .u32 k] 89)).alloc (.cells #[.slice none 0 0, .int .u32 0] 89)) 89 (.slice none 0 0) (.int .u32 (k * n % 4294967296))
      simpa using this
    · exact (((below_alloc w _).alloc (by simp) _).alloc (by simp; omega) _)
  case round =>
    obtain ⟨i, v, rfl, hS⟩ := hrel
    have hle := hS.out.le
    rw [← hnH.out] at hle
    obtain ⟨a1, c1, rfl⟩ := own_slice hS.out.own
    obtain ⟨L, hL⟩ : ∃ L, L = (timesT (ts.take i) n).length := ⟨_, rfl⟩
    have hown := hS.out.own
    rw [← hL] at hown hS
    have hLl : L ≤ 4400000 := by
      rw [hL]
      have := times_len (ts.take i) n
      rw [List.length_take] at this
      omega
    have hownH := Hid.intro hown
    have hLH := Hid.intro hL
    clear hown hL
    have hsz := hS.out.size
    by_cases hlt : i < n0
    · obtain ⟨t, ht⟩ : ∃ t, ts[i]? = some t := ⟨ts[i]'(by rw [← hnH.out]; exact hlt), List.getElem?_eq_getElem _⟩
      have htH := Hid.intro ht
      clear ht
      rcases hTH.out with hx | ⟨g, o, rfl, hg, hT⟩
      · rw [hx] at hnH; have := hnH.out; simp at this; omega
      have hgr : g < wr.heap.size := Nat.lt_of_lt_of_le hg hS.out.bel.size
      obtain ⟨q0, q1⟩ := (hT i t htH.out).below hS.out.bel hg
      clear hT
      have hnext := Hid.intro (times_next hS.out t htH.out)
      obtain ⟨oh, o0, o1, of0, of1⟩ := hS.out.out
      have ho := Hid.intro (two_of oh)
      have oa0 := ho.out.a0
      have ob0 := ho.out.b0
      clear oh
      by_cases hz : t.coef * n % 4294967296 = 0
      · have hz' : (t.coef * n % 4294967296 != 0) = false := by simp [hz]
        go_wp2
        all_goals first | omega | skip
        go_roundw
        case rel => exact ⟨i + 1, .slice a1 L c1, by go_num, Hid.intro (hnext.out.1 hz _)⟩
        case measure => simp [intOf]; omega
      · have hz' : (t.coef * n % 4294967296 != 0) = true := by simp [hz]
        go_wp2_with (at_builtin; go_must (refine wpList_append_own_wide _ rfl (.tmp 29) (.tmp 31) 86 rfl (w.heap.size + 1 + 1 + 1) 123 i0 (.agg #[.string ⟨#[]⟩, .int .u32 0]) 2 24 Tryz.underlying86 hi hz0 hz1 hz2 rfl (by decide) (.slice a1 L c1) L _ rfl ((hownH.out.alloc _).alloc _) ⟨wr.heap.size + 1, 0, none⟩ 1 1 [.string (str t.name), .int .u32 (t.coef * n % 4294967296)] rfl rfl (cells_new2 _ _ _ _) (by simp [Value.oneCell']) (by unfold maxLen; omega) (by omega) (by simp; omega) ?_; intro v2 w3 hown3 hgrow3 _; obtain ⟨a2, c2, rfl⟩ := own_slice hown3; obtain ⟨_, p0, p1, pf0, pf1⟩ := (((ho.out.alloc _).alloc _).grown hgrow3 (fun e => by have := (hownH.out.lt _ e).1; omega))))
        all_goals first | omega | skip
        go_roundw
        case rel => exact ⟨i + 1, .slice a2 (L + 1) c2, by go_num, Hid.intro (hnext.out.2 hz _ _ _ w3 _ hown3 hgrow3 rfl)⟩
        case measure => simp [intOf]; omega
    · obtain ⟨oh, o0, o1, of0, of1⟩ := hS.out.out
      obtain ⟨rh, r0, r1, rf0, rf1⟩ := hS.out.res
      have rhH := Hid.intro rh
      clear rh oh
      go_wp2
      all_goals first | omega | skip
      have hin : i = ts.length := by rw [← hnH.out]; omega
      obtain ⟨s1, s2⟩ := two_set rhH.out rfl (.slice a1 L c1) (.int .u32 (k * n % 4294967296))
      have hb2 : Below w.heap.size w ((wr.setCell ⟨w.heap.size + 1, 0, none⟩ (.slice a1 L c1)).setCell ⟨w.heap.size + 1, 1, none⟩ (.int .u32 (k * n % 4294967296))) := hS.out.bel.grown s2 (by omega) (fun j hj => by cases hj; omega)
      generalize ((wr.setCell ⟨w.heap.size + 1, 0, none⟩ (.slice a1 L c1)).setCell ⟨w.heap.size + 1, 1, none⟩ (.int .u32 (k * n % 4294967296))) = w3 at s1 s2 hb2 ⊢
      obtain ⟨_, z0, z1, _, _⟩ := s1
      refine bodyPost_ret (by simp [results, Tryz.results236, go_sem, z0, z1]; try rfl) rfl ?_
      refine ⟨hb2, _, rfl, ?_⟩
      have hown := own_weaken (own_low hS.out.own s2 (by omega)) (B := w.heap.size) (by omega)
      rw [hin, List.take_length] at hown
      exact hown
end Go.Proofs.YtogkchgjpflmjaaGreatDoor
/- The library's slices.SortFunc and slices.Equal at terms, slices.Contains at texts: the shelf's layings at this program's numbers. -/
namespace Go.Proofs
open Go.Shelf
def Tryz.laysSort_ren : Go.Shelf.Ren := ⟨fun | 6 => 241 | 15 => 109 | 14 => 246 | 28 => 142 | 29 => 143 | 20 => 250 | 21 => 251 | 22 => 252 | 23 => 253 | 24 => 254 | 25 => 255 | 26 => 256 | 27 => 257 | 46 => 259 | 47 => 161 | 48 => 162 | 49 => 260 | 50 => 261 | 57 => 262 | n => n, fun | 22 => 86 | 24 => 123 | 25 => 340 | 3 => 3 | 39 => 125 | 0 => 0 | 53 => 87 | 55 => 224 | 4 => 4 | 46 => 247 | 45 => 246 | 50 => 76 | 5 => 5 | 9 => 9 | 66 => 266 | 70 => 270 | 76 => 286 | 77 => 273 | n => n, fun | n => n⟩
theorem Tryz.laysSort : Go.Proofs.SlLaysF0.n6 Tryz.prog Tryz.laysSort_ren := {
  mixed := by kernel_rfl
  f6 := ⟨Tryz.f241.name, by decide, Tryz.func241.trans (congrArg some (by kernel_rfl))⟩
  f14 := ⟨Tryz.f246.name, by decide, Tryz.func246.trans (congrArg some (by kernel_rfl))⟩
  f15 := Tryz.func109.trans (congrArg some (by kernel_rfl))
  f20 := ⟨Tryz.f250.name, by decide, Tryz.func250.trans (congrArg some (by kernel_rfl))⟩
  f21 := ⟨Tryz.f251.name, by decide, Tryz.func251.trans (congrArg some (by kernel_rfl))⟩
  f22 := ⟨Tryz.f252.name, by decide, Tryz.func252.trans (congrArg some (by kernel_rfl))⟩
  f23 := ⟨Tryz.f253.name, by decide, Tryz.func253.trans (congrArg some (by kernel_rfl))⟩
  f24 := ⟨Tryz.f254.name, by decide, Tryz.func254.trans (congrArg some (by kernel_rfl))⟩
  f25 := ⟨Tryz.f255.name, by decide, Tryz.func255.trans (congrArg some (by kernel_rfl))⟩
  f26 := ⟨Tryz.f256.name, by decide, Tryz.func256.trans (congrArg some (by kernel_rfl))⟩
  f27 := ⟨Tryz.f257.name, by decide, Tryz.func257.trans (congrArg some (by kernel_rfl))⟩
  f28 := Tryz.func142.trans (congrArg some (by kernel_rfl))
  f29 := Tryz.func143.trans (congrArg some (by kernel_rfl))
  f46 := ⟨Tryz.f259.name, by decide, Tryz.func259.trans (congrArg some (by kernel_rfl))⟩
  f47 := Tryz.func161.trans (congrArg some (by kernel_rfl))
  f48 := Tryz.func162.trans (congrArg some (by kernel_rfl))
  f49 := ⟨Tryz.f260.name, by decide, Tryz.func260.trans (congrArg some (by kernel_rfl))⟩
  f50 := ⟨Tryz.f261.name, by decide, Tryz.func261.trans (congrArg some (by kernel_rfl))⟩
  f57 := ⟨Tryz.f262.name, by decide, Tryz.func262.trans (congrArg some (by kernel_rfl))⟩
  t0 := Tryz.underlying0
  a0 := Tryz.isAgg0
  z0 := Tryz.sizeOf0
  v0 := Tryz.zeroValue0
  t3 := Tryz.underlying3
  a3 := Tryz.isAgg3
  z3 := Tryz.sizeOf3
  v3 := Tryz.zeroValue3
  t4 := Tryz.underlying4
  a4 := Tryz.isAgg4
  z4 := Tryz.sizeOf4
  v4 := Tryz.zeroValue4
  t5 := Tryz.underlying5
  a5 := Tryz.isAgg5
  z5 := Tryz.sizeOf5
  v5 := Tryz.zeroValue5
  t9 := Tryz.underlying9
  a9 := Tryz.isAgg9
  z9 := Tryz.sizeOf9
  v9 := Tryz.zeroValue9
  t22 := Tryz.underlying86
  a22 := Tryz.isAgg86
  z22 := Tryz.sizeOf86
  v22 := Tryz.zeroValue86
  t25 := Tryz.underlying340
  a25 := Tryz.isAgg340
  z25 := Tryz.sizeOf340
  v25 := Tryz.zeroValue340
  t39 := Tryz.underlying125
  a39 := Tryz.isAgg125
  z39 := Tryz.sizeOf125
  v39 := Tryz.zeroValue125
  t45 := Tryz.underlying246
  a45 := Tryz.isAgg246
  z45 := Tryz.sizeOf246
  v45 := Tryz.zeroValue246
  t46 := Tryz.underlying247
  a46 := Tryz.isAgg247
  z46 := Tryz.sizeOf247
  v46 := Tryz.zeroValue247
  t50 := Tryz.underlying76
  a50 := Tryz.isAgg76
  z50 := Tryz.sizeOf76
  v50 := Tryz.zeroValue76
  t53 := Tryz.underlying87
  a53 := Tryz.isAgg87
  z53 := Tryz.sizeOf87
  v53 := Tryz.zeroValue87
  t55 := Tryz.underlying224
  a55 := Tryz.isAgg224
  z55 := Tryz.sizeOf224
  v55 := Tryz.zeroValue224
  t66 := Tryz.underlying266
  a66 := Tryz.isAgg266
  z66 := Tryz.sizeOf266
  v66 := Tryz.zeroValue266
  t70 := Tryz.underlying270
  a70 := Tryz.isAgg270
  z70 := Tryz.sizeOf270
  v70 := Tryz.zeroValue270
  t76 := Tryz.underlying286
  a76 := Tryz.isAgg286
  z76 := Tryz.sizeOf286
  v76 := Tryz.zeroValue286
  t77 := Tryz.underlying273
  a77 := Tryz.isAgg273
  z77 := Tryz.sizeOf273
  v77 := Tryz.zeroValue273 }
def Tryz.laysContains_ren : Go.Shelf.Ren := ⟨fun | 110 => 238 | 109 => 244 | n => n, fun | 31 => 24 | 9 => 9 | 4 => 4 | 3 => 3 | 0 => 0 | n => n, fun | n => n⟩
theorem Tryz.laysContains : Go.Proofs.Lays.n110 Tryz.prog Tryz.laysContains_ren := {
  mixed := by kernel_rfl
  f109 := Tryz.func244.trans (congrArg some (by kernel_rfl))
  f110 := Tryz.func238.trans (congrArg some (by kernel_rfl))
  t0 := Tryz.underlying0
  a0 := Tryz.isAgg0
  z0 := Tryz.sizeOf0
  v0 := Tryz.zeroValue0
  t3 := Tryz.underlying3
  a3 := Tryz.isAgg3
  z3 := Tryz.sizeOf3
  v3 := Tryz.zeroValue3
  t4 := Tryz.underlying4
  a4 := Tryz.isAgg4
  z4 := Tryz.sizeOf4
  v4 := Tryz.zeroValue4
  t9 := Tryz.underlying9
  a9 := Tryz.isAgg9
  z9 := Tryz.sizeOf9
  v9 := Tryz.zeroValue9
  t31 := Tryz.underlying24
  a31 := Tryz.isAgg24
  z31 := Tryz.sizeOf24
  v31 := Tryz.zeroValue24 }
end Go.Proofs
namespace Go.Proofs.YtogkchgjpflmjaaGreatDoor
open Go.ChangeShapes Go.WideShapes Go.ChangeAt Go.RowKit Go.Sort
set_option linter.unusedVariables false
set_option maxRecDepth 100000
theorem compareString_any (a b : ByteArray) (w : World) :
    Calls Tryz.prog 247 #[.string a, .string b] w fun e w' => e = .returned (.int .i64 (Lib.compareBytes a.data.toList b.data.toList)) ∧ w' = w := by
  go_enter Tryz.func247, Tryz.ntmps247
  go_wp2
  rw [run_callFunc_extern Tryz.func258 (by kernel_rfl) (by kernel_rfl) (by kernel_rfl) (e := Extern.BytealgCompare.compare) (by kernel_rfl), Lib.run_compareString]
  simp only [Result.andThen]
  rw [Oper.upon_value]
  go_wp2
  go_ret
  exact ⟨rfl, rfl⟩
theorem compare_any (a b : ByteArray) (w : World) :
    Calls Tryz.prog 243 #[.string a, .string b] w fun e w' => e = .returned (.int .i64 (Lib.compareBytes a.data.toList b.data.toList)) ∧ w' = w := by
  go_enter Tryz.func243, Tryz.ntmps243
  go_wp2_with (go_at_call 247; refine (compareString_any _ _ _).mono ?_; rintro e w' ⟨rfl, rfl⟩)
  go_ret
  exact ⟨rfl, rfl⟩
instance : Inhabited Tm := ⟨⟨[], 0⟩⟩
def cmpT (x y : Tm) : Int := Lib.compareBytes x.name y.name
theorem closure_any (x y : Tm) (W : World) : Calls Tryz.prog 242 #[.agg x.cells.toArray, .agg y.cells.toArray] W fun e w' => e = .returned (.int .i64 (cmpT x y)) ∧ ∃ q os', w' = grow (W.drewN q) os' := by
  have hcon := fun W' => compare_any (str x.name) (str y.name) W'
  have hx : ∀ l : List UInt8, (str l).data.toList = l := fun l => rfl
  rw [hx, hx] at hcon
  unfold cmpT
  generalize Lib.compareBytes x.name y.name = r at hcon ⊢
  simp only [Tm.cells]
  go_enter Tryz.func242, Tryz.ntmps242
  go_wp2_with (go_at_call 243; refine (hcon _).mono ?_; rintro e w' ⟨rfl, rfl⟩)
  go_ret
  exact ⟨rfl, 0, _, by rw [alloc_eq_grow, alloc_eq_grow, grow_grow]; rfl⟩
theorem cmpLays_any (blk off size : Nat) (w : World) : CmpLays Tryz.prog 242 #[] Tm.cells 2 cmpT blk off size w :=
  fun _ _ _ _ x y => closure_any x y _
theorem ltT (x y : Tm) : ltOf cmpT x y = nlt x.name y.name := compare_nlt _ _
theorem swoT : SWO (ltOf cmpT) where
  irrefl x := by rw [ltT, nlt_irrefl]
  trans x y z h1 h2 := by rw [ltT] at *; exact nlt_trans h1 h2
  ntrans x y z h1 h2 := by
    rw [ltT] at *
    have := leT_trans z y x (by simp [leT, h2]) (by simp [leT, h1])
    simpa [leT] using this
theorem flat_row (ts : List Tm) : (flatK Tm.cells 2 ts.toArray).toList = rowT ts := by
  apply List.ext_getElem?
  intro j
  by_cases hj : j < ts.length * 2
  · have hq : j / 2 < ts.length := by omega
    have h1 : ts[j / 2]? = some ts[j / 2] := List.getElem?_eq_getElem hq
    have h2 := rowT_get ts (j / 2) (j % 2) _ h1 (by omega)
    rw [show j / 2 * 2 + j % 2 = j by omega] at h2
    rw [h2, Array.getElem?_toList]
    have h3 : (flatK Tm.cells 2 ts.toArray)[j]? = some (flatK Tm.cells 2 ts.toArray)[j]! := by
      rw [getElem!_pos _ j (by simp; omega)]
      exact Array.getElem?_eq_getElem _
    rw [h3, get_flatK _ _ _ _ (by simpa using hj)]
    have h4 : ts.toArray[j / 2]! = ts[j / 2] := by
      rw [getElem!_pos _ _ (by simpa using hq)]
      simp
    rw [h4]
    have h5 : (ts[j / 2].cells).length = 2 := rfl
    rw [getElem!_pos _ _ (by omega), List.getElem?_eq_getElem (by omega)]
  · rw [List.getElem?_eq_none (by simp; omega), List.getElem?_eq_none (by rw [rowT_length]; omega)]
theorem holds_own {w : World} {g n : Nat} {cur : Array Value} {e : TypeId} {ts : List Tm} (hb : w.heap[g]? = some (.cells cur e (0, 0))) (ht : cur.toList.take (ts.length * 2) = rowT ts) : HoldsK Tm.cells 2 w g 0 ts.toArray := by
  intro j hj
  have hj' : j < ts.length * 2 := by simpa using hj
  refine ⟨?_, by simp [World.frozen?, hb]⟩
  have h1 : (cur.toList.take (ts.length * 2))[j]? = (rowT ts)[j]? := by rw [ht]
  rw [List.getElem?_take_of_lt hj'] at h1
  simp only [World.cell?, hb, Nat.zero_add]
  simp only [Option.isSome_none, Bool.false_eq_true, if_false]
  rw [← Array.getElem?_toList, h1, ← flat_row, Array.getElem?_toList, getElem!_pos _ j hj]
  exact Array.getElem?_eq_getElem _
theorem heap_sortedK {w : World} {g n : Nat} {os : Array Obj} {cur : Array Value} {e : TypeId} {fr : Nat × Nat} (d : Array Tm) (hb : w.heap[g]? = some (.cells cur e fr)) :
    (sortWorldK Tm.cells 2 w g 0 n d os).heap[g]? = some (.cells (putCells id 0 (flatK Tm.cells 2 d) cur) e fr) := by
  have hg : g < w.heap.size := (Array.getElem?_eq_some_iff.1 hb).1
  unfold sortWorldK putRowK
  rw [heap_grow_old _ _ (by simpa using hg)]
  simp [putRow, mapBlock, Sort.ahead, Array.getElem?_modify, hb, onCells]
theorem grownBy_sortedK {w : World} {g n : Nat} {os : Array Obj} (d : Array Tm) : w.grownBy (sortWorldK Tm.cells 2 w g 0 n d os) (some g) := by
  unfold sortWorldK putRowK
  refine ⟨rfl, rfl, rfl, by simp, fun k hk hne => ?_⟩
  rw [heap_grow_old _ _ (by simpa using hk)]
  have : g ≠ k := fun e => hne (by rw [e])
  simp [putRow, mapBlock, Sort.ahead, Array.getElem?_modify, this]
theorem take_putCellsK (cur F : Array Value) (h : F.size ≤ cur.size) : (putCells id 0 F cur).toList.take F.size = F.toList := by
  apply List.ext_getElem?
  intro j
  by_cases hj : j < F.size
  · rw [List.getElem?_take_of_lt hj, Array.getElem?_toList, Array.getElem?_toList]
    simp [putCells, hj, show j < cur.size by omega]
  · rw [List.getElem?_take_eq_none (by omega), List.getElem?_eq_none (by simp; omega)]
theorem sort_any (v : Value) (ts : List Tm) (B : Nat) (w : World) (hl : ts.length ≤ 9000000) (hown : w.ownsRow B 123 2 v ts.length (rowT ts)) :
    Calls Tryz.prog 241 #[v, .func (.func 242) #[] #[]] w fun e w' => e = .returned (.tuple #[]) ∧ ∃ ts', ts.Perm ts' ∧ Sorted ts' ∧ w'.ownsRow B 123 2 v ts.length (rowT ts') ∧ w.grownBy w' v.ownBlock := by
  have hown' := hown
  obtain ⟨hlen, ⟨rfl, h0⟩ | ⟨g, cap, cur, rfl, hbg, hg, hle, hcap, hsz, htk⟩⟩ := hown
  · have hts : ts = [] := List.eq_nil_of_length_eq_zero h0
    subst hts
    refine (AnyF.slices_SortFunc_none Tryz.laysSort none 0 (.func (.func 242) #[] #[]) w).mono ?_
    rintro e w' ⟨rfl, rfl⟩
    exact ⟨rfl, [], List.Perm.refl _, List.Pairwise.nil, hown', World.grownBy.refl _ _⟩
  · have eg : ∀ args w, (callFunc 242 args).run Tryz.prog w = .ok (.enter 242 args) w := enters_of Tryz.func242 (by kernel_rfl) rfl
    have hcon := AnyQ.slices_SortFunc Tryz.laysSort 2 Tryz.isAgg123 Tryz.sizeOf123 Tm.cells (fun _ => rfl) (fun x u hu => by simp [Tm.cells] at hu; rcases hu with rfl | rfl <;> rfl) cmpT swoT 242 #[] g 0 cap ts.toArray w eg (cmpLays_any g 0 _ w) (holds_own (n := 0) hg htk) (Array.getElem?_eq_some_iff.1 hg).1 (by simp; omega)
    change Calls Tryz.prog 241 _ _ _ at hcon
    simp only [List.size_toArray] at hcon
    refine hcon.mono ?_
    rintro e w' ⟨rfl, d', n, os, hp, hs, rfl⟩
    have hds : d'.size = ts.length := by simpa using hp.1
    have hperm : d'.toList.Perm ts := by
      have := hp.2.2
      simp at this
      rwa [List.take_of_length_le (by simp [hds])] at this
    refine ⟨rfl, d'.toList, hperm.symm, ?_, ?_, ?_⟩
    · refine List.pairwise_iff_getElem.2 fun i j hi hj hij => ?_
      have hi' : i < d'.size := by simpa using hi
      have hj' : j < d'.size := by simpa using hj
      have := hs i j (Nat.zero_le _) hij (by omega)
      rw [ltT, getElem!_pos d' i hi', getElem!_pos d' j hj'] at this
      simpa using this
    · refine ⟨by rw [rowT_length]; simp [hds], .inr ⟨g, cap, _, rfl, hbg, heap_sortedK d' hg, hle, hcap, by simp [putCells, hsz], ?_⟩⟩
      have h1 := take_putCellsK cur (flatK Tm.cells 2 d') (by simp [hds, hsz]; omega)
      have h2 := flat_row d'.toList
      simp only [Array.toArray_toList] at h2
      rw [h2] at h1
      simpa [hds] using h1
    · exact grownBy_sortedK d'
end Go.Proofs.YtogkchgjpflmjaaGreatDoor

/- What is written into a Cpu. -/
import Derived.Test.YtlchefdddgbohaaDoorCp
namespace Go.Proofs.YtlchefdddgbohaaDoor
open Go.ChangeShapes Go.WideShapes Go.ChangeAt Go.RowKit
set_option linter.unusedVariables false
set_option linter.unusedSimpArgs false
set_option maxRecDepth 100000
section
variable {L : Lay} {ks : Nat → Prop} {w w1 w' : World} {p : Nat} {s : St}
theorem set_at {cs : Array Value} {k j : Nat} {y : Value} (hk : k < cs.size) : (cs.setIfInBounds k y)[j]? = if j = k then some y else cs[j]? := by
  by_cases e : j = k
  · subst e
    rw [if_pos rfl, Array.getElem?_setIfInBounds_self_of_lt hk]
  · rw [if_neg e, Array.getElem?_setIfInBounds_ne (fun h => e h.symm)]
theorem Cs.setR {cs : Array Value} {vs vo va : Value} (ok : LayOK L) (h : Cs L cs s vs vo va) {k : Nat} (hk : k < 8) (v : Int) : Cs L (cs.setIfInBounds k (.int .i32 v)) { s with r := upd s.r k v } vs vo va := by
  have hs : k < cs.size := by rw [h.size]; omega
  have o1 := ok.m; have o2 := ok.s; have o3 := ok.o; have o4 := ok.i
  refine ⟨by simp [h.size], fun j hj => ?_, fun j hj => ?_, fun j hj => ?_, ?_, ?_, ?_⟩ <;> rw [set_at hs]
  · unfold upd
    by_cases e : j = k
    · rw [if_pos e]; simp [e]
    · rw [if_neg e]; simp only [if_neg e]; exact h.r j hj
  · rw [if_neg (by omega)]; exact h.z j hj
  · rw [if_neg (by omega)]; exact h.m j hj
  · rw [if_neg (by omega)]; exact h.st
  · rw [if_neg (by omega)]; exact h.ou
  · rw [if_neg (by omega)]; exact h.ip
theorem Cs.setZ {cs : Array Value} {vs vo va : Value} (ok : LayOK L) (h : Cs L cs s vs vo va) {k : Nat} (hk : k < 4) (x y : Nat) : Cs L (cs.setIfInBounds (8 + k) (.complex .f64 x y)) { s with z := upd s.z k (x, y) } vs vo va := by
  have hs : 8 + k < cs.size := by rw [h.size]; omega
  have o1 := ok.m; have o2 := ok.s; have o3 := ok.o; have o4 := ok.i
  refine ⟨by simp [h.size], fun j hj => ?_, fun j hj => ?_, fun j hj => ?_, ?_, ?_, ?_⟩ <;> rw [set_at hs]
  · rw [if_neg (by omega)]; exact h.r j hj
  · unfold upd
    by_cases e : j = k
    · rw [if_pos (by omega)]; simp [e]
    · rw [if_neg (by omega)]; simp only [if_neg e]; exact h.z j hj
  · rw [if_neg (by omega)]; exact h.m j hj
  · rw [if_neg (by omega)]; exact h.st
  · rw [if_neg (by omega)]; exact h.ou
  · rw [if_neg (by omega)]; exact h.ip
theorem Cs.setM {cs : Array Value} {vs vo va : Value} (ok : LayOK L) (h : Cs L cs s vs vo va) {k : Nat} (hk : k < 256) (v : Int) : Cs L (cs.setIfInBounds (L.mo + k) (.int .i32 v)) { s with m := upd s.m k v } vs vo va := by
  have o1 := ok.m; have o2 := ok.s; have o3 := ok.o; have o4 := ok.i
  have hs : L.mo + k < cs.size := by rw [h.size]; omega
  refine ⟨by simp [h.size], fun j hj => ?_, fun j hj => ?_, fun j hj => ?_, ?_, ?_, ?_⟩ <;> rw [set_at hs]
  · rw [if_neg (by omega)]; exact h.r j hj
  · rw [if_neg (by omega)]; exact h.z j hj
  · unfold upd
    by_cases e : j = k
    · rw [if_pos (by omega)]; simp [e]
    · rw [if_neg (by omega)]; simp only [if_neg e]; exact h.m j hj
  · rw [if_neg (by omega)]; exact h.st
  · rw [if_neg (by omega)]; exact h.ou
  · rw [if_neg (by omega)]; exact h.ip
theorem Cs.setS {cs : Array Value} {vs vo va : Value} (ok : LayOK L) (h : Cs L cs s vs vo va) (l : List Int) (v : Value) : Cs L (cs.setIfInBounds L.so v) { s with stk := l } v vo va := by
  have o1 := ok.m; have o2 := ok.s; have o3 := ok.o; have o4 := ok.i; have o5 := ok.ne
  have hs : L.so < cs.size := by rw [h.size]; omega
  refine ⟨by simp [h.size], fun j hj => ?_, fun j hj => ?_, fun j hj => ?_, ?_, ?_, ?_⟩ <;> rw [set_at hs]
  · rw [if_neg (by omega)]; exact h.r j hj
  · rw [if_neg (by omega)]; exact h.z j hj
  · rw [if_neg (by omega)]; exact h.m j hj
  · rw [if_pos rfl]
  · rw [if_neg (fun e => o5.1 e.symm)]; exact h.ou
  · rw [if_neg (fun e => o5.2.1 e.symm)]; exact h.ip
theorem Cs.setO {cs : Array Value} {vs vo va : Value} (ok : LayOK L) (h : Cs L cs s vs vo va) (l : List Int) (v : Value) : Cs L (cs.setIfInBounds L.oo v) { s with out := l } vs v va := by
  have o1 := ok.m; have o2 := ok.s; have o3 := ok.o; have o4 := ok.i; have o5 := ok.ne
  have hs : L.oo < cs.size := by rw [h.size]; omega
  refine ⟨by simp [h.size], fun j hj => ?_, fun j hj => ?_, fun j hj => ?_, ?_, ?_, ?_⟩ <;> rw [set_at hs]
  · rw [if_neg (by omega)]; exact h.r j hj
  · rw [if_neg (by omega)]; exact h.z j hj
  · rw [if_neg (by omega)]; exact h.m j hj
  · rw [if_neg o5.1]; exact h.st
  · rw [if_pos rfl]
  · rw [if_neg (fun e => o5.2.2 e.symm)]; exact h.ip
theorem Cs.setI {cs : Array Value} {vs vo va : Value} (ok : LayOK L) (h : Cs L cs s vs vo va) (l : List Int) (v : Value) : Cs L (cs.setIfInBounds L.io v) { s with inp := l } vs vo v := by
  have o1 := ok.m; have o2 := ok.s; have o3 := ok.o; have o4 := ok.i; have o5 := ok.ne
  have hs : L.io < cs.size := by rw [h.size]; omega
  refine ⟨by simp [h.size], fun j hj => ?_, fun j hj => ?_, fun j hj => ?_, ?_, ?_, ?_⟩ <;> rw [set_at hs]
  · rw [if_neg (by omega)]; exact h.r j hj
  · rw [if_neg (by omega)]; exact h.z j hj
  · rw [if_neg (by omega)]; exact h.m j hj
  · rw [if_neg o5.2.1]; exact h.st
  · rw [if_neg o5.2.2]; exact h.ou
  · rw [if_pos rfl]
/-- a cell of its own is written -/
theorem CpuAt.write {r : Nat → Int} {z : Nat → Nat × Nat} {m : Nat → Int} (h : CpuAt L ks w p s) (k : Nat) (y : Value)
    (hc : ∀ cs vs vo va, Cs L cs s vs vo va → Cs L (cs.setIfInBounds k y) { s with r := r, z := z, m := m } vs vo va)
    (rb : ∀ k, -2147483648 ≤ r k ∧ r k ≤ 2147483647) (mb : ∀ k, -2147483648 ≤ m k ∧ m k ≤ 2147483647) (zb : ∀ k, (z k).1 < 2 ^ 64 ∧ (z k).2 < 2 ^ 64) :
    CpuAt L ks (w.setCell ⟨p, k, none⟩ y) p { s with r := r, z := z, m := m } ∧ w.grownBy (w.setCell ⟨p, k, none⟩ y) (some p) := by
  obtain ⟨cs, vs, vo, va, h1, h2, h3, h4, h5, h6, h7⟩ := h.mem
  obtain ⟨e1, e2⟩ := row_set h1 k y
  have hb : ∀ g, ks g → g ≠ p → (w.setCell ⟨p, k, none⟩ y).heap[g]? = w.heap[g]? := fun g hg hn => e2.block g (h.kl g hg) (fun e => hn (Option.some.inj e))
  refine ⟨⟨h.kp, fun g hg => Nat.lt_of_lt_of_le (h.kl g hg) e2.size, rb, mb, zb, h.sb, h.ob, h.ib, _, vs, vo, va, e1, hc _ _ _ _ h2, own_kept0 h3 fun g hg => hb g (h6 g hg).1 (h6 g hg).2.1, own_kept0 h4 fun g hg => hb g (h7 g hg).1 (h7 g hg).2.1, ?_, h6, h7⟩, e2⟩
  refine h5.kept e2.size fun g hg hl => ?_
  obtain ⟨a, c, e, _, kk⟩ := h5
  obtain ⟨g', o, e3, k1, k2, _⟩ := kk hl
  subst e e3
  cases hg
  exact hb _ k1 k2
theorem upd_rb {r : Nat → Int} {k : Nat} {v : Int} (h : ∀ k, -2147483648 ≤ r k ∧ r k ≤ 2147483647) (hv : -2147483648 ≤ v ∧ v ≤ 2147483647) : ∀ j, -2147483648 ≤ upd r k v j ∧ upd r k v j ≤ 2147483647 := fun j => by
  unfold upd
  split
  · exact hv
  · exact h j
theorem CpuAt.setR (ok : LayOK L) (h : CpuAt L ks w p s) {k : Nat} (hk : k < 8) {v : Int} (hv : -2147483648 ≤ v ∧ v ≤ 2147483647) : CpuAt L ks (w.setCell ⟨p, k, none⟩ (.int .i32 v)) p { s with r := upd s.r k v } ∧ w.grownBy (w.setCell ⟨p, k, none⟩ (.int .i32 v)) (some p) :=
  h.write (r := upd s.r k v) (z := s.z) (m := s.m) k _ (fun _ _ _ _ hc => hc.setR ok hk v) (upd_rb h.rb hv) h.mb h.zb
theorem CpuAt.setM (ok : LayOK L) (h : CpuAt L ks w p s) {k : Nat} (hk : k < 256) {v : Int} (hv : -2147483648 ≤ v ∧ v ≤ 2147483647) : CpuAt L ks (w.setCell ⟨p, L.mo + k, none⟩ (.int .i32 v)) p { s with m := upd s.m k v } ∧ w.grownBy (w.setCell ⟨p, L.mo + k, none⟩ (.int .i32 v)) (some p) :=
  h.write (r := s.r) (z := s.z) (m := upd s.m k v) _ _ (fun _ _ _ _ hc => hc.setM ok hk v) h.rb (upd_rb h.mb hv) h.zb
theorem CpuAt.setZ (ok : LayOK L) (h : CpuAt L ks w p s) {k : Nat} (hk : k < 4) {x y : Nat} (hx : x < 2 ^ 64) (hy : y < 2 ^ 64) : CpuAt L ks (w.setCell ⟨p, 8 + k, none⟩ (.complex .f64 x y)) p { s with z := upd s.z k (x, y) } ∧ w.grownBy (w.setCell ⟨p, 8 + k, none⟩ (.complex .f64 x y)) (some p) :=
  h.write (r := s.r) (z := upd s.z k (x, y)) (m := s.m) _ _ (fun _ _ _ _ hc => hc.setZ ok hk x y) h.rb h.mb fun j => by
    unfold upd
    split
    · exact ⟨hx, hy⟩
    · exact h.zb j
/-- what an operation leaves -/
def Done (L : Lay) (ks : Nat → Prop) (w : World) (p : Nat) (s' : St) (eff : Value) (e : Ending) (w' : World) : Prop := e = .returned eff ∧ Moved ks w w' ∧ ∃ ks', More ks ks' w ∧ CpuAt L ks' w' p s'
abbrev effV (k t o : Int) : Value := .agg #[.int .i64 k, .int .i64 t, .int .u32 o]
end
end Go.Proofs.YtlchefdddgbohaaDoor

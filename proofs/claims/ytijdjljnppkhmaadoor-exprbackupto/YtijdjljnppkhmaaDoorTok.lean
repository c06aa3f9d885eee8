/- lex.Tokens: the tokens of a text. -/
import Derived.Test.YtijdjljnppkhmaaDoorNum3
import Derived.Test.YtijdjljnppkhmaaDoorClone
import Derived.Deep.DeepAppendWide
import Derived.Deep.DeepMust
namespace Go.Proofs.YtijdjljnppkhmaaDoor
open Go.ChangeShapes Go.WideShapes Go.ChangeAt Go.RowKit
set_option linter.unusedVariables false
set_option maxRecDepth 100000

def str (l : List UInt8) : ByteArray := ⟨l.toArray⟩
def Tok.cells (t : Tok) : List Value := [.int .i64 t.kind, .string (str t.text), .int .u32 t.num, .int .i64 (t.place : Int)]
def rowOf (ts : List Tok) : List Value := ts.flatMap Tok.cells

theorem Tryd.info42 : (Tryd.prog.info? 42).map (fun i => (i.zero, i.size, i.bytes)) = some (some (.agg #[.int .i64 0, .string ⟨#[]⟩, .int .u32 0, .int .i64 0]), 4, 40) := by kernel_rfl

theorem ownsRow_below {w w' : World} {B : Nat} {e : TypeId} {size : Nat} {v : Value} {n : Nat} {xs : List Value} (h : w.ownsRow B e size v n xs) (hb : Below w.heap.size w w') : w'.ownsRow B e size v n xs := by
  obtain ⟨hl, h | ⟨g, cap, cur, hv, hbg, hg, r⟩⟩ := h
  · exact ⟨hl, .inl h⟩
  · have hlt : g < w.heap.size := by
      apply Decidable.byContradiction
      intro hn
      rw [Array.getElem?_eq_none (by omega)] at hg
      cases hg
    exact ⟨hl, .inr ⟨g, cap, cur, hv, hbg, by rw [hb.block g hlt]; exact hg, r⟩⟩

theorem cells_new (w : World) (cs : Array Value) (T : TypeId) : ∀ j u, cs.toList[j]? = some u → (w.alloc (.cells cs T)).cell? ((⟨w.heap.size, 0, none⟩ : Addr).add j) = some u := by
  intro j u h
  refine Lib.cells_of_row (heap_alloc_new w _) cs.size j u ?_
  rw [List.take_of_length_le (by simp)]
  exact h

theorem rowOf_push (acc : List Tok) (t : Tok) : rowOf (acc ++ [t]) = rowOf acc ++ t.cells := by simp [rowOf]

/-- what Tokens answers -/
def Out (B : Nat) (w0 : World) (R : Except Nat (List Tok)) (e : Ending) (w' : World) : Prop :=
  Below B w0 w' ∧ match R with
  | .ok ts => ∃ v, e = .returned (.tuple #[v, .int .i64 0, .int .i64 0]) ∧ w'.ownsRow B 42 4 v ts.length (rowOf ts)
  | .error p => e = .returned (.tuple #[.slice none 0 0, .int .i64 (p : Int), .int .i64 20])
def Q9 (B : Nat) (w0 : World) (R : Except Nat (List Tok)) : Exit → Act → World → Prop := bodyPost Tryd.prog Tryd.f59 (Out B w0 R)

theorem whole_lands (s : ByteArray) (B : Nat) (w0 w : World) (R : Except Nat (List Tok)) (hs : s.size ≤ 1100000) (acc : List Tok) (v : Value) (n to_ kind : Int) (at_ p : Nat)
    (hp : to_ = p) (h1 : at_ < p) (h2 : p ≤ s.size) (hacc : acc.length ≤ at_) (hown : w.ownsRow B 42 4 v acc.length (rowOf acc)) (hbel : Below B w0 w) (hB : B ≤ w.heap.size)
    (hnext : Hid (∀ (w' : World) (v' : Value), w'.ownsRow B 42 4 v' (acc.length + 1) (rowOf (acc ++ [{ kind := kind, text := ((bs s).drop at_).take (p - at_), num := n, place := at_ }])) → Below B w0 w' → B ≤ w'.heap.size → ∀ {u1 u2 u3 u4 u6 u8 u9 u10 u11 u12 u13 u14 u15 u16 u17 u18 u19 u20 u21 u22 u23 u24 u25 u26 u27 u28 u29 u30 u31 u32 u33 u34 u35 u36 u37 u38 u39 u40 u41 u42 u43 u44 u45 u46 u47 u48 u49 u50 u51 u52 u53 u54 u55 u56 u57 u58 u59 u60 u61 u62 u63 u64 u65 u66 u67 u68 u69 u70 u71 u72 u73 u74 u75 : Value}, Lands Tryd.prog (scopeOf Tryd.f59) (Q9 B w0 R) 0 { tmps := List.toArray (.string s :: u1 :: u2 :: u3 :: u4 :: v' :: u6 :: .int .i64 (p : Int) :: u8 :: u9 :: u10 :: u11 :: u12 :: u13 :: u14 :: u15 :: u16 :: u17 :: u18 :: u19 :: u20 :: u21 :: u22 :: u23 :: u24 :: u25 :: u26 :: u27 :: u28 :: u29 :: u30 :: u31 :: u32 :: u33 :: u34 :: u35 :: u36 :: u37 :: u38 :: u39 :: u40 :: u41 :: u42 :: u43 :: u44 :: u45 :: u46 :: u47 :: u48 :: u49 :: u50 :: u51 :: u52 :: u53 :: u54 :: u55 :: u56 :: u57 :: u58 :: u59 :: u60 :: u61 :: u62 :: u63 :: u64 :: u65 :: u66 :: u67 :: u68 :: u69 :: u70 :: u71 :: u72 :: u73 :: u74 :: u75 :: []), defers := [] } w')) {u1 u2 u3 u4 u10 u11 u12 u13 u14 u15 u16 u17 u18 u19 u20 u21 u22 u23 u24 u25 u26 u27 u28 u29 u30 u31 u32 u33 u34 u35 u36 u37 u38 u39 u40 u41 u42 u43 u44 u45 u46 u47 u48 u49 u50 u51 u52 u53 u54 u55 u56 u57 u58 u59 u60 u61 u62 u63 u64 u65 u66 u67 u68 u69 u70 u71 u72 u73 u74 u75 : Value} :
    Lands Tryd.prog (scopeOf Tryd.f59) (Q9 B w0 R) 3 { tmps := List.toArray (.string s :: u1 :: u2 :: u3 :: u4 :: v :: .int .u32 n :: .int .i64 (at_ : Int) :: .int .i64 to_ :: .int .i64 kind :: u10 :: u11 :: u12 :: u13 :: u14 :: u15 :: u16 :: u17 :: u18 :: u19 :: u20 :: u21 :: u22 :: u23 :: u24 :: u25 :: u26 :: u27 :: u28 :: u29 :: u30 :: u31 :: u32 :: u33 :: u34 :: u35 :: u36 :: u37 :: u38 :: u39 :: u40 :: u41 :: u42 :: u43 :: u44 :: u45 :: u46 :: u47 :: u48 :: u49 :: u50 :: u51 :: u52 :: u53 :: u54 :: u55 :: u56 :: u57 :: u58 :: u59 :: u60 :: u61 :: u62 :: u63 :: u64 :: u65 :: u66 :: u67 :: u68 :: u69 :: u70 :: u71 :: u72 :: u73 :: u74 :: u75 :: []), defers := [] } w := by
  subst hp
  obtain ⟨T, hT⟩ : ∃ T, T = ((bs s).drop at_).take (p - at_) := ⟨_, rfl⟩
  have hsl : ∀ W : World, (Instr.slice 9 (.string s) (some (.int .i64 (at_ : Int))) (some (.int .i64 (p : Int))) none).run Tryd.prog W = .ok (.string (str T)) W := fun W => by
    rw [run_slice_string W 9 s .i64 .i64 at_ p Tryd.underlying9 (by omega) (by omega) (by omega), Lib.extract_eq, hT]
    simp [str, bs]
  have hTs : (str T).size ≤ 1100000 := by
    have : (str T).size = T.length := by simp [str, ByteArray.size]
    rw [this, hT, List.length_take, List.length_drop, bs_length]
    omega
  rw [← hT] at hnext
  clear hT
  obtain ⟨i0, hi, hz0, hz1, hz2⟩ := info_parts Tryd.info42
  have hlen : acc.length ≤ 1100000 := by omega
  refine Lands.of rfl ?_
  go_wp2_with (first
      | (go_at_call 30; refine (clone_any _ _ (by omega)).mono ?_; rintro e w' ⟨rfl, hb⟩)
      | (at_builtin; go_must (refine wpList_append_own_wide _ rfl (.tmp 63) (.tmp 73) 35 rfl B 42 i0 (.agg #[.int .i64 0, .string ⟨#[]⟩, .int .u32 0, .int .i64 0]) 4 40 Tryd.underlying35 hi hz0 hz1 hz2 rfl (by decide) v acc.length (rowOf acc) rfl ((ownsRow_below hown hb).alloc _) ⟨w'.heap.size, 0, none⟩ 1 1 [.int .i64 kind, .string (str T), .int .u32 n, .int .i64 (at_ : Int)] rfl rfl (cells_new _ _ _) (by simp [Value.oneCell']) (by unfold maxLen; omega) (by omega) (by have := hb.size; simp; omega) ?_; intro v2 w2 hown2 hgrow2 _)))
  go_step3
  have hbs := hb.size
  refine hnext.out w2 v2 ?_ ?_ ?_
  · rw [rowOf_push]; exact hown2
  · exact ((hbel.trans (hb.mono hB)).alloc (by omega) _).grown hgrow2 (by simp; omega) (fun k hk => (hown.lt k hk).1)
  · have := hgrow2.size; simp at this; omega
end Go.Proofs.YtijdjljnppkhmaaDoor

/- The document's Parse of tokens. -/
import Derived.Test.YtlkmegchaeokgaaGreatDoorRefRe
import Derived.Test.YtlkmegchaeokgaaGreatDoorRefAdd
import Derived.Test.YtlkmegchaeokgaaGreatDoorParse
import Derived.WalkSmall
/- The document's factor: what it leaves, and its parts. -/
namespace Go.Proofs.YtlkmegchaeokgaaGreatDoor
open Go.ChangeShapes Go.WideShapes Go.ChangeAt Go.RowKit
set_option linter.unusedVariables false
set_option maxRecDepth 100000
theorem is_b (a : Option Addr) (c0 g : Nat) (ts : List Tok) (k : Nat) (d e : Int) (c : UInt8) (b : Bool) (hb : isK ts k e c = b) (w : World) (h : RR w g a c0 ts k d e) :
  Calls Tryz.prog 98 #[.pointer (some ⟨g, 0, none⟩), .string ⟨#[c]⟩] w fun x w' => x = .returned (.bool b) /\ w'.heap.size = w.heap.size /\ Below w.heap.size w w' := by
 subst hb
 exact (is_any a c0 g ts k d e c w h).mono fun x w' ⟨h1, n, h2⟩ => ⟨h1, by rw [h2]; rfl, by rw [h2]; exact below_drewN (Below.refl _ _) n⟩
def RRes (ts : List Tok) (R : PRes) (x : Lin) (k' : Nat) (e' : Int) : Prop :=
 match R with
 | .ok (y, r) => e' = 0 /\ x = y /\ ts.drop k' = r
 | .error q => e' = q
def ROutD (w : World) (g : Nat) (a : Option Addr) (c : Nat) (ts : List Tok) (k : Nat) (d : Int) (R : PRes) (e : Ending) (w' : World) : Prop :=
 w.grownBy w' (some g) /\ ∃ (x : Lin) (va : Option Addr) (n vc k' : Nat) (e' : Int), e = .returned (linV (.slice va n vc) x.const) /\ w'.ownsRow w.heap.size 61 2 (.slice va n vc) x.terms.length (rowT x.terms) /\ RR w' g a c ts k' d e' /\ x.terms.length + k <= k' /\ k' <= ts.length /\ RRes ts R x k' e'
theorem rout {w w8 w9 : World} {g : Nat} {a : Option Addr} {c : Nat} {ts : List Tok} {k : Nat} {d : Int} {R : PRes} (x : Lin) (va : Option Addr) (n vc k' : Nat) (e' : Int) (hglt : g < w.heap.size) (hg : w.grownBy w8 (some g)) (s2 : w8.grownBy w9 (some w.heap.size)) (hr : RR w8 g a c ts k' d e') (ho : w8.ownsRow (w.heap.size + 1) 61 2 (.slice va n vc) x.terms.length (rowT x.terms)) (h1 : x.terms.length + k <= k') (h2 : k' <= ts.length)
  (hR : RRes ts R x k' e') : ROutD w g a c ts k d R (.returned (linV (.slice va n vc) x.const)) w9 :=
 ⟨grown_res hg s2, x, va, n, vc, k', e', rfl, own_weaken (own_low ho s2 (by omega)) (by omega), hr.grown s2 (by simp; omega) (fun y hy => by have := hr.ne y hy; simp; omega), h1, h2, hR⟩
def RSum (g : Nat) (a : Option Addr) (c : Nat) (ts : List Tok) (d : Int) (W : List Tok -> PRes) : Prop :=
 ∀ (w : World) (k : Nat), RR w g a c ts k d 0 -> k <= ts.length -> Calls Tryz.prog 94 #[.pointer (some ⟨g, 0, none⟩)] w fun e w' => ROutD w g a c ts k d (W (ts.drop k)) e w'
structure FSt2 (w : World) (g : Nat) (a : Option Addr) (c : Nat) (ts : List Tok) (k : Nat) (d : Int) (m : Bool) (k1 : Nat) (wr : World) : Prop where
 grown : w.grownBy wr (some g)
 size : wr.heap.size = w.heap.size + 1
 res : Two wr w.heap.size 31 (.slice none 0 0) (.int .u32 0)
 rr : RR wr g a c ts k1 d 0
 le : k <= k1
 le2 : k1 <= ts.length
 eq : minusF (ts.drop k) 1 = minusF (ts.drop k1) (if m then 4294967295 else 1)
def leftK (g : Nat) (w : World) : Nat :=
 match w.cell? ⟨g, 1, none⟩ with
 | some (.int _ k) => 3000 - k.toNat
 | _ => 0
theorem RR.left {w : World} {g : Nat} {a : Option Addr} {c : Nat} {ts : List Tok} {k : Nat} {d e : Int} (h : RR w g a c ts k d e) : leftK g w = 3000 - k := by
 unfold leftK
 rw [h.cells.2.1]
 simp
theorem isK_cases (ts : List Tok) (k : Nat) (c : UInt8) : (isK ts k 0 c = false /\ headIs c (ts.drop k) = false) ∨ (isK ts k 0 c = true /\ ∃ t, ts[k]? = some t /\ isS t c = true /\ ts.drop k = t :: ts.drop (k + 1)) := by
 cases h : headIs c (ts.drop k)
 ·exact .inl ⟨by simp [isK, h], rfl⟩
 ·refine .inr ⟨by simp [isK, h], ?_⟩
  cases ht : ts[k]? with
  | none =>
   rw [List.drop_eq_nil_of_le (by simpa using ht)] at h
   cases h
  | some t =>
   have hd := drop_at ts k t ht
   rw [hd] at h
   exact ⟨t, rfl, h, hd⟩
abbrev linO : Obj := .cells #[.slice none 0 0, .int .u32 0] 31
theorem after_x {w wr w2 W w3 : World} {g : Nat} {a : Option Addr} {c : Nat} {ts : List Tok} {k : Nat} {d : Int} {m : Bool} {k1 : Nat} (hS : FSt2 w g a c ts k d m k1 wr) (hglt : g < w.heap.size) (hz2 : w2.heap.size = wr.heap.size) (hb2 : Below wr.heap.size wr w2) (hBW : Below (w2.alloc linO).heap.size (w2.alloc linO) W) (hg3 : W.grownBy w3 (some g)) :
  Two w3 w.heap.size 31 (.slice none 0 0) (.int .u32 0) /\ Two w3 w2.heap.size 31 (.slice none 0 0) (.int .u32 0) /\ w.grownBy w3 (some g) /\ w2.heap.size = w.heap.size + 1 /\ w.heap.size + 2 <= w3.heap.size := by
 have hs := hS.size
 have h1 := hg3.size
 have h2 := hBW.size
 have h3 : (w2.alloc linO).heap.size = w2.heap.size + 1 := by simp
 refine ⟨?_, ?_, ?_, by omega, by omega⟩
 ·exact ((((hS.res.below hb2 (by omega)).alloc linO).below hBW (by omega)).grown hg3 (by simp; omega))
 ·exact (((two_new w2 31 _ _).below hBW (by omega)).grown hg3 (by simp; omega))
 ·exact grown_trans (grown_trans (grown_trans (grown_trans hS.grown (grown_wide (grown_of_below hb2) _)) (World.grownBy_alloc w2 linO _)) (grown_wide (grown_of_below hBW) _)) hg3
theorem own_nil (w : World) (B : Nat) (T : TypeId) (sz : Nat) : w.ownsRow B T sz (.slice none 0 0) 0 [] := ⟨by simp, .inl ⟨rfl, rfl⟩⟩
structure FX (w : World) (g : Nat) (a : Option Addr) (c : Nat) (ts : List Tok) (d : Int) (k1 : Nat) (w3 : World) : Prop where
 grown : w.grownBy w3 (some g)
 size : w3.heap.size = w.heap.size + 2
 res : Two w3 w.heap.size 31 (.slice none 0 0) (.int .u32 0)
 x : Two w3 (w.heap.size + 1) 31 (.slice none 0 0) (.int .u32 0)
 rr : RR w3 g a c ts k1 d 0
theorem fx_new {w wr w2 : World} {g : Nat} {a : Option Addr} {c : Nat} {ts : List Tok} {k : Nat} {d : Int} {m : Bool} {k1 : Nat} (hS : FSt2 w g a c ts k d m k1 wr) (hglt : g < w.heap.size) (hz2 : w2.heap.size = wr.heap.size) (hb2 : Below wr.heap.size wr w2) (n : Nat) : FX w g a c ts d k1 ((w2.alloc linO).drewN n) := by
 have hB : Below (w2.alloc linO).heap.size (w2.alloc linO) ((w2.alloc linO).drewN n) := below_drewN (Below.refl _ _) n
 obtain ⟨h1, h2, h3, h4, h5⟩ := after_x hS hglt hz2 hb2 hB (World.grownBy.refl _ _)
 refine ⟨h3, ?_, h1, h4 ▸ h2, ((hS.rr.below hb2).below (below_alloc w2 _)).below hB⟩
 show (w2.alloc linO).heap.size = _
 simp [h4]
theorem tk_of {w : World} {g gt off : Nat} {c : Nat} {ts : List Tok} {k d e : Int} {i : Nat} {t : Tok} (h : RR w g (some ⟨gt, off, none⟩) c ts k d e) (ht : ts[i]? = some t) : TkAt w gt (off + i * 4) t := by
 rcases h.lies with rfl | ⟨g1, o1, ha, hc⟩
 ·simp at ht
 ·cases ha; exact hc i t ht
theorem tk_addr {w : World} {g : Nat} {a : Option Addr} {c : Nat} {ts : List Tok} {k d e : Int} {i : Nat} {t : Tok} (h : RR w g a c ts k d e) (ht : ts[i]? = some t) : ∃ gt off, a = some ⟨gt, off, none⟩ := by
 rcases h.lies with rfl | ⟨g1, o1, ha, hc⟩
 ·simp at ht
 ·exact ⟨g1, o1, ha⟩
structure FY (w : World) (g : Nat) (a : Option Addr) (c : Nat) (ts : List Tok) (d : Int) (k1 : Nat) (t : Tok) (w4 : World) : Prop where
 grown : w.grownBy w4 (some g)
 size : w4.heap.size = w.heap.size + 3
 res : Two w4 w.heap.size 31 (.slice none 0 0) (.int .u32 0)
 x : Two w4 (w.heap.size + 1) 31 (.slice none 0 0) (.int .u32 0)
 rr : RR w4 g a c ts k1 d 0
 kind : w4.cell? ⟨w.heap.size + 2, 0, none⟩ = some (.int .i64 t.kind)
 text : w4.cell? ⟨w.heap.size + 2, 1, none⟩ = some (.string (str t.text))
 num : w4.cell? ⟨w.heap.size + 2, 2, none⟩ = some (.int .u32 t.num)
theorem fy_new {w w3 : World} {g : Nat} {a : Option Addr} {c : Nat} {ts : List Tok} {d : Int} {k1 : Nat} (h : FX w g a c ts d k1 w3) (t : Tok) : FY w g a c ts d k1 t (w3.alloc (.cells #[.int .i64 t.kind, .string (str t.text), .int .u32 t.num, .int .i64 (t.place : Int)] 103)).drew := by
 have hs := h.size
 have hB : Below w3.heap.size w3 (w3.alloc (.cells #[.int .i64 t.kind, .string (str t.text), .int .u32 t.num, .int .i64 (t.place : Int)] 103)).drew := (below_alloc w3 _).drew
 have hnew := heap_alloc_new w3 (.cells #[.int .i64 t.kind, .string (str t.text), .int .u32 t.num, .int .i64 (t.place : Int)] 103)
 rw [hs] at hnew
 refine ⟨grown_trans h.grown (grown_wide (grown_of_below hB) _), ?_, h.res.below hB (by omega), h.x.below hB (by omega), h.rr.below hB, (cell_blockT hnew 0).trans rfl, (cell_blockT hnew 1).trans rfl, (cell_blockT hnew 2).trans rfl⟩
 show (w3.alloc _).heap.size = _
 simp [hs]
theorem grown_highD {w a b : World} {g q : Nat} (h : w.grownBy a (some g)) (s2 : a.grownBy b (some q)) (hq : w.heap.size <= q) : w.grownBy b (some g) :=
 ⟨s2.os.trans h.os, s2.tape.trans h.tape, s2.output.trans h.output, Nat.le_trans h.size s2.size, fun k hk hne => by rw [s2.block k (Nat.lt_of_lt_of_le hk h.size) (fun e => by injection e with e; omega), h.block k hk hne]⟩
structure FZ (w : World) (g : Nat) (a : Option Addr) (c : Nat) (ts : List Tok) (d : Int) (k2 : Nat) (e : Int) (vx : Value) (cx : Int) (w5 : World) : Prop where
 grown : w.grownBy w5 (some g)
 size : w.heap.size + 3 <= w5.heap.size
 res : Two w5 w.heap.size 31 (.slice none 0 0) (.int .u32 0)
 x : Two w5 (w.heap.size + 1) 31 vx (.int .u32 cx)
 rr : RR w5 g a c ts k2 d e
theorem twoPut {w : World} {g : Nat} {T : TypeId} {x y : Value} (h : Two w g T x y) : (∀ z, Two (w.setCell ⟨g, 1, none⟩ z) g T x z /\ w.grownBy (w.setCell ⟨g, 1, none⟩ z) (some g)) /\ ∀ z, Two (w.setCell ⟨g, 0, none⟩ z) g T z y /\ w.grownBy (w.setCell ⟨g, 0, none⟩ z) (some g) :=
 ⟨fun z => ⟨two_of (row_set h.heap 1 z).1, (row_set h.heap 1 z).2⟩, fun z => ⟨two_of (row_set h.heap 0 z).1, (row_set h.heap 0 z).2⟩⟩
theorem fz_step {w w4 w5 : World} {g : Nat} {a : Option Addr} {c : Nat} {ts : List Tok} {d : Int} {k1 : Nat} {vx : Value} {cx : Int} (hglt : g < w.heap.size) (h1 : w.grownBy w5 (some g)) (h2 : w.heap.size + 3 <= w5.heap.size) (h3 : Two w5 w.heap.size 31 (.slice none 0 0) (.int .u32 0)) (h4 : Two w5 (w.heap.size + 1) 31 vx (.int .u32 cx)) (h5 : RR w5 g a c ts k1 d 0) (hk : k1 + 1 <= 2000) :
  FZ w g a c ts d (k1 + 1) 0 vx cx (w5.setCell ⟨g, 1, none⟩ (.int .i64 ((k1 : Int) + 1))) := by
 obtain ⟨s1, s2⟩ := h5.setK ((k1 : Int) + 1) (by omega) (by omega)
 exact ⟨grown_trans h1 s2, Nat.le_trans h2 s2.size, h3.grown s2 (by simp; omega), h4.grown s2 (by simp; omega), s1⟩
theorem fz_num {w w4 : World} {g : Nat} {a : Option Addr} {c : Nat} {ts : List Tok} {d : Int} {k1 : Nat} {t : Tok} (h : FY w g a c ts d k1 t w4) (hglt : g < w.heap.size) (n : Int) (hk : k1 + 1 <= 2000) :
  FZ w g a c ts d (k1 + 1) 0 (.slice none 0 0) n ((w4.setCell ⟨w.heap.size + 1, 1, none⟩ (.int .u32 n)).setCell ⟨g, 1, none⟩ (.int .i64 ((k1 : Int) + 1))) := by
 obtain ⟨s1, s2⟩ := (twoPut h.x).1 (.int .u32 n)
 exact fz_step (w4 := w4) hglt (grown_highD h.grown s2 (by omega)) (by have := s2.size; have := h.size; omega) (h.res.grown s2 (by simp)) s1 (h.rr.grown s2 (by simp; omega) (fun y hy => by have := h.rr.ne y hy; simp; omega)) hk
theorem fz_name {w w4 : World} {g : Nat} {a : Option Addr} {c : Nat} {ts : List Tok} {d : Int} {k1 : Nat} {t : Tok} (h : FY w g a c ts d k1 t w4) (hglt : g < w.heap.size) (s : ByteArray) :
  FZ w g a c ts d k1 0 (.slice (some ⟨w.heap.size + 3, 0, none⟩) 1 1) 0 ((w4.setCell ⟨w.heap.size + 1, 0, none⟩ (.slice (some ⟨w.heap.size + 3, 0, none⟩) 1 1)).alloc (.cells #[.string s, .int .u32 1] 61)) /\ ((w4.setCell ⟨w.heap.size + 1, 0, none⟩ (.slice (some ⟨w.heap.size + 3, 0, none⟩) 1 1)).alloc (.cells #[.string s, .int .u32 1] 61)).ownsRow (w.heap.size + 3) 61 2 (.slice (some ⟨w.heap.size + 3, 0, none⟩) 1 1) 1 [.string s, .int .u32 1] := by
 obtain ⟨s1, s2⟩ := (twoPut h.x).2 (.slice (some ⟨w.heap.size + 3, 0, none⟩) 1 1)
 have hs := h.size
 have hs5 : (w4.setCell ⟨w.heap.size + 1, 0, none⟩ (.slice (some ⟨w.heap.size + 3, 0, none⟩) 1 1)).heap.size = w.heap.size + 3 := by simp [hs]
 have hr := h.rr.grown s2 (by simp; omega) (fun y hy => by have := h.rr.ne y hy; simp; omega)
 have hg := grown_highD h.grown s2 (by omega)
 have hres := h.res.grown s2 (by simp)
 generalize w4.setCell ⟨w.heap.size + 1, 0, none⟩ (.slice (some ⟨w.heap.size + 3, 0, none⟩) 1 1) = w5 at s1 hs5 hr hg hres ⊢
 have hown := own_new w5 (w.heap.size + 3) (by omega) #[.string s, .int .u32 1] 1 61 2 rfl (by omega) (by omega)
 rw [hs5] at hown
 exact ⟨⟨grown_trans hg (World.grownBy_alloc w5 _ _), by simp [hs5], hres.alloc _, s1.alloc _, hr.below (below_alloc w5 _)⟩, hown⟩
theorem fz_below {w w5 w6 : World} {g : Nat} {a : Option Addr} {c : Nat} {ts : List Tok} {d : Int} {k1 : Nat} {e : Int} {vx : Value} {cx : Int} (h : FZ w g a c ts d k1 e vx cx w5) (hb : Below w5.heap.size w5 w6) : FZ w g a c ts d k1 e vx cx w6 :=
 ⟨grown_trans h.grown (grown_wide (grown_of_below hb) _), Nat.le_trans h.size hb.size, h.res.below hb (by have := h.size; omega), h.x.below hb (by have := h.size; omega), h.rr.below hb⟩
theorem fz_next {w w5 : World} {g : Nat} {a : Option Addr} {c : Nat} {ts : List Tok} {d : Int} {k1 : Nat} {vx : Value} {cx : Int} (h : FZ w g a c ts d k1 0 vx cx w5) (hglt : g < w.heap.size) (hk : k1 + 1 <= 2000) :
  FZ w g a c ts d (k1 + 1) 0 vx cx (w5.setCell ⟨g, 1, none⟩ (.int .i64 ((k1 : Int) + 1))) /\ w5.grownBy (w5.setCell ⟨g, 1, none⟩ (.int .i64 ((k1 : Int) + 1))) (some g) :=
 ⟨fz_step (w4 := w5) hglt h.grown h.size h.res h.x h.rr hk, (h.rr.setK ((k1 : Int) + 1) (by omega) (by omega)).2⟩
theorem times_own {w : World} {B : Nat} {a : Option Addr} {n c : Nat} (x : Lin) (h : w.ownsRow B 61 2 (.slice a n c) x.terms.length (rowT x.terms)) (k : Int) (hl : x.terms.length <= 4400000) :
  Calls Tryz.prog 99 #[linV (.slice a n c) x.const, .int .u32 k] w fun e w' => Below w.heap.size w w' /\ ∃ va m vc, e = .returned (linV (.slice va m vc) (timesL x k).const) /\ w'.ownsRow w.heap.size 61 2 (.slice va m vc) (timesL x k).terms.length (rowT (timesL x k).terms) := by
 have hn := own_len h
 subst hn
 refine (refTimes_any a c x.terms x.const k hl w (own_tmLies h)).mono ?_
 rintro e w' ⟨hb, v, rfl, hown⟩
 obtain ⟨va, vc, rfl⟩ := own_slice hown
 exact ⟨hb, va, _, vc, rfl, hown⟩
theorem fin_times {w w5 w6 : World} {g : Nat} {a : Option Addr} {c : Nat} {ts : List Tok} {d : Int} {k2 : Nat} {e : Int} {vx : Value} {cx : Int} (hZ : FZ w g a c ts d k2 e vx cx w5) (hglt : g < w.heap.size) (hb6 : Below w5.heap.size w5 w6) (y : Lin) (va : Option Addr) (n vc : Nat) (hown : w6.ownsRow w5.heap.size 61 2 (.slice va n vc) y.terms.length (rowT y.terms)) :
  FZ w g a c ts d k2 e (.slice va n vc) y.const ((w6.setCell ⟨w.heap.size + 1, 0, none⟩ (.slice va n vc)).setCell ⟨w.heap.size + 1, 1, none⟩ (.int .u32 y.const)) /\ ((w6.setCell ⟨w.heap.size + 1, 0, none⟩ (.slice va n vc)).setCell ⟨w.heap.size + 1, 1, none⟩ (.int .u32 y.const)).ownsRow (w.heap.size + 1) 61 2 (.slice va n vc) y.terms.length (rowT y.terms) := by
 have hs := hZ.size
 have h6 := hb6.size
 obtain ⟨s1, s2⟩ := two_set (hZ.x.below hb6 (by omega)).heap rfl (.slice va n vc) (.int .u32 y.const)
 have h7 := s2.size
 have hr := hZ.rr.below hb6
 refine ⟨⟨grown_highD (grown_trans hZ.grown (grown_wide (grown_of_below hb6) _)) s2 (by omega), by omega, (hZ.res.below hb6 (by omega)).grown s2 (by simp), s1, hr.grown s2 (by simp; omega) (fun y hy => by have := hr.ne y hy; simp; omega)⟩, own_weaken (own_low hown s2 (by omega)) (by omega)⟩
theorem fz_deep {w w4 : World} {g : Nat} {a : Option Addr} {c : Nat} {ts : List Tok} {d : Int} {k1 : Nat} {t : Tok} (h : FY w g a c ts d k1 t w4) (hglt : g < w.heap.size) (hk : k1 + 1 <= 2000) :
  FZ w g a c ts (d + 1) (k1 + 1) 0 (.slice none 0 0) 0 ((w4.setCell ⟨g, 2, none⟩ (.int .i64 (d + 1))).setCell ⟨g, 1, none⟩ (.int .i64 ((k1 : Int) + 1))) := by
 obtain ⟨s1, s2⟩ := h.rr.setD (d + 1)
 exact fz_step (w4 := w4) hglt (grown_trans h.grown s2) (by have := s2.size; have := h.size; omega) (h.res.grown s2 (by simp; omega)) (h.x.grown s2 (by simp; omega)) s1 hk
theorem fz_back {w w5 w7 : World} {g : Nat} {a : Option Addr} {c : Nat} {ts : List Tok} {d : Int} {k2 k3 : Nat} {e : Int} {vx : Value} {cx : Int} (hZ : FZ w g a c ts (d + 1) k2 0 vx cx w5) (hglt : g < w.heap.size) (hg7 : w5.grownBy w7 (some g)) (hr : RR w7 g a c ts k3 (d + 1) e) (y : Lin) (va : Option Addr) (n vc : Nat) (hown : w7.ownsRow w5.heap.size 61 2 (.slice va n vc) y.terms.length (rowT y.terms)) :
  FZ w g a c ts d k3 e (.slice va n vc) y.const (((w7.setCell ⟨w.heap.size + 1, 0, none⟩ (.slice va n vc)).setCell ⟨w.heap.size + 1, 1, none⟩ (.int .u32 y.const)).setCell ⟨g, 2, none⟩ (.int .i64 d)) /\ (((w7.setCell ⟨w.heap.size + 1, 0, none⟩ (.slice va n vc)).setCell ⟨w.heap.size + 1, 1, none⟩ (.int .u32 y.const)).setCell ⟨g, 2, none⟩ (.int .i64 d)).ownsRow (w.heap.size + 3) 61 2 (.slice va n vc) y.terms.length (rowT y.terms) := by
 have hs := hZ.size
 have h6 := hg7.size
 obtain ⟨s1, s2⟩ := two_set (hZ.x.grown hg7 (by simp; omega)).heap rfl (.slice va n vc) (.int .u32 y.const)
 have h7 := s2.size
 have hr2 := hr.grown s2 (by simp; omega) (fun y hy => by have := hr.ne y hy; simp; omega)
 obtain ⟨d1, d2⟩ := hr2.setD d
 have h8 := d2.size
 refine ⟨⟨grown_trans (grown_highD (grown_trans hZ.grown hg7) s2 (by omega)) d2, by omega, (((hZ.res.grown hg7 (by simp; omega)).grown s2 (by simp)).grown d2 (by simp; omega)), s1.grown d2 (by simp; omega), d1⟩, own_weaken (own_low (own_low hown s2 (by omega)) d2 (by omega)) (by omega)⟩
set_option maxHeartbeats 4000000 in
theorem refFactor_any (a : Option Addr) (c g : Nat) (ts : List Tok) (W : List Tok -> PRes) (hW : Fine W) (d : Int) (hd0 : 0 <= d) (hd1 : d <= 32) (hrec : d ≠ 32 -> RSum g a c ts (d + 1) W) (h32 : d = 32 -> ∀ l, W l = .error 21) (w : World) (k : Nat) (hk : k <= ts.length) (h : RR w g a c ts k d 0) :
  Calls Tryz.prog 102 #[.pointer (some ⟨g, 0, none⟩)] w fun e w' => ROutD w g a c ts k d (factorF W (ts.drop k)) e w' := by
 have hglt := h.lt
 have hfew := h.few
 have hshort := h.short
 have hnums := h.nums
 have hstart : Hid (FSt2 w g a c ts k d false k (w.alloc (.cells #[.slice none 0 0, .int .u32 0] 31))) := ⟨World.grownBy_alloc w _ _, by simp, two_new w 31 _ _, h.below (below_alloc w _), Nat.le_refl _, hk, rfl⟩
 have hrecH := Hid.intro hrec
 obtain ⟨R0, hR0⟩ : ∃ R0, R0 = factorF W (ts.drop k) := ⟨_, rfl⟩
 rw [<- hR0]
 have hR0H := Hid.intro hR0
 clear h hrec hR0
 go_enter Tryz.func102, Tryz.ntmps102
 go_wp2
 go_loopw [3] (fun v3 wr => ∃ (m : Bool) (k1 : Nat), v3 = .bool m /\ Hid (FSt2 w g a c ts k d m k1 wr)) (fun v3 wr => leftK g wr)
 case atStart => exact ⟨false, k, rfl, hstart⟩
 case round =>
  clear hstart
  obtain ⟨m, k1, rfl, hS⟩ := hrel
  have hsz := hS.out.size
  rcases isK_cases ts k1 45 with ⟨hK, hhead⟩ | ⟨hK, t, ht, hs, hdr⟩
  ·have hno := Hid.intro (is_b a c g ts k1 d 0 45 false hK wr hS.out.rr)
   have hF : Hid (R0 = bareF W (if m then 4294967295 else 1) (ts.drop k1)) := by
    show R0 = _
    rw [hR0H.out]; unfold factorF; rw [hS.out.eq, minus_no hhead]
   by_cases hend : ts.length <= k1
   ·have hke : k1 = ts.length := by have := hS.out.le2; omega
    have hFE : Hid (R0 = .error 20) := by
     show R0 = _
     rw [hF.out, List.drop_eq_nil_of_le hend]
     rfl
    clear hF hhead hK hend
    subst hke
    go_wp2_with (go_at_call 98; (with_reducible refine (hno.out).mono ?_); rintro e w2 ⟨rfl, hz2, hb2⟩; have hR2 := Hid.intro (fun o => (hS.out.rr.below hb2).below (below_alloc w2 o)); have y0 := fun o => (hR2.out o).cells.1; have y1 := fun o => (hR2.out o).cells.2.1; have y3 := fun o => (hR2.out o).cells.2.2.2)
    all_goals first | omega | skip
    go_quiet (fail)
    go_wp2_with (go_at_call 95; (with_reducible refine (refuse_any a c g ts _ d 0 20 _ ((hR2.out _).below (below_drewN (Below.refl _ _) _))).mono ?_); rintro e w3 ⟨rfl, hg3, hR3⟩; replace hR3 := Hid.intro hR3; obtain ⟨t1, t2, hgw, hsz2, hsz3⟩ := after_x hS.out hglt hz2 hb2 (below_drewN (Below.refl _ _) _) hg3; obtain ⟨th, _, _, tf0, tf1⟩ := t1; replace th := Hid.intro th; rw [hsz2] at t2; obtain ⟨_, z0, z1, _, _⟩ := t2)
    all_goals first | omega | skip
    obtain ⟨s1, s2⟩ := two_set th.out rfl (.slice none 0 0) (.int .u32 0)
    generalize (((w3).setCell ⟨w.heap.size, 0, none⟩ (.slice none 0 0)).setCell ⟨w.heap.size, 1, none⟩ (.int .u32 0)) = w9 at s1 s2 ⊢
    obtain ⟨_, u0, u1, _, _⟩ := s1
    refine bodyPost_ret (by simp [results, Tryz.results102, go_sem, u0, u1]; try rfl) rfl ?_
    rw [hFE.out]
    exact rout ⟨[], 0⟩ none 0 0 ts.length 20 hglt hgw s2 hR3.out (own_nil _ _ _ _) (by simpa using hk) (Nat.le_refl _) rfl
   ·obtain ⟨t, ht⟩ : ∃ t, ts[k1]? = some t := ⟨ts[k1]'(by omega), List.getElem?_eq_getElem _⟩
    have hdr := drop_at ts k1 t ht
    obtain ⟨gt, off, rfl⟩ := tk_addr hS.out.rr ht
    have hlt : k1 < ts.length := by omega
    have hgt := hS.out.rr.ne _ rfl
    simp only at hgt
    go_wp2_with (go_at_call 98; (with_reducible refine (hno.out).mono ?_); rintro e w2 ⟨rfl, hz2, hb2⟩; have hR2 := Hid.intro (fun o => (hS.out.rr.below hb2).below (below_alloc w2 o)); have y0 := fun o => (hR2.out o).cells.1; have y1 := fun o => (hR2.out o).cells.2.1; have y3 := fun o => (hR2.out o).cells.2.2.2)
    all_goals first | omega | skip
    go_quiet (fail)
    have hX := fx_new hS.out hglt hz2 hb2 nq
    generalize (w2.alloc (Obj.cells #[Value.slice none 0 0, Value.int IntKind.u32 0] 31)).drewN nq = w3 at hX ⊢
    clear hR2 y0 y1 y3 hz2 hb2 hno
    replace hX := Hid.intro hX
    have a0 := fun o => (hX.out.rr.below (below_alloc _ o)).cells.1
    have a1 := fun o => (hX.out.rr.below (below_alloc _ o)).cells.2.1
    have b0 := hX.out.rr.cells.1
    have b1 := hX.out.rr.cells.2.1
    obtain ⟨q0, q1, q2, q3⟩ := tk_of hX.out.rr ht
    have p0 := fun o => (tk_of (hX.out.rr.below (below_alloc _ o)) ht).o
    have p1 := fun o => (tk_of (hX.out.rr.below (below_alloc _ o)) ht).a
    have p2 := fun o => (tk_of (hX.out.rr.below (below_alloc _ o)) ht).b
    have p3 := fun o => (tk_of (hX.out.rr.below (below_alloc _ o)) ht).n
    go_wp2
    all_goals first | omega | skip
    go_region
    all_goals first | omega | skip
    have hY := fy_new hX.out t
    have hs3 := hX.out.size
    simp only [hs3]
    clear hs3
    generalize (w3.alloc (Obj.cells #[Value.int IntKind.i64 t.kind, Value.string (str t.text), Value.int IntKind.u32 t.num, Value.int IntKind.i64 (t.place : Int)] 103)).drew = w4 at hY ⊢
    clear hX a0 a1 b0 b1 q0 q1 q2 q3 p0 p1 p2 p3
    replace hY := Hid.intro hY
    obtain ⟨xh, x0, x1, xf0, xf1⟩ := hY.out.x
    obtain ⟨rh, r0, r1, rf0, rf1⟩ := hY.out.res
    replace xh := Hid.intro xh
    replace rh := Hid.intro rh
    have c0 := hY.out.kind
    have c1 := hY.out.text
    have c2 := hY.out.num
    obtain ⟨v0, v1, v2, v3⟩ := hY.out.rr.cells
    have f1 := hY.out.rr.frozen 1
    have f2 := hY.out.rr.frozen 2
    have hs4 := hY.out.size
    have n1 : ¬ g = w.heap.size + 1 := by omega
    have n2 : ¬ w.heap.size + 1 = g := by omega
    have n3 : ¬ g = w.heap.size := by omega
    have n4 : ¬ w.heap.size = g := by omega
    have hkk := hS.out.le
    have htn := hnums t (List.mem_of_getElem? ht)
    have hts := hshort t (List.mem_of_getElem? ht)
    by_cases h2 : t.kind = 2
    ·rw [h2] at c0
     have hb := Hid.intro (show bareF W (if m then 4294967295 else 1) (ts.drop k1) = .ok (timesL ⟨[], t.num⟩ (if m then 4294967295 else 1), ts.drop (k1 + 1)) by rw [hdr, bareF, if_neg (by simp [isS, h2]), singleF_num h2])
     clear hhead hK
     cases m
     ·go_wp2
      all_goals first | omega | skip
      have hZ := fz_num hY.out hglt t.num (by omega)
      generalize ((w4.setCell ⟨w.heap.size + 1, 1, none⟩ (.int .u32 t.num)).setCell ⟨g, 1, none⟩ (.int .i64 ((k1 : Int) + 1))) = w8 at hZ ⊢
      obtain ⟨e1, e2⟩ := two_set hZ.res.heap rfl (.slice none 0 0) (.int .u32 t.num)
      generalize ((w8.setCell ⟨w.heap.size, 0, none⟩ (.slice none 0 0)).setCell ⟨w.heap.size, 1, none⟩ (.int .u32 t.num)) = w9 at e1 e2 ⊢
      obtain ⟨_, u0, u1, _, _⟩ := e1
      refine bodyPost_ret (by simp [results, Tryz.results102, go_sem, u0, u1]; try rfl) rfl ?_
      rw [hF.out, hb.out]
      exact rout ⟨[], t.num⟩ none 0 0 (k1 + 1) 0 hglt hZ.grown e2 hZ.rr (own_nil _ _ _ _) (by simp; omega) (by omega) ⟨rfl, by simp [timesL, timesT]; omega, rfl⟩
     ·have h99 := Hid.intro (fun w (_ : True) => refTimes_any none 0 [] t.num 4294967295 (by simp) w (TmLies.nil _ _))
      simp only [List.length_nil] at h99
      have hZ := Hid.intro (fz_num hY.out hglt t.num (by omega))
      go_wp2_with (go_at_call 99; (with_reducible refine (h99.out _ trivial).mono ?_); rintro e w6 ⟨hb6, v, rfl, hown6⟩; obtain ⟨va, vc, rfl⟩ := own_slice hown6; replace hown6 := Hid.intro hown6; obtain ⟨xh6, _, _, x60, x61⟩ := hZ.out.x.below hb6 (by have := hZ.out.size; omega); replace xh6 := Hid.intro xh6; obtain ⟨rh6, _, _, r60, r61⟩ := hZ.out.res.below hb6 (by have := hZ.out.size; omega); replace rh6 := Hid.intro rh6)
      all_goals first | omega | skip
      have hT := fin_times hZ.out hglt hb6 (timesL ⟨[], t.num⟩ 4294967295) va _ vc hown6.out
      simp only [timesL] at hT
      generalize ((w6.setCell ⟨w.heap.size + 1, 0, none⟩ (.slice va (timesT [] 4294967295).length vc)).setCell ⟨w.heap.size + 1, 1, none⟩ (.int .u32 (t.num * 4294967295 % 4294967296))) = w8 at hT ⊢
      obtain ⟨hZ8, hown8⟩ := hT
      obtain ⟨e1, e2⟩ := two_set hZ8.res.heap rfl (.slice va (timesT [] 4294967295).length vc) (.int .u32 (t.num * 4294967295 % 4294967296))
      generalize ((w8.setCell ⟨w.heap.size, 0, none⟩ (.slice va (timesT [] 4294967295).length vc)).setCell ⟨w.heap.size, 1, none⟩ (.int .u32 (t.num * 4294967295 % 4294967296))) = w9 at e1 e2 ⊢
      obtain ⟨_, u0, u1, _, _⟩ := e1
      refine bodyPost_ret (by simp [results, Tryz.results102, go_sem, u0, u1]; try rfl) rfl ?_
      rw [hF.out, hb.out]
      have hll : (timesT [] 4294967295).length = 0 := rfl
      exact rout (timesL ⟨[], t.num⟩ 4294967295) va _ vc (k1 + 1) 0 hglt hZ8.grown e2 hZ8.rr hown8 (by show (timesT [] 4294967295).length + k <= k1 + 1; omega) (by omega) ⟨rfl, rfl, rfl⟩
    by_cases h1 : t.kind = 1
    ·have g2 : (t.kind == 2) = false := by simp [h2]
     have hleg := Hid.intro (fun w => refLegal_any (str t.text) (by show t.text.length <= _; omega) w)
     rw [h1] at c0
     cases hl : legB (str t.text)
     ·have hFE : Hid (R0 = .error 20) := by
       show R0 = _
       rw [hF.out, hdr, bareF, if_neg (by simp [isS, h1]), singleF_none h2 (by simp [hl])]
      rw [hl] at hleg
      clear hF hhead hK hdr
      go_wp2_with (first | (go_at_call 32; (with_reducible refine (hleg.out _).mono ?_); rintro e w5 ⟨rfl, rfl⟩) | (go_at_call 95; (with_reducible refine (refuse_any (some ⟨gt, off, none⟩) c g ts _ d 0 20 _ hY.out.rr).mono ?_); rintro e w5 ⟨rfl, hg5, hR5⟩; replace hR5 := Hid.intro hR5; obtain ⟨rh5, _, _, rf05, rf15⟩ := hY.out.res.grown hg5 (by simp; omega); replace rh5 := Hid.intro rh5; obtain ⟨_, z0, z1, _, _⟩ := hY.out.x.grown hg5 (by simp; omega)))
      all_goals first | omega | skip
      obtain ⟨s1, s2⟩ := two_set rh5.out rfl (.slice none 0 0) (.int .u32 0)
      generalize (((w5).setCell ⟨w.heap.size, 0, none⟩ (.slice none 0 0)).setCell ⟨w.heap.size, 1, none⟩ (.int .u32 0)) = w9 at s1 s2 ⊢
      obtain ⟨_, u0, u1, _, _⟩ := s1
      refine bodyPost_ret (by simp [results, Tryz.results102, go_sem, u0, u1]; try rfl) rfl ?_
      rw [hFE.out]
      exact rout ⟨[], 0⟩ none 0 0 k1 20 hglt (grown_trans hY.out.grown hg5) s2 hR5.out (own_nil _ _ _ _) (by simpa using hkk) (by omega) rfl
     ·have hb := Hid.intro (show bareF W (if m then 4294967295 else 1) (ts.drop k1) = .ok (timesL ⟨[⟨t.text, 1⟩], 0⟩ (if m then 4294967295 else 1), ts.drop (k1 + 1)) by rw [hdr, bareF, if_neg (by simp [isS, h1]), singleF_name h1 hl])
      rw [hl] at hleg
      have hgood : GoodL ⟨[⟨t.text, 1⟩], 0⟩ := ⟨singleF_good (singleF_name h1 hl), by simp, by simp⟩
      clear hhead hK
      go_upto_region 27 with (go_at_call 32; (with_reducible refine (hleg.out _).mono ?_); rintro e w5 ⟨rfl, rfl⟩)
      all_goals first | omega | skip
      have hZ := fz_name hY.out hglt (str t.text)
      generalize ((w5.setCell ⟨w.heap.size + 1, 0, none⟩ (.slice (some ⟨w.heap.size + 3, 0, none⟩) 1 1)).alloc (.cells #[.string (str t.text), .int .u32 1] 61)) = w6 at hZ ⊢
      obtain ⟨hZ, hO⟩ := hZ
      replace hZ := Hid.intro hZ
      replace hO : Hid (w6.ownsRow (w.heap.size + 3) 61 2 (.slice (some ⟨w.heap.size + 3, 0, none⟩) 1 1) (⟨[⟨t.text, 1⟩], 0⟩ : Lin).terms.length (rowT (⟨[⟨t.text, 1⟩], 0⟩ : Lin).terms)) := hO
      clear xh x0 x1 xf0 xf1 rh r0 r1 rf0 rf1 c0 c1 c2 v0 v1 v2 v3 f1 f2 hs4 hY
      obtain ⟨zh, z0, z1, zf0, zf1⟩ := hZ.out.x
      replace zh := Hid.intro zh
      obtain ⟨rh2, _, _, rf20, rf21⟩ := hZ.out.res
      replace rh2 := Hid.intro rh2
      obtain ⟨i0, i1, i2, i3⟩ := hZ.out.rr.cells
      have j1 := hZ.out.rr.frozen 1
      have hN := Hid.intro (fz_next hZ.out hglt (by omega))
      have hO2 := Hid.intro (own_low hO.out hN.out.2 (by omega))
      cases m
      ·go_wp2
       all_goals first | omega | skip
       replace hN := hN.out.1
       replace hO2 := hO2.out
       generalize (w6.setCell ⟨g, 1, none⟩ (.int .i64 (((k1 : Nat) : Int) + 1))) = w8 at hN hO2 ⊢
       obtain ⟨e1, e2⟩ := two_set hN.res.heap rfl (.slice (some ⟨w.heap.size + 3, 0, none⟩) 1 1) (.int .u32 0)
       generalize ((w8.setCell ⟨w.heap.size, 0, none⟩ (.slice (some ⟨w.heap.size + 3, 0, none⟩) 1 1)).setCell ⟨w.heap.size, 1, none⟩ (.int .u32 0)) = w9 at e1 e2 ⊢
       obtain ⟨_, u0, u1, _, _⟩ := e1
       refine bodyPost_ret (by simp [results, Tryz.results102, go_sem, u0, u1]; try rfl) rfl ?_
       rw [hF.out, hb.out]
       exact rout ⟨[⟨t.text, 1⟩], 0⟩ _ _ _ (k1 + 1) 0 hglt hN.grown e2 hN.rr (own_weaken hO2 (by omega)) (by show 1 + k <= k1 + 1; omega) (by omega) ⟨rfl, (timesL_one hgood).symm, rfl⟩
      ·have h99 := Hid.intro (times_own ⟨[⟨t.text, 1⟩], 0⟩ hO2.out 4294967295 (by simp))
       go_wp2_with (go_at_call 99; (with_reducible refine (h99.out).mono ?_); rintro e w6 ⟨hb6, va, vn, vc, rfl, hown6⟩; replace hown6 := Hid.intro hown6; obtain ⟨xh6, _, _, x60, x61⟩ := hN.out.1.x.below hb6 (by have := hN.out.1.size; omega); replace xh6 := Hid.intro xh6; obtain ⟨rh6, _, _, r60, r61⟩ := hN.out.1.res.below hb6 (by have := hN.out.1.size; omega); replace rh6 := Hid.intro rh6)
       all_goals first | omega | skip
       have hT := fin_times hN.out.1 hglt hb6 (timesL ⟨[⟨t.text, 1⟩], 0⟩ 4294967295) va vn vc hown6.out
       generalize ((w6.setCell ⟨w.heap.size + 1, 0, none⟩ (.slice va vn vc)).setCell ⟨w.heap.size + 1, 1, none⟩ (.int .u32 (timesL ⟨[⟨t.text, 1⟩], 0⟩ 4294967295).const)) = w8 at hT ⊢
       obtain ⟨hZ8, hown8⟩ := hT
       obtain ⟨e1, e2⟩ := two_set hZ8.res.heap rfl (.slice va vn vc) (.int .u32 (timesL ⟨[⟨t.text, 1⟩], 0⟩ 4294967295).const)
       generalize ((w8.setCell ⟨w.heap.size, 0, none⟩ (.slice va vn vc)).setCell ⟨w.heap.size, 1, none⟩ (.int .u32 (timesL ⟨[⟨t.text, 1⟩], 0⟩ 4294967295).const)) = w9 at e1 e2 ⊢
       obtain ⟨_, u0, u1, _, _⟩ := e1
       refine bodyPost_ret (by simp [results, Tryz.results102, go_sem, u0, u1]; try rfl) rfl ?_
       rw [hF.out, hb.out]
       have hll := times_len (⟨[⟨t.text, 1⟩], 0⟩ : Lin).terms 4294967295
       exact rout (timesL ⟨[⟨t.text, 1⟩], 0⟩ 4294967295) va vn vc (k1 + 1) 0 hglt hZ8.grown e2 hZ8.rr hown8 (by have hl2 : (timesL ⟨[⟨t.text, 1⟩], 0⟩ 4294967295).terms.length <= (⟨[⟨t.text, 1⟩], 0⟩ : Lin).terms.length := hll; have hl3 : (⟨[⟨t.text, 1⟩], 0⟩ : Lin).terms.length + k <= k1 + 1 := (by show 1 + k <= k1 + 1; omega); omega) (by omega) ⟨rfl, rfl, rfl⟩
    by_cases h3 : t.kind = 3
    ·have g1 : (t.kind == 1) = false := by simp [h1]
     have g2 : (t.kind == 2) = false := by simp [h2]
     by_cases htx : t.text = [40]
     ·have hb := Hid.intro (show bareF W (if m then 4294967295 else 1) (ts.drop k1) = closeF (if m then 4294967295 else 1) (W (ts.drop (k1 + 1))) by rw [hdr, bareF, if_pos (by simp [isS, h3, htx])])
      rw [h3] at c0
      rw [htx] at c1
      replace c1 : w4.cell? ⟨w.heap.size + 2, 1, none⟩ = some (.string ⟨#[40]⟩) := c1
      by_cases hd32 : d = 32
      ·have hFE : Hid (R0 = .error 21) := by
        show R0 = _
        rw [hF.out, hb.out, h32 hd32]
        rfl
       clear hF hhead hK hdr
       have hdd : (d == 32) = true := by simp [hd32]
       go_wp2_with (go_at_call 95; (with_reducible refine (refuse_any (some ⟨gt, off, none⟩) c g ts _ d 0 21 _ hY.out.rr).mono ?_); rintro e w5 ⟨rfl, hg5, hR5⟩; replace hR5 := Hid.intro hR5; obtain ⟨rh5, _, _, rf05, rf15⟩ := hY.out.res.grown hg5 (by simp; omega); replace rh5 := Hid.intro rh5; obtain ⟨_, z0, z1, _, _⟩ := hY.out.x.grown hg5 (by simp; omega))
       all_goals first | omega | skip
       obtain ⟨s1, s2⟩ := two_set rh5.out rfl (.slice none 0 0) (.int .u32 0)
       generalize (((w5).setCell ⟨w.heap.size, 0, none⟩ (.slice none 0 0)).setCell ⟨w.heap.size, 1, none⟩ (.int .u32 0)) = w9 at s1 s2 ⊢
       obtain ⟨_, u0, u1, _, _⟩ := s1
       refine bodyPost_ret (by simp [results, Tryz.results102, go_sem, u0, u1]; try rfl) rfl ?_
       rw [hFE.out]
       exact rout ⟨[], 0⟩ none 0 0 k1 21 hglt (grown_trans hY.out.grown hg5) s2 hR5.out (own_nil _ _ _ _) (by simpa using hkk) (by omega) rfl
      ·have hdd : (d == 32) = false := by simp [hd32]
       have hD := Hid.intro (fz_deep hY.out hglt (by omega))
       have hsum := Hid.intro (hrecH.out hd32 _ (k1 + 1) hD.out.rr (by omega))
       clear hhead hK
       cases hWr : W (ts.drop (k1 + 1)) with
       | error q =>
        rw [hWr] at hsum hb
        have hq := hW.err _ _ hWr
        have hFE : Hid (R0 = .error q) := by
         show R0 = _
         rw [hF.out, hb.out]
         rfl
        clear hF hb hdr hWr
        go_upto_region 24 with (go_at_call 94; (with_reducible refine (hsum.out).mono ?_); rintro e w7 ⟨hg7, y, va, n, vc, k3, e3, rfl, hown7, hR7, hl7, hk7, hres⟩; have hBk := Hid.intro (fz_back hD.out hglt hg7 hR7 y va n vc hown7); obtain ⟨xh7, _, _, x70, x71⟩ := hD.out.x.grown hg7 (by simp; omega); replace xh7 := Hid.intro xh7; have i2 := hR7.cells.2.2.1; have j2 := hR7.frozen 2; replace hres : e3 = q := hres)
        all_goals first | omega | skip
        subst hres
        replace hBk := hBk.out
        generalize (((w7.setCell ⟨w.heap.size + 1, 0, none⟩ (.slice va n vc)).setCell ⟨w.heap.size + 1, 1, none⟩ (.int .u32 y.const)).setCell ⟨g, 2, none⟩ (.int .i64 d)) = w8 at hBk ⊢
        obtain ⟨hZ, hO⟩ := hBk
        replace hZ := Hid.intro hZ
        replace hO := Hid.intro hO
        clear xh x0 x1 xf0 xf1 rh r0 r1 rf0 rf1 c0 c1 c2 v0 v1 v2 v3 f1 f2 hs4 hY xh7 x70 x71 i2 j2 hsum hD hR7 hown7 hg7
        have hq0 : e3 ≠ 0 := by rcases hq with h | h <;> omega
        have hKe := isK_err (ts := ts) (k := (k3 : Int)) (c := 41) hq0
        have hfe : firstE e3 20 = e3 := by rw [firstE, if_neg hq0]
        go_wp2_with (first | (go_at_call 98; (with_reducible refine (is_b (some ⟨gt, off, none⟩) c g ts k3 d e3 41 false hKe w8 hZ.out.rr).mono ?_); rintro e wa ⟨rfl, hza, hba⟩; have hRa := Hid.intro (hZ.out.rr.below hba); obtain ⟨i0, i1, i2, i3⟩ := hRa.out.cells; have j1 := hRa.out.frozen 1; obtain ⟨rha, _, _, rfa0, rfa1⟩ := hZ.out.res.below hba (by have := hZ.out.size; omega); replace rha := Hid.intro rha; obtain ⟨_, z0, z1, zf0, zf1⟩ := hZ.out.x.below hba (by have := hZ.out.size; omega)) | (go_at_call 95; (with_reducible refine (refuse_any (some ⟨gt, off, none⟩) c g ts _ d e3 20 _ hRa.out).mono ?_); rintro e wb ⟨rfl, hgb, hRb⟩; replace hRb := Hid.intro hRb; obtain ⟨rhb, _, _, rfb0, rfb1⟩ := (hZ.out.res.below hba (by have := hZ.out.size; omega)).grown hgb (by simp; omega); replace rhb := Hid.intro rhb; obtain ⟨_, y0, y1, _, _⟩ := (hZ.out.x.below hba (by have := hZ.out.size; omega)).grown hgb (by simp; omega)))
        all_goals first | omega | skip
        obtain ⟨s1, s2⟩ := two_set rhb.out rfl (.slice va n vc) (.int .u32 y.const)
        generalize ((wb.setCell ⟨w.heap.size, 0, none⟩ (.slice va n vc)).setCell ⟨w.heap.size, 1, none⟩ (.int .u32 y.const)) = w9 at s1 s2 ⊢
        obtain ⟨_, u0, u1, _, _⟩ := s1
        refine bodyPost_ret (by simp [results, Tryz.results102, go_sem, u0, u1]; try rfl) rfl ?_
        rw [hFE.out]
        have hOb := own_low (own_low hO.out (grown_wide (grown_of_below hba) (some g)) (by omega)) hgb (by omega)
        exact rout y va n vc k3 e3 hglt (grown_trans (grown_trans hZ.out.grown (grown_wide (grown_of_below hba) _)) hgb) s2 (by have := hRb.out; rwa [hfe] at this) (own_weaken hOb (by omega)) (by omega) hk7 rfl
       | ok p =>
        obtain ⟨yy0, rr0⟩ := p
        rw [hWr] at hsum hb
        have hgd := hW.good _ _ _ hWr
        clear hdr hWr
        go_upto_region 24 with (go_at_call 94; (with_reducible refine (hsum.out).mono ?_); rintro e w7 ⟨hg7, y, va, n, vc, k3, e3, rfl, hown7, hR7, hl7, hk7, rfl, rfl, hres⟩; have hBk := Hid.intro (fz_back hD.out hglt hg7 hR7 y va n vc hown7); obtain ⟨xh7, _, _, x70, x71⟩ := hD.out.x.grown hg7 (by simp; omega); replace xh7 := Hid.intro xh7; have i2 := hR7.cells.2.2.1; have j2 := hR7.frozen 2; replace hres := Hid.intro hres)
        all_goals first | omega | skip
        replace hBk := hBk.out
        generalize (((w7.setCell ⟨w.heap.size + 1, 0, none⟩ (.slice va n vc)).setCell ⟨w.heap.size + 1, 1, none⟩ (.int .u32 y.const)).setCell ⟨g, 2, none⟩ (.int .i64 d)) = w8 at hBk ⊢
        obtain ⟨hZ, hO⟩ := hBk
        replace hZ := Hid.intro hZ
        replace hO := Hid.intro hO
        clear xh x0 x1 xf0 xf1 rh r0 r1 rf0 rf1 c0 c1 c2 v0 v1 v2 v3 f1 f2 hs4 hY xh7 x70 x71 i2 j2 hsum hD hR7 hown7 hg7
        rcases isK_cases ts k3 41 with ⟨hK, hhead⟩ | ⟨hK, u, hu, hs, hdu⟩
        ·have hFE : Hid (R0 = .error 20) := by
          show R0 = _
          rw [hF.out, hb.out, <- hres.out]
          cases hdd3 : ts.drop k3 with
          | nil => rfl
          | cons u r => rw [hdd3] at hhead; rw [closeF, if_neg (by rw [show isS u 41 = false from hhead]; decide)]
         clear hF hb
         go_wp2_with (first | (go_at_call 98; (with_reducible refine (is_b (some ⟨gt, off, none⟩) c g ts k3 d 0 41 false hK w8 hZ.out.rr).mono ?_); rintro e wa ⟨rfl, hza, hba⟩; have hRa := Hid.intro (hZ.out.rr.below hba); obtain ⟨i0, i1, i2, i3⟩ := hRa.out.cells; have j1 := hRa.out.frozen 1; obtain ⟨rha, _, _, rfa0, rfa1⟩ := hZ.out.res.below hba (by have := hZ.out.size; omega); replace rha := Hid.intro rha; obtain ⟨_, z0, z1, zf0, zf1⟩ := hZ.out.x.below hba (by have := hZ.out.size; omega)) | (go_at_call 95; (with_reducible refine (refuse_any (some ⟨gt, off, none⟩) c g ts _ d 0 20 _ hRa.out).mono ?_); rintro e wb ⟨rfl, hgb, hRb⟩; replace hRb := Hid.intro hRb; obtain ⟨rhb, _, _, rfb0, rfb1⟩ := (hZ.out.res.below hba (by have := hZ.out.size; omega)).grown hgb (by simp; omega); replace rhb := Hid.intro rhb; obtain ⟨_, y0, y1, _, _⟩ := (hZ.out.x.below hba (by have := hZ.out.size; omega)).grown hgb (by simp; omega)))
         all_goals first | omega | skip
         obtain ⟨s1, s2⟩ := two_set rhb.out rfl (.slice va n vc) (.int .u32 y.const)
         generalize ((wb.setCell ⟨w.heap.size, 0, none⟩ (.slice va n vc)).setCell ⟨w.heap.size, 1, none⟩ (.int .u32 y.const)) = w9 at s1 s2 ⊢
         obtain ⟨_, u0, u1, _, _⟩ := s1
         refine bodyPost_ret (by simp [results, Tryz.results102, go_sem, u0, u1]; try rfl) rfl ?_
         rw [hFE.out]
         have hOb := own_low (own_low hO.out (grown_wide (grown_of_below hba) (some g)) (by omega)) hgb (by omega)
         exact rout y va n vc k3 20 hglt (grown_trans (grown_trans hZ.out.grown (grown_wide (grown_of_below hba) _)) hgb) s2 hRb.out (own_weaken hOb (by omega)) (by omega) hk7 rfl
        ·have hb2 : Hid (bareF W (if m then 4294967295 else 1) (ts.drop k1) = .ok (timesL y (if m then 4294967295 else 1), ts.drop (k3 + 1))) := by
          show _ = _
          rw [hb.out, <- hres.out, hdu, closeF, if_pos hs]
         have hlt3 : k3 < ts.length := (List.getElem?_eq_some_iff.1 hu).1
         have hgood := hgd
         clear hu hs hdu hb hres
         go_upto_region 27 with (go_at_call 98; (with_reducible refine (is_b (some ⟨gt, off, none⟩) c g ts k3 d 0 41 true hK w8 hZ.out.rr).mono ?_); rintro e wa ⟨rfl, hza, hba⟩)
         all_goals first | omega | skip
         have hO3 := Hid.intro (own_low hO.out (grown_wide (grown_of_below hba) (some g)) (by omega))
         have hZ3 := Hid.intro (fz_below hZ.out hba)
         clear hO hZ
         have hO := hO3
         have hZ := hZ3
         clear hO3 hZ3
         obtain ⟨zh, z0, z1, zf0, zf1⟩ := hZ.out.x
         replace zh := Hid.intro zh
         obtain ⟨rh2, _, _, rf20, rf21⟩ := hZ.out.res
         replace rh2 := Hid.intro rh2
         obtain ⟨i0, i1, i2, i3⟩ := hZ.out.rr.cells
         have j1 := hZ.out.rr.frozen 1
         have hN := Hid.intro (fz_next hZ.out hglt (by omega))
         have hO2 := Hid.intro (own_low hO.out hN.out.2 (by omega))
         cases m
         ·go_wp2
          all_goals first | omega | skip
          replace hN := hN.out.1
          replace hO2 := hO2.out
          generalize (wa.setCell ⟨g, 1, none⟩ (.int .i64 (((k3 : Nat) : Int) + 1))) = w10 at hN hO2 ⊢
          obtain ⟨e1, e2⟩ := two_set hN.res.heap rfl (.slice va n vc) (.int .u32 y.const)
          generalize ((w10.setCell ⟨w.heap.size, 0, none⟩ (.slice va n vc)).setCell ⟨w.heap.size, 1, none⟩ (.int .u32 y.const)) = w9 at e1 e2 ⊢
          obtain ⟨_, u0, u1, _, _⟩ := e1
          refine bodyPost_ret (by simp [results, Tryz.results102, go_sem, u0, u1]; try rfl) rfl ?_
          rw [hF.out, hb2.out]
          exact rout y _ _ _ (k3 + 1) 0 hglt hN.grown e2 hN.rr (own_weaken hO2 (by omega)) (by omega) (by omega) ⟨rfl, (timesL_one hgood).symm, rfl⟩
         ·have h99 := Hid.intro (times_own y hO2.out 4294967295 (by omega))
          go_wp2_with (go_at_call 99; (with_reducible refine (h99.out).mono ?_); rintro e w6 ⟨hb6, vb, vn, vd, rfl, hown6⟩; replace hown6 := Hid.intro hown6; obtain ⟨xh6, _, _, x60, x61⟩ := hN.out.1.x.below hb6 (by have := hN.out.1.size; omega); replace xh6 := Hid.intro xh6; obtain ⟨rh6, _, _, r60, r61⟩ := hN.out.1.res.below hb6 (by have := hN.out.1.size; omega); replace rh6 := Hid.intro rh6)
          all_goals first | omega | skip
          have hT := fin_times hN.out.1 hglt hb6 (timesL y 4294967295) vb vn vd hown6.out
          generalize ((w6.setCell ⟨w.heap.size + 1, 0, none⟩ (.slice vb vn vd)).setCell ⟨w.heap.size + 1, 1, none⟩ (.int .u32 (timesL y 4294967295).const)) = w10 at hT ⊢
          obtain ⟨hZ8, hown8⟩ := hT
          obtain ⟨e1, e2⟩ := two_set hZ8.res.heap rfl (.slice vb vn vd) (.int .u32 (timesL y 4294967295).const)
          generalize ((w10.setCell ⟨w.heap.size, 0, none⟩ (.slice vb vn vd)).setCell ⟨w.heap.size, 1, none⟩ (.int .u32 (timesL y 4294967295).const)) = w9 at e1 e2 ⊢
          obtain ⟨_, u0, u1, _, _⟩ := e1
          refine bodyPost_ret (by simp [results, Tryz.results102, go_sem, u0, u1]; try rfl) rfl ?_
          rw [hF.out, hb2.out]
          have hll := times_len (y : Lin).terms 4294967295
          exact rout (timesL y 4294967295) vb vn vd (k3 + 1) 0 hglt hZ8.grown e2 hZ8.rr hown8 (by have hl2 : (timesL y 4294967295).terms.length <= (y : Lin).terms.length := hll; have hl3 : (y : Lin).terms.length + k <= k3 + 1 := (by omega); omega) (by omega) ⟨rfl, rfl, rfl⟩
     ·have hFE : Hid (R0 = .error 20) := by
       show R0 = _
       rw [hF.out, hdr, bareF, if_neg (by simp [isS, htx]), singleF_none h2 (by simp [h1])]
      have hnx : ((str t.text).toList == (str [40]).toList) = false := by
       rw [str_toList, str_toList]
       exact beq_false_of_ne htx
      replace hnx : ((str t.text).toList == (⟨#[40]⟩ : ByteArray).toList) = false := hnx
      have hny : ((str t.text).toList == [40]) = false := by rw [str_toList]; exact beq_false_of_ne htx
      have hnz : (t.text == [40]) = false := beq_false_of_ne htx
      rw [h3] at c0
      clear hF hhead hK hdr
      go_wp2_with (go_at_call 95; (with_reducible refine (refuse_any (some ⟨gt, off, none⟩) c g ts _ d 0 20 _ hY.out.rr).mono ?_); rintro e w5 ⟨rfl, hg5, hR5⟩; replace hR5 := Hid.intro hR5; obtain ⟨rh5, _, _, rf05, rf15⟩ := hY.out.res.grown hg5 (by simp; omega); replace rh5 := Hid.intro rh5; obtain ⟨_, z0, z1, _, _⟩ := hY.out.x.grown hg5 (by simp; omega))
      all_goals first | omega | skip
      obtain ⟨s1, s2⟩ := two_set rh5.out rfl (.slice none 0 0) (.int .u32 0)
      generalize (((w5).setCell ⟨w.heap.size, 0, none⟩ (.slice none 0 0)).setCell ⟨w.heap.size, 1, none⟩ (.int .u32 0)) = w9 at s1 s2 ⊢
      obtain ⟨_, u0, u1, _, _⟩ := s1
      refine bodyPost_ret (by simp [results, Tryz.results102, go_sem, u0, u1]; try rfl) rfl ?_
      rw [hFE.out]
      exact rout ⟨[], 0⟩ none 0 0 k1 20 hglt (grown_trans hY.out.grown hg5) s2 hR5.out (own_nil _ _ _ _) (by simpa using hkk) (by omega) rfl
    have hFE : Hid (R0 = .error 20) := by
     show R0 = _
     rw [hF.out, hdr, bareF, if_neg (by simp [isS, h3]), singleF_none h2 (by simp [h1])]
    clear hF hhead hK hdr
    have g1 : (t.kind == 1) = false := by simp [h1]
    have g2 : (t.kind == 2) = false := by simp [h2]
    have g3 : (t.kind == 3) = false := by simp [h3]
    go_wp2_with (go_at_call 95; (with_reducible refine (refuse_any (some ⟨gt, off, none⟩) c g ts _ d 0 20 _ hY.out.rr).mono ?_); rintro e w5 ⟨rfl, hg5, hR5⟩; replace hR5 := Hid.intro hR5; obtain ⟨rh5, _, _, rf05, rf15⟩ := hY.out.res.grown hg5 (by simp; omega); replace rh5 := Hid.intro rh5; obtain ⟨_, z0, z1, _, _⟩ := hY.out.x.grown hg5 (by simp; omega))
    all_goals first | omega | skip
    obtain ⟨s1, s2⟩ := two_set rh5.out rfl (.slice none 0 0) (.int .u32 0)
    generalize (((w5).setCell ⟨w.heap.size, 0, none⟩ (.slice none 0 0)).setCell ⟨w.heap.size, 1, none⟩ (.int .u32 0)) = w9 at s1 s2 ⊢
    obtain ⟨_, u0, u1, _, _⟩ := s1
    refine bodyPost_ret (by simp [results, Tryz.results102, go_sem, u0, u1]; try rfl) rfl ?_
    rw [hFE.out]
    exact rout ⟨[], 0⟩ none 0 0 k1 20 hglt (grown_trans hY.out.grown hg5) s2 hR5.out (own_nil _ _ _ _) (by simpa using hkk) (by omega) rfl
  ·have hyes := Hid.intro (is_b a c g ts k1 d 0 45 true hK wr hS.out.rr)
   have hlt : k1 < ts.length := (List.getElem?_eq_some_iff.1 ht).1
   have hEq : Hid (minusF (ts.drop k) 1 = minusF (ts.drop (k1 + 1)) (if !m then 4294967295 else 1)) := by
    show _ = _
    rw [hS.out.eq, hdr, minus_yes hs]
    cases m <;> rfl
   clear hK ht hs hdr
   have hleft := Hid.intro hS.out.rr.left
   go_wp2_with (go_at_call 98; (with_reducible refine (hyes.out).mono ?_); rintro e w2 ⟨rfl, hz2, hb2⟩; have hR2 := hS.out.rr.below hb2; obtain ⟨x0, x1, x2, x3⟩ := hR2.cells; have f1 := hR2.frozen 1; replace hR2 := Hid.intro hR2)
   all_goals first | omega | skip
   go_roundw
   case rel =>
    obtain ⟨s1, s2⟩ := hR2.out.setK (k1 + 1) (by omega) (by omega)
    exact ⟨!m, k1 + 1, rfl, Hid.intro ⟨grown_trans (grown_trans hS.out.grown (grown_wide (grown_of_below hb2) _)) s2, by simp [hz2, hsz], ((hS.out.res.below hb2 (by omega)).grown s2 (by simp; omega)), s1, by have := hS.out.le; omega, by omega, hEq.out⟩⟩
   case measure =>
    obtain ⟨s1, s2⟩ := hR2.out.setK (k1 + 1) (by omega) (by omega)
    have := RR.left (k := k1 + 1) s1
    rw [hleft.out, this]
    omega
end Go.Proofs.YtlkmegchaeokgaaGreatDoor
/- The document's part. -/
namespace Go.Proofs.YtlkmegchaeokgaaGreatDoor
open Go.ChangeShapes Go.WideShapes Go.ChangeAt Go.RowKit
set_option linter.unusedVariables false
set_option maxRecDepth 100000
def RFac (g : Nat) (a : Option Addr) (c : Nat) (ts : List Tok) (d : Int) (W : List Tok -> PRes) : Prop :=
 ∀ (w : World) (k : Nat), RR w g a c ts k d 0 -> k <= ts.length -> Calls Tryz.prog 102 #[.pointer (some ⟨g, 0, none⟩)] w fun e w' => ROutD w g a c ts k d (factorF W (ts.drop k)) e w'
structure PS (w : World) (g : Nat) (a : Option Addr) (c : Nat) (ts : List Tok) (k : Nat) (d : Int) (p : Nat) (x : Lin) (va : Option Addr) (n vc k1 : Nat) (e1 : Int) (wr : World) : Prop where
 grown : w.grownBy wr (some g)
 lo : w.heap.size < p
 size : p + 1 <= wr.heap.size
 res : Two wr w.heap.size 31 (.slice none 0 0) (.int .u32 0)
 lin : Two wr p 31 (.slice va n vc) (.int .u32 x.const)
 own : wr.ownsRow (w.heap.size + 1) 61 2 (.slice va n vc) x.terms.length (rowT x.terms)
 rr : RR wr g a c ts k1 d e1
 few : x.terms.length + k <= k1
 le : k1 <= ts.length
theorem PS.below {w : World} {g : Nat} {a : Option Addr} {c : Nat} {ts : List Tok} {k : Nat} {d : Int} {p : Nat} {x : Lin} {va : Option Addr} {n vc k1 : Nat} {e1 : Int} {wr w' : World} (h : PS w g a c ts k d p x va n vc k1 e1 wr) (hb : Below wr.heap.size wr w') : PS w g a c ts k d p x va n vc k1 e1 w' :=
 ⟨grown_trans h.grown (grown_wide (grown_of_below hb) _), h.lo, Nat.le_trans h.size hb.size, h.res.below hb (by have := h.size; have := h.lo; omega), h.lin.below hb (by have := h.size; omega), own_low h.own (grown_wide (grown_of_below hb) (some w.heap.size)) (by omega), h.rr.below hb, h.few, h.le⟩
theorem PS.turn {w : World} {g : Nat} {a : Option Addr} {c : Nat} {ts : List Tok} {k : Nat} {d : Int} {p : Nat} {x : Lin} {va : Option Addr} {n vc k1 k2 : Nat} {e1 e2 : Int} {wr w' : World} (h : PS w g a c ts k d p x va n vc k1 e1 wr) (hglt : g < w.heap.size) (hg : wr.grownBy w' (some g)) (hr : RR w' g a c ts k2 d e2) (h1 : k1 <= k2) (h2 : k2 <= ts.length) : PS w g a c ts k d p x va n vc k2 e2 w' :=
 ⟨grown_trans h.grown hg, h.lo, Nat.le_trans h.size hg.size, h.res.grown hg (by simp; omega), h.lin.grown hg (by have := h.lo; simp; omega), own_low h.own hg (by omega), hr, Nat.le_trans h.few h1, h2⟩
theorem PS.put {w : World} {g : Nat} {a : Option Addr} {c : Nat} {ts : List Tok} {k : Nat} {d : Int} {p : Nat} {x : Lin} {va : Option Addr} {n vc k1 : Nat} {e1 : Int} {wr w' : World} (h : PS w g a c ts k d p x va n vc k1 e1 wr) (hglt : g < w.heap.size) (hb : Below wr.heap.size wr w') (z : Lin) (vb : Option Addr) (m vd : Nat) (ho : w'.ownsRow wr.heap.size 61 2 (.slice vb m vd) z.terms.length (rowT z.terms)) (hz : z.terms.length + k <= k1) :
  PS w g a c ts k d p z vb m vd k1 e1 ((w'.setCell ⟨p, 0, none⟩ (.slice vb m vd)).setCell ⟨p, 1, none⟩ (.int .u32 z.const)) := by
 have hlo := h.lo
 have hs := h.size
 have hs2 := hb.size
 obtain ⟨s1, s2⟩ := two_set (h.lin.below hb (by omega)).heap rfl (.slice vb m vd) (.int .u32 z.const)
 have hs3 := s2.size
 have hr := h.rr.below hb
 exact ⟨grown_highD (grown_trans h.grown (grown_wide (grown_of_below hb) _)) s2 (by omega), hlo, by omega, (h.res.below hb (by omega)).grown s2 (by simp; omega), s1, own_weaken (own_low ho s2 (by omega)) (by omega), hr.grown s2 (by simp; omega) (fun y hy => by have := hr.ne y hy; simp; omega), hz, h.le⟩
theorem PS.out {w : World} {g : Nat} {a : Option Addr} {c : Nat} {ts : List Tok} {k : Nat} {d : Int} {p : Nat} {x : Lin} {va : Option Addr} {n vc k1 : Nat} {e1 : Int} {wr w9 : World} {R : PRes} (h : PS w g a c ts k d p x va n vc k1 e1 wr) (hglt : g < w.heap.size) (s2 : wr.grownBy w9 (some w.heap.size)) (hR : RRes ts R x k1 e1) : ROutD w g a c ts k d R (.returned (linV (.slice va n vc) x.const)) w9 :=
 rout x va n vc k1 e1 hglt h.grown s2 h.rr h.own h.few h.le hR
def PEq (W : List Tok -> PRes) (ts : List Tok) (R0 : PRes) (x : Lin) (k1 : Nat) (e1 : Int) : Prop :=
 (e1 = 0 /\ GoodL x /\ ∃ f, (ts.drop k1).length <= f /\ R0 = partL W f x (ts.drop k1)) ∨ (e1 ≠ 0 /\ R0 = .error e1)
theorem ps_new {w : World} {g : Nat} {a : Option Addr} {c : Nat} {ts : List Tok} {k : Nat} {d : Int} {W : List Tok -> PRes} (hW : Fine W) (hglt : g < w.heap.size) {e : Ending} {w1 : World} (h : ROutD (w.alloc linO) g a c ts k d (factorF W (ts.drop k)) e w1) :
  ∃ x va n vc k1 e1, e = .returned (linV (.slice va n vc) x.const) /\ PS w g a c ts k d w1.heap.size x va n vc k1 e1 (w1.alloc (.cells #[.slice va n vc, .int .u32 x.const] 31)) /\ PEq W ts (partF W (ts.drop k)) x k1 e1 := by
 obtain ⟨hg, x, va, n, vc, k1, e1, rfl, hown, hR, hl, hk, hres⟩ := h
 have hs0 : (w.alloc linO).heap.size = w.heap.size + 1 := by simp
 rw [hs0] at hown
 have hs1 := hg.size
 refine ⟨x, va, n, vc, k1, e1, rfl, ⟨grown_trans (grown_trans (World.grownBy_alloc w _ _) hg) (World.grownBy_alloc _ _ _), by omega, by simp, (((two_new w 31 _ _).grown hg (by simp; omega)).alloc _), two_new _ _ _ _, hown.alloc _, hR.below (below_alloc _ _), hl, hk⟩, ?_⟩
 unfold partF
 cases hF : factorF W (ts.drop k) with
 | error q =>
  rw [hF] at hres
  have hq := (factorF_fine hW).2 _ _ hF
  have he : e1 = q := hres
  exact .inr ⟨by rw [he]; rcases hq with h | h <;> omega, by rw [he]⟩
 | ok pr =>
  obtain ⟨y, r⟩ := pr
  rw [hF] at hres
  obtain ⟨rfl, rfl, rfl⟩ := hres
  have hl2 := (factorF_fine hW).1 _ _ _ hF
  exact .inl ⟨rfl, hl2.2.2, (ts.drop k1).length, Nat.le_refl _, rfl⟩
set_option maxHeartbeats 4000000 in
theorem refPart_any (a : Option Addr) (c g : Nat) (ts : List Tok) (W : List Tok -> PRes) (hW : Fine W) (d : Int) (hfac : RFac g a c ts d W) (w : World) (k : Nat) (hk : k <= ts.length) (h : RR w g a c ts k d 0) :
  Calls Tryz.prog 97 #[.pointer (some ⟨g, 0, none⟩)] w fun e w' => ROutD w g a c ts k d (partF W (ts.drop k)) e w' := by
 have hglt := h.lt
 have hfew := h.few
 have h0 := Hid.intro (hfac (w.alloc linO) k (h.below (below_alloc w _)) hk)
 have hfacH := Hid.intro hfac
 have hst := Hid.intro (fun e w1 => @ps_new w g a c ts k d W hW hglt e w1)
 obtain ⟨R0, hR0⟩ : ∃ R0, R0 = partF W (ts.drop k) := ⟨_, rfl⟩
 rw [<- hR0] at hst ⊢
 clear h hfac hR0
 go_enter Tryz.func97, Tryz.ntmps97
 go_wp2_with (go_at_call 102; (with_reducible refine (h0.out).mono ?_); intro e w1 hF; obtain ⟨x0, va0, n0, vc0, k0, e0, rfl, hP, hE⟩ := hst.out e w1 hF; replace hP := Hid.intro hP; replace hE := Hid.intro hE; clear hF)
 all_goals first | omega | skip
 obtain ⟨p, hp⟩ : ∃ p, p = w1.heap.size := ⟨_, rfl⟩
 rw [<- hp] at hP ⊢
 clear hp h0 hst
 go_loopw [] (fun wr => ∃ x va n vc k1 e1, Hid (PS w g a c ts k d p x va n vc k1 e1 wr) /\ Hid (PEq W ts R0 x k1 e1)) (fun wr => leftK g wr)
 case atStart => exact ⟨x0, va0, n0, vc0, k0, e0, hP, hE⟩
 case round =>
  clear hP hE
  obtain ⟨x, va, n, vc, k1, e1, hP, hE⟩ := hrel
  have hlo := hP.out.lo
  have hsz := hP.out.size
  have hle := hP.out.le
  have hfw := hP.out.few
  cases hK : isK ts k1 e1 42
  ·have hres : Hid (RRes ts R0 x k1 e1) := by
    rcases hE.out with ⟨rfl, hg, f, hf, hR⟩ | ⟨he, hR⟩
    ·show RRes ts R0 x k1 0
     rw [hR, partL_no (by simpa [isK] using hK)]
     exact ⟨rfl, rfl, rfl⟩
    ·show RRes ts R0 x k1 e1
     rw [hR]
     rfl
   have his := Hid.intro (is_b a c g ts k1 d e1 42 false hK wr hP.out.rr)
   go_wp2_with (go_at_call 98; (with_reducible refine (his.out).mono ?_); rintro e w2 ⟨rfl, hz2, hb2⟩; have hP2 := Hid.intro (hP.out.below hb2); obtain ⟨_, x0, x1, _, _⟩ := hP2.out.lin; obtain ⟨_, _, _, f0, f1⟩ := hP2.out.res)
   all_goals first | omega | skip
   obtain ⟨s1, s2⟩ := two_set (hP2.out).res.heap rfl (.slice va n vc) (.int .u32 x.const)
   generalize ((w2.setCell ⟨w.heap.size, 0, none⟩ (.slice va n vc)).setCell ⟨w.heap.size, 1, none⟩ (.int .u32 x.const)) = w9 at s1 s2 ⊢
   obtain ⟨_, u0, u1, _, _⟩ := s1
   refine bodyPost_ret (by simp [results, Tryz.results97, go_sem, u0, u1]; try rfl) rfl ?_
   exact (hP2.out).out hglt s2 hres.out
  ·have he1 : e1 = 0 := by
    by_cases h : e1 = 0
    ·exact h
    ·rw [isK_err h] at hK; cases hK
   subst he1
   have his := Hid.intro (is_b a c g ts k1 d 0 42 true hK wr hP.out.rr)
   obtain ⟨t, ht, hs, hdr⟩ : ∃ t, ts[k1]? = some t /\ isS t 42 = true /\ ts.drop k1 = t :: ts.drop (k1 + 1) := by
    rcases isK_cases ts k1 42 with ⟨h, _⟩ | ⟨_, h⟩
    ·rw [h] at hK; cases hK
    ·exact h
   have hlt : k1 < ts.length := (List.getElem?_eq_some_iff.1 ht).1
   obtain ⟨hgx, f, hf1, hf2⟩ : GoodL x /\ ∃ f, (ts.drop k1).length <= f /\ R0 = partL W f x (ts.drop k1) := by
    rcases hE.out with ⟨_, h⟩ | ⟨h, _⟩
    ·exact h
    ·exact absurd rfl h
   rw [hdr] at hf1 hf2
   simp only [List.length_cons] at hf1
   obtain ⟨f, rfl⟩ : ∃ f', f = f' + 1 := ⟨f - 1, by omega⟩
   rw [partL_yes hs] at hf2
   clear hK hs hdr ht hE
   have hleft := Hid.intro hP.out.rr.left
   -- up to the second factor
   go_upto_region 4 with (go_at_call 98; (with_reducible refine (his.out).mono ?_); rintro e w2 ⟨rfl, hz2, hb2⟩; have hP2 := Hid.intro (hP.out.below hb2); obtain ⟨_, v1, _, _⟩ := hP2.out.rr.cells; have j1 := hP2.out.rr.frozen 1)
   all_goals first | omega | skip
   have hP3 : PS w g a c ts k d p x va n vc (k1 + 1) 0 (w2.setCell ⟨g, 1, none⟩ (.int .i64 ((k1 : Int) + 1))) := by
    obtain ⟨s1, s2⟩ := hP2.out.rr.setK ((k1 : Int) + 1) (by omega) (by omega)
    exact hP2.out.turn hglt s2 s1 (by omega) (by omega)
   generalize w2.setCell ⟨g, 1, none⟩ (.int .i64 ((k1 : Int) + 1)) = w3 at hP3 ⊢
   clear hP hP2 his v1 j1 hz2 hb2
   replace hP3 := Hid.intro hP3
   have hf3 := Hid.intro (hfacH.out w3 (k1 + 1) hP3.out.rr (by omega))
   have hfF := factorF_fine hW
   cases hFr : factorF W (ts.drop (k1 + 1)) with
   | error q =>
    rw [hFr] at hf3 hf2
    have hq := hfF.2 _ _ hFr
    have hq0 : (q == 0) = false := by rcases hq with rfl | rfl <;> rfl
    clear hFr hfF
    go_wp2_with (go_at_call 102; (with_reducible refine (hf3.out).mono ?_); rintro e w4 ⟨hg4, y, vb, m, vd, k4, e4, rfl, hown4, hR4, hl4, hk4, hres⟩; replace hres : e4 = q := hres; subst hres; have hP4 := Hid.intro ((hP3.out.turn hglt hg4 hR4 (by omega) hk4).below (below_alloc w4 (.cells #[.slice vb m vd, .int .u32 y.const] 31))); obtain ⟨_, v1, v2, v3⟩ := hP4.out.rr.cells; obtain ⟨_, x0, x1, _, _⟩ := hP4.out.lin; obtain ⟨_, _, _, f0, f1⟩ := hP4.out.res)
    all_goals first | omega | skip
    obtain ⟨s1, s2⟩ := two_set (hP4.out).res.heap rfl (.slice va n vc) (.int .u32 x.const)
    generalize (((w4.alloc (Obj.cells #[Value.slice vb m vd, Value.int IntKind.u32 y.const] 31)).setCell ⟨w.heap.size, 0, none⟩ (.slice va n vc)).setCell ⟨w.heap.size, 1, none⟩ (.int .u32 x.const)) = w9 at s1 s2 ⊢
    obtain ⟨_, u0, u1, _, _⟩ := s1
    refine bodyPost_ret (by simp [results, Tryz.results97, go_sem, u0, u1]; try rfl) rfl ?_
    exact (hP4.out).out hglt s2 (by rw [hf2]; rfl)
   | ok pr =>
    obtain ⟨yy, r'⟩ := pr
    rw [hFr] at hf3 hf2
    have hgy := (hfF.1 _ _ _ hFr).2.2
    simp only at hf2
    clear hFr hfF
    have hnl := own_len hP3.out.own
    by_cases hy : yy.terms.length = 0
    ·have hpr : productF x yy = some (timesL x yy.const) := by unfold productF; rw [if_pos hy]
     rw [hpr] at hf2
     simp only at hf2
     have hgz : GoodL (timesL x yy.const) := timesL_good hgx.canon _
     clear hpr
     by_cases hx : x.terms.length = 0
     ·have hn0 : n = 0 := by omega
      subst hn0
      clear hnl
      go_wp2_with (first | (go_at_call 102; (with_reducible refine (hf3.out).mono ?_); rintro e w4 ⟨hg4, y, vb, m, vd, k4, e4, rfl, hown4, hR4, hl4, hk4, rfl, rfl, hres⟩; replace hres := Hid.intro hres; have hml := own_len hown4; have hm0 : m = 0 := (by omega); subst hm0; clear hml; have hP4 := Hid.intro ((hP3.out.turn hglt hg4 hR4 (by omega) hk4).below (below_alloc w4 (.cells #[.slice vb 0 vd, .int .u32 y.const] 31))); have hO4 := Hid.intro (hown4.alloc (.cells #[.slice vb 0 vd, .int .u32 y.const] 31)); obtain ⟨_, v1, v2, v3⟩ := hP4.out.rr.cells; obtain ⟨ph, x0, x1, xf0, xf1⟩ := hP4.out.lin; replace ph := Hid.intro ph; obtain ⟨_, _, _, f0, f1⟩ := hP4.out.res; obtain ⟨_, y0, y1, _, _⟩ := two_new w4 31 (.slice vb 0 vd) (.int .u32 y.const); have hsz4 := hg4.size; have q1 : ¬ p = w4.heap.size := (by have := hP3.out.size; omega); have q2 : ¬ w4.heap.size = p := (by have := hP3.out.size; omega); clear hR4 hown4 hg4) | (go_at_call 99; (with_reducible refine (times_own x hP4.out.own y.const (by omega)).mono ?_); rintro e w6 ⟨hb6, vz, mz, vy, rfl, hown6⟩; have hP6 := Hid.intro (hP4.out.put hglt hb6 (timesL x y.const) vz mz vy hown6 (by have hz1 : (timesL x y.const).terms.length <= x.terms.length := times_len _ _; omega)); obtain ⟨_, _, _, p60, p61⟩ := hP4.out.lin.below hb6 (by have := hP4.out.size; omega)))
      all_goals first | omega | skip
      go_roundw
      case rel => exact ⟨_, _, _, _, _, _, hP6, Hid.intro (.inl ⟨rfl, hgz, f, by rw [List.length_drop] at hf1 ⊢; omega, by rw [hres.out]; exact hf2⟩)⟩
      case measure =>
       have := hP6.out.rr.left
       rw [hleft.out, this]
       omega
     ·have hn0 : 0 < n := by omega
      clear hnl
      go_wp2_with (first | (go_at_call 102; (with_reducible refine (hf3.out).mono ?_); rintro e w4 ⟨hg4, y, vb, m, vd, k4, e4, rfl, hown4, hR4, hl4, hk4, rfl, rfl, hres⟩; replace hres := Hid.intro hres; have hml := own_len hown4; have hm0 : m = 0 := (by omega); subst hm0; clear hml; have hP4 := Hid.intro ((hP3.out.turn hglt hg4 hR4 (by omega) hk4).below (below_alloc w4 (.cells #[.slice vb 0 vd, .int .u32 y.const] 31))); have hO4 := Hid.intro (hown4.alloc (.cells #[.slice vb 0 vd, .int .u32 y.const] 31)); obtain ⟨_, v1, v2, v3⟩ := hP4.out.rr.cells; obtain ⟨ph, x0, x1, xf0, xf1⟩ := hP4.out.lin; replace ph := Hid.intro ph; obtain ⟨_, _, _, f0, f1⟩ := hP4.out.res; obtain ⟨_, y0, y1, _, _⟩ := two_new w4 31 (.slice vb 0 vd) (.int .u32 y.const); have hsz4 := hg4.size; have q1 : ¬ p = w4.heap.size := (by have := hP3.out.size; omega); have q2 : ¬ w4.heap.size = p := (by have := hP3.out.size; omega); clear hR4 hown4 hg4) | (go_at_call 99; (with_reducible refine (times_own x hP4.out.own y.const (by omega)).mono ?_); rintro e w6 ⟨hb6, vz, mz, vy, rfl, hown6⟩; have hP6 := Hid.intro (hP4.out.put hglt hb6 (timesL x y.const) vz mz vy hown6 (by have hz1 : (timesL x y.const).terms.length <= x.terms.length := times_len _ _; omega)); obtain ⟨_, _, _, p60, p61⟩ := hP4.out.lin.below hb6 (by have := hP4.out.size; omega)))
      all_goals first | omega | skip
      go_roundw
      case rel => exact ⟨_, _, _, _, _, _, hP6, Hid.intro (.inl ⟨rfl, hgz, f, by rw [List.length_drop] at hf1 ⊢; omega, by rw [hres.out]; exact hf2⟩)⟩
      case measure =>
       have := hP6.out.rr.left
       rw [hleft.out, this]
       omega
    ·by_cases hx : x.terms.length = 0
     ·have hpr : productF x yy = some (timesL yy x.const) := by unfold productF; rw [if_neg hy, if_pos hx]
      rw [hpr] at hf2
      simp only at hf2
      have hgz : GoodL (timesL yy x.const) := timesL_good hgy.canon _
      have hn0 : n = 0 := by omega
      subst hn0
      clear hpr hnl
      go_wp2_with (first | (go_at_call 102; (with_reducible refine (hf3.out).mono ?_); rintro e w4 ⟨hg4, y, vb, m, vd, k4, e4, rfl, hown4, hR4, hl4, hk4, rfl, rfl, hres⟩; replace hres := Hid.intro hres; have hml := own_len hown4; have hm0 : 0 < m := (by omega); clear hml; have hP4 := Hid.intro ((hP3.out.turn hglt hg4 hR4 (by omega) hk4).below (below_alloc w4 (.cells #[.slice vb m vd, .int .u32 y.const] 31))); have hO4 := Hid.intro (hown4.alloc (.cells #[.slice vb m vd, .int .u32 y.const] 31)); obtain ⟨_, v1, v2, v3⟩ := hP4.out.rr.cells; obtain ⟨ph, x0, x1, xf0, xf1⟩ := hP4.out.lin; replace ph := Hid.intro ph; obtain ⟨_, _, _, f0, f1⟩ := hP4.out.res; obtain ⟨_, y0, y1, _, _⟩ := two_new w4 31 (.slice vb m vd) (.int .u32 y.const); have hsz4 := hg4.size; have q1 : ¬ p = w4.heap.size := (by have := hP3.out.size; omega); have q2 : ¬ w4.heap.size = p := (by have := hP3.out.size; omega); clear hR4 hown4 hg4) | (go_at_call 99; (with_reducible refine (times_own y hO4.out x.const (by omega)).mono ?_); rintro e w6 ⟨hb6, vz, mz, vy, rfl, hown6⟩; have hP6 := Hid.intro (hP4.out.put hglt hb6 (timesL y x.const) vz mz vy hown6 (by have hz1 : (timesL y x.const).terms.length <= y.terms.length := times_len _ _; omega)); obtain ⟨_, _, _, p60, p61⟩ := hP4.out.lin.below hb6 (by have := hP4.out.size; omega)))
      all_goals first | omega | skip
      go_roundw
      case rel => exact ⟨_, _, _, _, _, _, hP6, Hid.intro (.inl ⟨rfl, hgz, f, by rw [List.length_drop] at hf1 ⊢; omega, by rw [hres.out]; exact hf2⟩)⟩
      case measure =>
       have := hP6.out.rr.left
       rw [hleft.out, this]
       omega
     ·have hpr : productF x yy = none := by unfold productF; rw [if_neg hy, if_neg hx]
      rw [hpr] at hf2
      simp only at hf2
      have hn0 : 0 < n := by omega
      clear hpr hnl
      go_wp2_with (first | (go_at_call 102; (with_reducible refine (hf3.out).mono ?_); rintro e w4 ⟨hg4, y, vb, m, vd, k4, e4, rfl, hown4, hR4, hl4, hk4, rfl, rfl, hres⟩; replace hres := Hid.intro hres; have hml := own_len hown4; have hm0 : 0 < m := (by omega); clear hml; have hP4 := Hid.intro ((hP3.out.turn hglt hg4 hR4 (by omega) hk4).below (below_alloc w4 (.cells #[.slice vb m vd, .int .u32 y.const] 31))); have hO4 := Hid.intro (hown4.alloc (.cells #[.slice vb m vd, .int .u32 y.const] 31)); obtain ⟨_, v1, v2, v3⟩ := hP4.out.rr.cells; obtain ⟨ph, x0, x1, xf0, xf1⟩ := hP4.out.lin; replace ph := Hid.intro ph; obtain ⟨_, _, _, f0, f1⟩ := hP4.out.res; obtain ⟨_, y0, y1, _, _⟩ := two_new w4 31 (.slice vb m vd) (.int .u32 y.const); have hsz4 := hg4.size; have q1 : ¬ p = w4.heap.size := (by have := hP3.out.size; omega); have q2 : ¬ w4.heap.size = p := (by have := hP3.out.size; omega); clear hR4 hown4 hg4) | (go_at_call 95; (with_reducible refine (refuse_any a c g ts _ d 0 21 _ hP4.out.rr).mono ?_); rintro e w6 ⟨rfl, hg6, hR6⟩; have hP6 := Hid.intro (hP4.out.turn hglt hg6 hR6 (Nat.le_refl _) hk4); obtain ⟨_, z0, z1, _, _⟩ := hP6.out.lin; obtain ⟨_, _, _, f60, f61⟩ := hP6.out.res))
      all_goals first | omega | skip
      obtain ⟨s1, s2⟩ := two_set (hP6.out).res.heap rfl (.slice va n vc) (.int .u32 x.const)
      generalize ((w6.setCell ⟨w.heap.size, 0, none⟩ (.slice va n vc)).setCell ⟨w.heap.size, 1, none⟩ (.int .u32 x.const)) = w9 at s1 s2 ⊢
      obtain ⟨_, u0, u1, _, _⟩ := s1
      refine bodyPost_ret (by simp [results, Tryz.results97, go_sem, u0, u1]; try rfl) rfl ?_
      exact (hP6.out).out hglt s2 (by rw [hf2]; rfl)
end Go.Proofs.YtlkmegchaeokgaaGreatDoor
/- The document's sum, Parse. -/
namespace Go.Proofs.YtlkmegchaeokgaaGreatDoor
open Go.ChangeShapes Go.WideShapes Go.ChangeAt Go.RowKit
set_option linter.unusedVariables false
set_option maxRecDepth 100000
def RPart (g : Nat) (a : Option Addr) (c : Nat) (ts : List Tok) (d : Int) (W : List Tok -> PRes) : Prop :=
 ∀ (w : World) (k : Nat), RR w g a c ts k d 0 -> k <= ts.length -> Calls Tryz.prog 97 #[.pointer (some ⟨g, 0, none⟩)] w fun e w' => ROutD w g a c ts k d (partF W (ts.drop k)) e w'
def SEq (W : List Tok -> PRes) (ts : List Tok) (R0 : PRes) (x : Lin) (k1 : Nat) (e1 : Int) : Prop :=
 (e1 = 0 /\ ∃ f acc, (ts.drop k1).length <= f /\ R0 = sumL W f acc x.const (ts.drop k1) /\ x.terms = norm acc) ∨ (e1 ≠ 0 /\ R0 = .error e1)
theorem ss_new {w : World} {g : Nat} {a : Option Addr} {c : Nat} {ts : List Tok} {k : Nat} {d : Int} {W : List Tok -> PRes} (hW : Fine W) (hglt : g < w.heap.size) {e : Ending} {w1 : World} (h : ROutD (w.alloc linO) g a c ts k d (partF W (ts.drop k)) e w1) :
  ∃ x va n vc k1 e1, e = .returned (linV (.slice va n vc) x.const) /\ PS w g a c ts k d w1.heap.size x va n vc k1 e1 (w1.alloc (.cells #[.slice va n vc, .int .u32 x.const] 31)) /\ SEq W ts (sumF W (ts.drop k)) x k1 e1 := by
 obtain ⟨hg, x, va, n, vc, k1, e1, rfl, hown, hR, hl, hk, hres⟩ := h
 have hs0 : (w.alloc linO).heap.size = w.heap.size + 1 := by simp
 rw [hs0] at hown
 have hs1 := hg.size
 refine ⟨x, va, n, vc, k1, e1, rfl, ⟨grown_trans (grown_trans (World.grownBy_alloc w _ _) hg) (World.grownBy_alloc _ _ _), by omega, by simp, (((two_new w 31 _ _).grown hg (by simp; omega)).alloc _), two_new _ _ _ _, hown.alloc _, hR.below (below_alloc _ _), hl, hk⟩, ?_⟩
 unfold sumF
 cases hF : partF W (ts.drop k) with
 | error q =>
  rw [hF] at hres
  have hq := (partF_fine hW).2 _ _ hF
  have he : e1 = q := hres
  exact .inr ⟨by rw [he]; rcases hq with h | h <;> omega, by rw [he]⟩
 | ok pr =>
  obtain ⟨y, r⟩ := pr
  rw [hF] at hres
  obtain ⟨rfl, rfl, rfl⟩ := hres
  have hl2 := (partF_fine hW).1 _ _ _ hF
  exact .inl ⟨rfl, (ts.drop k1).length, x.terms, Nat.le_refl _, rfl, (norm_canon hl2.2.2.canon).symm⟩
theorem sumL_no {W : List Tok -> PRes} {f : Nat} {acc : List Tm} {n : Int} {ts : List Tok} (h1 : headIs 43 ts = false) (h2 : headIs 45 ts = false) : sumL W f acc n ts = .ok (⟨norm acc, n⟩, ts) := by
 cases f with
 | zero => rw [sumL]
 | succ f =>
  cases ts with
  | nil => rw [sumL]
  | cons t r => rw [sumL, if_neg (by rw [show isS t 43 = false from h1]; decide), if_neg (by rw [show isS t 45 = false from h2]; decide)]
theorem sumL_step {W : List Tok -> PRes} {f : Nat} {acc : List Tm} {n : Int} {t : Tok} {r : List Tok} (m : Bool) (h : isS t (if m then 45 else 43) = true) : sumL W (f + 1) acc n (t :: r) =
  match partF W r with
  | .error e => .error e
  | .ok (x, r') => sumL W f (acc ++ (if m then timesT x.terms 4294967295 else x.terms)) ((n + (if m then x.const * 4294967295 % 4294967296 else x.const)) % 4294967296) r' := by
 cases m
 ·have h' : isS t 43 = true := h
  rw [sumL, if_pos h']
  cases partF W r with
  | error e => rfl
  | ok p => rfl
 ·have h' : isS t 45 = true := h
  have h2 : isS t 43 = false := by
   cases hh : isS t 43
   ·rfl
   ·have a1 := isS_text h'
    have a2 := isS_text hh
    rw [a1] at a2
    cases a2
  rw [sumL, if_neg (by rw [h2]; decide), if_pos h']
  cases partF W r with
  | error e => rfl
  | ok p => rfl
theorem is_not {ts : List Tok} {k1 : Nat} (h : isK ts k1 0 43 = true) : isK ts k1 0 45 = false := by
 rcases isK_cases ts k1 43 with ⟨h1, _⟩ | ⟨_, t, ht, hs, hd⟩
 ·rw [h1] at h; cases h
 ·rw [isK_at ht]
  cases hh : isS t 45
  ·rfl
  ·have a1 := isS_text hs
   have a2 := isS_text hh
   rw [a1] at a2
   cases a2
theorem add_own {w : World} {B1 B2 : Nat} {a1 a2 : Option Addr} {n1 c1 n2 c2 : Nat} (x y : Lin) (h1 : w.ownsRow B1 61 2 (.slice a1 n1 c1) x.terms.length (rowT x.terms)) (h2 : w.ownsRow B2 61 2 (.slice a2 n2 c2) y.terms.length (rowT y.terms)) (hl1 : x.terms.length <= 1100000) (hl2 : y.terms.length <= 1100000) :
  Calls Tryz.prog 100 #[linV (.slice a1 n1 c1) x.const, linV (.slice a2 n2 c2) y.const] w fun e w' => Below w.heap.size w w' /\ ∃ va m vc, e = .returned (linV (.slice va m vc) ((x.const + y.const) % 4294967296)) /\ w'.ownsRow w.heap.size 61 2 (.slice va m vc) (mrg x.terms y.terms).length (rowT (mrg x.terms y.terms)) := by
 have e1 := own_len h1
 have e2 := own_len h2
 subst e1 e2
 refine (refAdd_any a1 a2 c1 c2 x.terms y.terms x.const y.const w (own_tmLies h1) (own_tmLies h2) hl1 hl2).mono ?_
 rintro e w' ⟨hb, v, rfl, hown⟩
 obtain ⟨va, vc, rfl⟩ := own_slice hown
 exact ⟨hb, va, _, vc, rfl, hown⟩
theorem PS.over {w : World} {g : Nat} {a : Option Addr} {c : Nat} {ts : List Tok} {k : Nat} {d : Int} {p : Nat} {x : Lin} {va : Option Addr} {n vc k1 : Nat} {e1 : Int} {wr w' : World} (h : PS w g a c ts k d p x va n vc k1 e1 wr) (hglt : g < w.heap.size) (hb : Below wr.heap.size wr w') (q : Nat) (hq : p < q) (hq2 : w.heap.size < q) {u v : Value} (ht : Two wr q 31 u v) (z : Lin) (vb : Option Addr) (m vd : Nat) (ho : w'.ownsRow wr.heap.size 61 2 (.slice vb m vd) z.terms.length (rowT z.terms)) :
  PS w g a c ts k d p x va n vc k1 e1 ((w'.setCell ⟨q, 0, none⟩ (.slice vb m vd)).setCell ⟨q, 1, none⟩ (.int .u32 z.const)) /\ ((w'.setCell ⟨q, 0, none⟩ (.slice vb m vd)).setCell ⟨q, 1, none⟩ (.int .u32 z.const)).ownsRow wr.heap.size 61 2 (.slice vb m vd) z.terms.length (rowT z.terms) := by
 have hlo := h.lo
 have hs := h.size
 have hs2 := hb.size
 have hqs := ht.lt'
 obtain ⟨s1, s2⟩ := two_set (ht.below hb hqs).heap rfl (.slice vb m vd) (.int .u32 z.const)
 have hs3 := s2.size
 have hr := h.rr.below hb
 have hown := own_low h.own (grown_wide (grown_of_below hb) (some w.heap.size)) (by omega)
 refine ⟨⟨grown_highD (grown_trans h.grown (grown_wide (grown_of_below hb) _)) s2 (by omega), hlo, by omega, (h.res.below hb (by omega)).grown s2 (by simp; omega), (h.lin.below hb (by omega)).grown s2 (by simp; omega), own_kept hown s2 (own_ne hown (ht.below hb hqs)), hr.grown s2 (by simp; omega) (fun y hy => by have := hr.ne y hy; simp; omega), h.few, h.le⟩, own_low ho s2 hqs⟩
set_option maxHeartbeats 4000000 in
theorem refSum_any (a : Option Addr) (c g : Nat) (ts : List Tok) (W : List Tok -> PRes) (hW : Fine W) (d : Int) (hpart : RPart g a c ts d W) (w : World) (k : Nat) (hk : k <= ts.length) (h : RR w g a c ts k d 0) :
  Calls Tryz.prog 94 #[.pointer (some ⟨g, 0, none⟩)] w fun e w' => ROutD w g a c ts k d (sumF W (ts.drop k)) e w' := by
 have hglt := h.lt
 have hfew := h.few
 have h0 := Hid.intro (hpart (w.alloc linO) k (h.below (below_alloc w _)) hk)
 have hpartH := Hid.intro hpart
 have hst := Hid.intro (fun e w1 => @ss_new w g a c ts k d W hW hglt e w1)
 obtain ⟨R0, hR0⟩ : ∃ R0, R0 = sumF W (ts.drop k) := ⟨_, rfl⟩
 rw [<- hR0] at hst ⊢
 clear h hpart hR0
 go_enter Tryz.func94, Tryz.ntmps94
 go_wp2_with (go_at_call 97; (with_reducible refine (h0.out).mono ?_); intro e w1 hF; obtain ⟨x0, va0, n0, vc0, k0, e0, rfl, hP, hE⟩ := hst.out e w1 hF; replace hP := Hid.intro hP; replace hE := Hid.intro hE; clear hF)
 all_goals first | omega | skip
 obtain ⟨p, hp⟩ : ∃ p, p = w1.heap.size := ⟨_, rfl⟩
 rw [<- hp] at hP ⊢
 clear hp h0 hst
 go_loopw [] (fun wr => ∃ x va n vc k1 e1, Hid (PS w g a c ts k d p x va n vc k1 e1 wr) /\ Hid (SEq W ts R0 x k1 e1)) (fun wr => leftK g wr)
 case atStart => exact ⟨x0, va0, n0, vc0, k0, e0, hP, hE⟩
 case round =>
  clear hP hE
  obtain ⟨x, va, n, vc, k1, e1, hP, hE⟩ := hrel
  have hlo := hP.out.lo
  have hsz := hP.out.size
  have hle := hP.out.le
  have hfw := hP.out.few
  by_cases hstop : isK ts k1 e1 43 = false /\ isK ts k1 e1 45 = false
  ·obtain ⟨hK, hK2⟩ := hstop
   have hres : Hid (RRes ts R0 x k1 e1) := by
    rcases hE.out with ⟨rfl, f, acc, hf, hR, hn⟩ | ⟨he, hR⟩
    ·show RRes ts R0 x k1 0
     rw [hR, sumL_no (by simpa [isK] using hK) (by simpa [isK] using hK2), <- hn]
     exact ⟨rfl, rfl, rfl⟩
    ·show RRes ts R0 x k1 e1
     rw [hR]
     rfl
   go_wp2_with (first | (go_at_call 98; (with_reducible refine (is_b a c g ts k1 d e1 43 false hK wr hP.out.rr).mono ?_); rintro e w2 ⟨rfl, hzw2, hbw2⟩; have hP2 := Hid.intro (hP.out.below hbw2); obtain ⟨_, v1, v2, v3⟩ := hP2.out.rr.cells; have j1 := hP2.out.rr.frozen 1; obtain ⟨_, x0, x1, _, _⟩ := hP2.out.lin; obtain ⟨_, _, _, f0, f1⟩ := hP2.out.res) | (go_at_call 98; (with_reducible refine (is_b a c g ts k1 d e1 45 false hK2 w2 hP2.out.rr).mono ?_); rintro e w3 ⟨rfl, hzw3, hbw3⟩; have hP3 := Hid.intro (hP2.out.below hbw3); obtain ⟨_, v1, v2, v3⟩ := hP3.out.rr.cells; have j1 := hP3.out.rr.frozen 1; obtain ⟨_, x0, x1, _, _⟩ := hP3.out.lin; obtain ⟨_, _, _, f0, f1⟩ := hP3.out.res))
   all_goals first | omega | skip
   obtain ⟨s1, s2⟩ := two_set (hP3.out).res.heap rfl (.slice va n vc) (.int .u32 x.const)
   generalize ((w3.setCell ⟨w.heap.size, 0, none⟩ (.slice va n vc)).setCell ⟨w.heap.size, 1, none⟩ (.int .u32 x.const)) = w9 at s1 s2 ⊢
   obtain ⟨_, u0, u1, _, _⟩ := s1
   refine bodyPost_ret (by simp [results, Tryz.results94, go_sem, u0, u1]; try rfl) rfl ?_
   exact (hP3.out).out hglt s2 hres.out
  ·have he1 : e1 = 0 := by
    by_cases h : e1 = 0
    ·exact h
    ·exact absurd ⟨isK_err h, isK_err h⟩ hstop
   subst he1
   obtain ⟨f, acc, hf1, hf2, hnm⟩ : ∃ f acc, (ts.drop k1).length <= f /\ R0 = sumL W f acc x.const (ts.drop k1) /\ x.terms = norm acc := by
    rcases hE.out with ⟨_, h⟩ | ⟨h, _⟩
    ·exact h
    ·exact absurd rfl h
   have hleft := Hid.intro hP.out.rr.left
   clear hE
   cases hK : isK ts k1 0 43
   ·have hK2 : isK ts k1 0 45 = true := by
     cases h : isK ts k1 0 45
     ·exact absurd ⟨hK, h⟩ hstop
     ·rfl
    clear hstop
    obtain ⟨t, ht, hs, hdr⟩ : ∃ t, ts[k1]? = some t /\ isS t 45 = true /\ ts.drop k1 = t :: ts.drop (k1 + 1) := by
     rcases isK_cases ts k1 45 with ⟨h, _⟩ | ⟨_, h⟩
     ·rw [h] at hK2; cases hK2
     ·exact h
    have hlt : k1 < ts.length := (List.getElem?_eq_some_iff.1 ht).1
    rw [hdr] at hf1 hf2
    simp only [List.length_cons] at hf1
    obtain ⟨f, rfl⟩ : ∃ f', f = f' + 1 := ⟨f - 1, by omega⟩
    rw [sumL_step true hs] at hf2
    simp only [if_true] at hf2
    clear hs hdr ht
    go_upto_region 5 with (first | (go_at_call 98; (with_reducible refine (is_b a c g ts k1 d 0 43 false hK wr hP.out.rr).mono ?_); rintro e w2 ⟨rfl, hzw2, hbw2⟩; have hP2 := Hid.intro (hP.out.below hbw2); obtain ⟨_, v1, v2, v3⟩ := hP2.out.rr.cells; have j1 := hP2.out.rr.frozen 1; obtain ⟨_, x0, x1, _, _⟩ := hP2.out.lin; obtain ⟨_, _, _, f0, f1⟩ := hP2.out.res) | (go_at_call 98; (with_reducible refine (is_b a c g ts k1 d 0 45 true hK2 w2 hP2.out.rr).mono ?_); rintro e w3 ⟨rfl, hzw3, hbw3⟩; have hP3 := Hid.intro (hP2.out.below hbw3); obtain ⟨_, v1, v2, v3⟩ := hP3.out.rr.cells; have j1 := hP3.out.rr.frozen 1; obtain ⟨_, x0, x1, _, _⟩ := hP3.out.lin; obtain ⟨_, _, _, f0, f1⟩ := hP3.out.res) | (go_at_call 98; (with_reducible refine (is_b a c g ts k1 d 0 45 true hK2 w3 hP3.out.rr).mono ?_); rintro e w4 ⟨rfl, hzw4, hbw4⟩; have hP4 := Hid.intro (hP3.out.below hbw4); obtain ⟨_, v1, v2, v3⟩ := hP4.out.rr.cells; have j1 := hP4.out.rr.frozen 1; obtain ⟨_, x0, x1, _, _⟩ := hP4.out.lin; obtain ⟨_, _, _, f0, f1⟩ := hP4.out.res))
    all_goals first | omega | skip
    have hP5 : PS w g a c ts k d p x va n vc (k1 + 1) 0 (w4.setCell ⟨g, 1, none⟩ (.int .i64 ((k1 : Int) + 1))) := by
     obtain ⟨s1, s2⟩ := hP4.out.rr.setK ((k1 : Int) + 1) (by omega) (by omega)
     exact hP4.out.turn hglt s2 s1 (by omega) (by omega)
    generalize w4.setCell ⟨g, 1, none⟩ (.int .i64 ((k1 : Int) + 1)) = w5 at hP5 ⊢
    clear v1 v2 v3 j1 x0 x1 f0 f1
    replace hP5 := Hid.intro hP5
    have hp5 := Hid.intro (hpartH.out w5 (k1 + 1) hP5.out.rr (by omega))
    go_wp2_with (first | (go_at_call 97; (with_reducible refine (hp5.out).mono ?_); rintro e w6 ⟨hg6, y, vb, m, vd, k6, e6, rfl, hown6, hR6, hl6, hk6, hres⟩; replace hres := Hid.intro hres; have hP6 := Hid.intro ((hP5.out.turn hglt hg6 hR6 (by omega) hk6).below (below_alloc w6 (.cells #[.slice vb m vd, .int .u32 y.const] 31))); have hO6 := Hid.intro (hown6.alloc (.cells #[.slice vb m vd, .int .u32 y.const] 31)); obtain ⟨_, x0, x1, xf0, xf1⟩ := hP6.out.lin; obtain ⟨yh, y0, y1, yf0, yf1⟩ := two_new w6 31 (.slice vb m vd) (.int .u32 y.const); replace yh := Hid.intro yh; have hsz6 := hg6.size; have hsz5 := hP5.out.size; have q1 : ¬ p = w6.heap.size := (by omega); have q2 : ¬ w6.heap.size = p := (by omega); have hlow := hP5.out.lo; clear hR6 hown6 hg6) | (go_at_call 99; (with_reducible refine (times_own y hO6.out 4294967295 (by omega)).mono ?_); rintro e w7 ⟨hb7, vz, mz, vy, rfl, hown7⟩; have hyl : (timesL y 4294967295).terms.length <= y.terms.length := times_len _ _; have hP7 := Hid.intro (hP6.out.over hglt hb7 w6.heap.size (by omega) (by omega) (two_new w6 31 (.slice vb m vd) (.int .u32 y.const)) (timesL y 4294967295) vz mz vy hown7); obtain ⟨_, t0, t1, tf0, tf1⟩ := (two_new w6 31 (.slice vb m vd) (.int .u32 y.const)).below hb7 (by simp); obtain ⟨_, l0, l1, lf0, lf1⟩ := hP6.out.lin.below hb7 (by have := hP6.out.size; omega)) | (go_at_call 100; (with_reducible refine (add_own x (timesL y 4294967295) hP7.out.1.own hP7.out.2 (by omega) (by omega)).mono ?_); rintro e w8 ⟨hb8, vz2, mz2, vy2, rfl, hown8⟩; have hP8 := Hid.intro (hP7.out.1.put hglt hb8 ⟨mrg x.terms (timesL y 4294967295).terms, (x.const + (timesL y 4294967295).const) % 4294967296⟩ vz2 mz2 vy2 hown8 (by have := mrg_len x.terms (timesL y 4294967295).terms; simp only []; omega)); obtain ⟨_, _, _, p60, p61⟩ := hP7.out.1.lin.below hb8 (by have := hP7.out.1.size; omega)))
    all_goals first | omega | skip
    go_roundw
    case rel =>
     refine ⟨_, _, _, _, _, _, hP8, Hid.intro ?_⟩
     have hrs := hres.out
     cases hpF : partF W (ts.drop (k1 + 1)) with
     | error q =>
      rw [hpF] at hrs hf2
      have hq := (partF_fine hW).2 _ _ hpF
      have he : e6 = q := hrs
      exact .inr ⟨by rw [he]; rcases hq with h | h <;> omega, by rw [he]; exact hf2⟩
     | ok pr =>
      obtain ⟨yy, r'⟩ := pr
      rw [hpF] at hrs hf2
      obtain ⟨rfl, rfl, rfl⟩ := hrs
      have hgy := ((partF_fine hW).1 _ _ _ hpF).2.2
      exact .inl ⟨rfl, f, _, by rw [List.length_drop] at hf1 ⊢; omega, hf2, by rw [norm_add, <- hnm]; exact mrg_add (hnm ▸ canon_norm acc) (canon_times hgy.canon _)⟩
    case measure =>
     have := (hP8).out.rr.left
     rw [hleft.out, this]
     omega
   ·have hK2 := is_not hK
    clear hstop
    obtain ⟨t, ht, hs, hdr⟩ : ∃ t, ts[k1]? = some t /\ isS t 43 = true /\ ts.drop k1 = t :: ts.drop (k1 + 1) := by
     rcases isK_cases ts k1 43 with ⟨h, _⟩ | ⟨_, h⟩
     ·rw [h] at hK; cases hK
     ·exact h
    have hlt : k1 < ts.length := (List.getElem?_eq_some_iff.1 ht).1
    rw [hdr] at hf1 hf2
    simp only [List.length_cons] at hf1
    obtain ⟨f, rfl⟩ : ∃ f', f = f' + 1 := ⟨f - 1, by omega⟩
    rw [sumL_step false hs] at hf2
    simp only [Bool.false_eq_true, if_false] at hf2
    clear hs hdr ht
    go_upto_region 5 with (first | (go_at_call 98; (with_reducible refine (is_b a c g ts k1 d 0 43 true hK wr hP.out.rr).mono ?_); rintro e w2 ⟨rfl, hzw2, hbw2⟩; have hP2 := Hid.intro (hP.out.below hbw2); obtain ⟨_, v1, v2, v3⟩ := hP2.out.rr.cells; have j1 := hP2.out.rr.frozen 1; obtain ⟨_, x0, x1, _, _⟩ := hP2.out.lin; obtain ⟨_, _, _, f0, f1⟩ := hP2.out.res) | (go_at_call 98; (with_reducible refine (is_b a c g ts k1 d 0 45 false hK2 w2 hP2.out.rr).mono ?_); rintro e w4 ⟨rfl, hzw4, hbw4⟩; have hP4 := Hid.intro (hP2.out.below hbw4); obtain ⟨_, v1, v2, v3⟩ := hP4.out.rr.cells; have j1 := hP4.out.rr.frozen 1; obtain ⟨_, x0, x1, _, _⟩ := hP4.out.lin; obtain ⟨_, _, _, f0, f1⟩ := hP4.out.res))
    all_goals first | omega | skip
    have hP5 : PS w g a c ts k d p x va n vc (k1 + 1) 0 (w4.setCell ⟨g, 1, none⟩ (.int .i64 ((k1 : Int) + 1))) := by
     obtain ⟨s1, s2⟩ := hP4.out.rr.setK ((k1 : Int) + 1) (by omega) (by omega)
     exact hP4.out.turn hglt s2 s1 (by omega) (by omega)
    generalize w4.setCell ⟨g, 1, none⟩ (.int .i64 ((k1 : Int) + 1)) = w5 at hP5 ⊢
    clear v1 v2 v3 j1 x0 x1 f0 f1
    replace hP5 := Hid.intro hP5
    have hp5 := Hid.intro (hpartH.out w5 (k1 + 1) hP5.out.rr (by omega))
    go_wp2_with (first | (go_at_call 97; (with_reducible refine (hp5.out).mono ?_); rintro e w6 ⟨hg6, y, vb, m, vd, k6, e6, rfl, hown6, hR6, hl6, hk6, hres⟩; replace hres := Hid.intro hres; have hP6 := Hid.intro ((hP5.out.turn hglt hg6 hR6 (by omega) hk6).below (below_alloc w6 (.cells #[.slice vb m vd, .int .u32 y.const] 31))); have hO6 := Hid.intro (hown6.alloc (.cells #[.slice vb m vd, .int .u32 y.const] 31)); obtain ⟨_, x0, x1, xf0, xf1⟩ := hP6.out.lin; obtain ⟨yh, y0, y1, yf0, yf1⟩ := two_new w6 31 (.slice vb m vd) (.int .u32 y.const); replace yh := Hid.intro yh; have hsz6 := hg6.size; have hsz5 := hP5.out.size; have q1 : ¬ p = w6.heap.size := (by omega); have q2 : ¬ w6.heap.size = p := (by omega); have hlow := hP5.out.lo; clear hR6 hown6 hg6) | (go_at_call 100; (with_reducible refine (add_own x y hP6.out.own hO6.out (by omega) (by omega)).mono ?_); rintro e w7 ⟨hb7, vz, mz, vy, rfl, hown7⟩; have hP7 := Hid.intro (hP6.out.put hglt hb7 ⟨mrg x.terms y.terms, (x.const + y.const) % 4294967296⟩ vz mz vy hown7 (by have := mrg_len x.terms y.terms; simp only []; omega)); obtain ⟨_, _, _, p60, p61⟩ := hP6.out.lin.below hb7 (by have := hP6.out.size; omega)))
    all_goals first | omega | skip
    go_roundw
    case rel =>
     refine ⟨_, _, _, _, _, _, hP7, Hid.intro ?_⟩
     have hrs := hres.out
     cases hpF : partF W (ts.drop (k1 + 1)) with
     | error q =>
      rw [hpF] at hrs hf2
      have hq := (partF_fine hW).2 _ _ hpF
      have he : e6 = q := hrs
      exact .inr ⟨by rw [he]; rcases hq with h | h <;> omega, by rw [he]; exact hf2⟩
     | ok pr =>
      obtain ⟨yy, r'⟩ := pr
      rw [hpF] at hrs hf2
      obtain ⟨rfl, rfl, rfl⟩ := hrs
      have hgy := ((partF_fine hW).1 _ _ _ hpF).2.2
      exact .inl ⟨rfl, f, _, by rw [List.length_drop] at hf1 ⊢; omega, hf2, by rw [norm_add, <- hnm]; exact mrg_add (hnm ▸ canon_norm acc) hgy.canon⟩
    case measure =>
     have := (hP7).out.rr.left
     rw [hleft.out, this]
     omega
end Go.Proofs.YtlkmegchaeokgaaGreatDoor
namespace Go.Proofs.YtlkmegchaeokgaaGreatDoor
open Go.ChangeShapes Go.WideShapes Go.ChangeAt Go.RowKit
set_option linter.unusedVariables false
set_option maxRecDepth 100000
theorem refSum_all (a : Option Addr) (c g : Nat) (ts : List Tok) (m : Nat) : ∀ d : Int, d + m = 32 -> 0 <= d -> RSum g a c ts d (sumD (m + 1)) := by
 induction m with
 | zero =>
  intro d hd h0 w k hR hk
  refine refSum_any a c g ts (sumD 0) (sumD_fine 0) d (fun w1 k1 hR1 hk1 => ?_) w k hk hR
  exact refPart_any a c g ts (sumD 0) (sumD_fine 0) d (fun w2 k2 hR2 hk2 => refFactor_any a c g ts (sumD 0) (sumD_fine 0) d h0 (by omega) (fun h => absurd (by omega) h) (fun _ l => rfl) w2 k2 hk2 hR2) w1 k1 hk1 hR1
 | succ m ih =>
  intro d hd h0 w k hR hk
  refine refSum_any a c g ts (sumD (m + 1)) (sumD_fine (m + 1)) d (fun w1 k1 hR1 hk1 => ?_) w k hk hR
  exact refPart_any a c g ts (sumD (m + 1)) (sumD_fine (m + 1)) d (fun w2 k2 hR2 hk2 => refFactor_any a c g ts (sumD (m + 1)) (sumD_fine (m + 1)) d h0 (by omega) (fun _ => ih (d + 1) (by omega) (by omega)) (fun h => absurd h (by omega)) w2 k2 hk2 hR2) w1 k1 hk1 hR1
structure RToks (w : World) (a : Option Addr) (ts : List Tok) : Prop where
 lies : TLies w a ts
 old : ∀ x, a = some x -> x.block < w.heap.size
 few : ts.length <= 1000
 short : ∀ t ∈ ts, t.text.length <= 1000000
 nums : ∀ t ∈ ts, 0 <= t.num /\ t.num < 4294967296
theorem rr_new {w : World} {a : Option Addr} {ts : List Tok} (h : RToks w a ts) (c : Nat) (o : Obj) : RR ((w.alloc o).alloc (.cells #[.slice a ts.length c, .int .i64 0, .int .i64 0, .int .i64 0] 166)) (w.heap.size + 1) a c ts 0 0 0 := by
 have hs : (w.alloc o).heap.size = w.heap.size + 1 := by simp
 refine ⟨?_, (h.lies.below (below_alloc w o)).below (below_alloc _ _), fun x hx => by have := h.old x hx; omega, by omega, by omega, h.few, h.short, h.nums⟩
 rw [<- hs]
 exact heap_alloc_new _ _
theorem below_new {w w1 : World} {o1 o2 : Obj} (hg : ((w.alloc o1).alloc o2).grownBy w1 (some (w.heap.size + 1))) : Below w.heap.size w w1 :=
 (((below_alloc w o1).alloc (by simp) o2).grown hg (by simp; omega) (fun j hj => by cases hj; omega))
set_option maxHeartbeats 2000000 in
theorem refParse_any (a : Option Addr) (c : Nat) (ts : List Tok) (w : World) (hT : RToks w a ts) :
  Calls Tryz.prog 84 #[.slice a ts.length c] w fun e w' => ParseOut w ts e w' := by
 have hsum := Hid.intro (refSum_all a c (w.heap.size + 1) ts 32 0 (by omega) (by omega) _ 0 (rr_new hT c linO) (Nat.zero_le _))
 simp only [List.drop_zero] at hsum
 have hfew := hT.few
 have hfine := sumD_fine 33
 have hF : parseF ts = match sumD 33 ts with | .error e => .error e | .ok (x, []) => .ok x | .ok (_, _ :: _) => .error 20 := rfl
 unfold ParseOut
 rw [hF]
 clear hF hT
 have hsz : ((w.alloc linO).alloc (.cells #[.slice a ts.length c, .int .i64 0, .int .i64 0, .int .i64 0] 166)).heap.size = w.heap.size + 2 := by simp
 cases hS : sumD 33 ts with
 | error q =>
  have hq := hfine.err _ _ hS
  have hq0 : (q == 0) = false := by rcases hq with rfl | rfl <;> rfl
  rw [hS] at hsum
  clear hS hfine
  simp only
  go_enter Tryz.func84, Tryz.ntmps84
  go_upto_region 6 with (go_at_call 94; (with_reducible refine (hsum.out).mono ?_); rintro e w1 ⟨hg1, x, va, n, vc, k1, e1, rfl, hown1, hR1, hl1, hk1, hres⟩; replace hres : e1 = q := hres; subst hres; have hs1 := hg1.size; rw [hsz] at hs1 hown1; have hR2 := Hid.intro (hR1.below (below_alloc w1 (.cells #[.slice va n vc, .int .u32 x.const] 31))); obtain ⟨v0, v1, v2, v3⟩ := hR2.out.cells; have hB2 := Hid.intro ((below_new hg1).alloc (by omega) (.cells #[.slice va n vc, .int .u32 x.const] 31)); obtain ⟨rh, r0, r1, rf0, rf1⟩ := (((two_new w 31 (.slice none 0 0) (.int .u32 0)).alloc _).grown hg1 (by simp)).alloc (.cells #[.slice va n vc, .int .u32 x.const] 31); replace rh := Hid.intro rh; obtain ⟨_, x0, x1, _, _⟩ := two_new w1 31 (.slice va n vc) (.int .u32 x.const); have q1 : ¬ w.heap.size = w1.heap.size := (by omega); have q2 : ¬ w1.heap.size = w.heap.size := (by omega); have q3 : ¬ w.heap.size + 1 = w1.heap.size := (by omega))
  all_goals first | omega | skip
  replace hB2 := hB2.out
  replace rh := rh.out
  clear hR2 hown1 hR1 hg1 v0 v1 v2 x0 x1 r0 r1
  generalize (w1.alloc (.cells #[.slice va n vc, .int .u32 x.const] 31)) = w2 at hB2 rh v3 rf0 rf1 ⊢
  replace hB2 := Hid.intro hB2
  have rc0 := (two_of rh).c0
  have rc1 := (two_of rh).c1
  replace rh := Hid.intro rh
  go_region
  all_goals first | omega | skip
  have hw2 := hB2.out.size
  go_wp2
  all_goals first | omega | skip
  obtain ⟨s1, s2⟩ := two_set (rh.out) rfl (.slice none 0 0) (.int .u32 0)
  have hB9 := hB2.out.grown s2 (by omega) (fun j hj => by cases hj; exact Nat.le_refl _)
  have hB10 := hB9.drew
  generalize (((w2.setCell ⟨w.heap.size, 0, none⟩ (.slice none 0 0)).setCell ⟨w.heap.size, 1, none⟩ (.int .u32 0))) = w9 at s1 s2 hB9 hB10 ⊢
  obtain ⟨_, u0, u1, _, _⟩ := s1
  refine bodyPost_ret (by simp [results, Tryz.results84, go_sem, u0, u1]; try rfl) rfl ?_
  exact ⟨hB10, rfl⟩
 | ok pr =>
  obtain ⟨x, r⟩ := pr
  rw [hS] at hsum
  clear hS hfine
  cases r with
  | nil =>
   simp only
   go_enter Tryz.func84, Tryz.ntmps84
   go_wp2_with (go_at_call 94; (with_reducible refine (hsum.out).mono ?_); rintro e w1 ⟨hg1, x, va, n, vc, k1, e1, rfl, hown1, hR1, hl1, hk1, rfl, rfl, hres⟩; have hkl : ts.length <= k1 := (by simpa using hres); clear hres; have hs1 := hg1.size; rw [hsz] at hs1 hown1; have hR2 := Hid.intro (hR1.below (below_alloc w1 (.cells #[.slice va n vc, .int .u32 x.const] 31))); obtain ⟨v0, v1, v2, v3⟩ := hR2.out.cells; have hB2 := Hid.intro ((below_new hg1).alloc (by omega) (.cells #[.slice va n vc, .int .u32 x.const] 31)); obtain ⟨rh, r0, r1, rf0, rf1⟩ := (((two_new w 31 (.slice none 0 0) (.int .u32 0)).alloc _).grown hg1 (by simp)).alloc (.cells #[.slice va n vc, .int .u32 x.const] 31); replace rh := Hid.intro rh; obtain ⟨_, x0, x1, _, _⟩ := two_new w1 31 (.slice va n vc) (.int .u32 x.const); have q1 : ¬ w.heap.size = w1.heap.size := (by omega); have q2 : ¬ w1.heap.size = w.heap.size := (by omega); have q3 : ¬ w.heap.size + 1 = w1.heap.size := (by omega); replace hown1 := Hid.intro hown1)
   all_goals first | omega | skip
   obtain ⟨s1, s2⟩ := two_set rh.out rfl (.slice va n vc) (.int .u32 x.const)
   have hs2 := s2.size
   have hB9 := hB2.out.grown s2 (by simp; omega) (fun j hj => by cases hj; exact Nat.le_refl _)
   have hown9 := own_low (hown1.out.alloc (.cells #[.slice va n vc, .int .u32 x.const] 31)) s2 (by omega)
   generalize (((w1.alloc (.cells #[.slice va n vc, .int .u32 x.const] 31)).setCell ⟨w.heap.size, 0, none⟩ (.slice va n vc)).setCell ⟨w.heap.size, 1, none⟩ (.int .u32 x.const)) = w9 at s1 s2 hB9 hown9 ⊢
   obtain ⟨_, u0, u1, _, _⟩ := s1
   refine bodyPost_ret (by simp [results, Tryz.results84, go_sem, u0, u1]; try rfl) rfl ?_
   exact ⟨hB9, va, n, vc, rfl, own_weaken hown9 (by omega)⟩
  | cons t r =>
   simp only
   go_enter Tryz.func84, Tryz.ntmps84
   go_upto_region 6 with (first | (go_at_call 94; (with_reducible refine (hsum.out).mono ?_); rintro e w1 ⟨hg1, x, va, n, vc, k1, e1, rfl, hown1, hR1, hl1, hk1, rfl, rfl, hres⟩; have hkl : k1 < ts.length := (by have hl := congrArg List.length hres; simp at hl; omega); clear hres; have hs1 := hg1.size; rw [hsz] at hs1 hown1; have hR2 := Hid.intro (hR1.below (below_alloc w1 (.cells #[.slice va n vc, .int .u32 x.const] 31))); obtain ⟨v0, v1, v2, v3⟩ := hR2.out.cells; have hB2 := Hid.intro ((below_new hg1).alloc (by omega) (.cells #[.slice va n vc, .int .u32 x.const] 31)); obtain ⟨rh, r0, r1, rf0, rf1⟩ := (((two_new w 31 (.slice none 0 0) (.int .u32 0)).alloc _).grown hg1 (by simp)).alloc (.cells #[.slice va n vc, .int .u32 x.const] 31); replace rh := Hid.intro rh; obtain ⟨_, x0, x1, _, _⟩ := two_new w1 31 (.slice va n vc) (.int .u32 x.const); have q1 : ¬ w.heap.size = w1.heap.size := (by omega); have q2 : ¬ w1.heap.size = w.heap.size := (by omega); have q3 : ¬ w.heap.size + 1 = w1.heap.size := (by omega)) | (go_at_call 95; (with_reducible refine (refuse_any a c (w.heap.size + 1) ts _ 0 0 20 _ hR2.out).mono ?_); rintro e w3 ⟨rfl, hg3, hR3⟩; have hB3 := Hid.intro (hB2.out.grown hg3 (by simp; omega) (fun j hj => by cases hj; omega)); have i3 := hR3.cells.2.2.2; obtain ⟨rh3, r30, r31, rf30, rf31⟩ := (two_of rh.out).grown hg3 (by simp); replace rh3 := Hid.intro rh3))
   all_goals first | omega | skip
   replace hB3 := hB3.out
   replace i3 : w3.cell? ⟨w.heap.size + 1, 3, none⟩ = some (.int .i64 20) := i3
   rw [show firstE 0 20 = 20 from rfl]
   clear hR2 hown1 hR1 hg1 v0 v1 v2 v3 x0 x1 r0 r1 rf0 rf1 hR3 hg3 hB2
   have hw3 := hB3.size
   replace hB3 := Hid.intro hB3
   go_region
   all_goals first | omega | skip
   go_wp2
   all_goals first | omega | skip
   obtain ⟨s1, s2⟩ := two_set (rh3.out) rfl (.slice none 0 0) (.int .u32 0)
   have hB9 := hB3.out.grown s2 (by omega) (fun j hj => by cases hj; exact Nat.le_refl _)
   have hB10 := hB9.drew
   generalize (((w3.setCell ⟨w.heap.size, 0, none⟩ (.slice none 0 0)).setCell ⟨w.heap.size, 1, none⟩ (.int .u32 0))) = w9 at s1 s2 hB9 hB10 ⊢
   obtain ⟨_, u0, u1, _, _⟩ := s1
   refine bodyPost_ret (by simp [results, Tryz.results84, go_sem, u0, u1]; try rfl) rfl ?_
   exact ⟨hB10, rfl⟩
end Go.Proofs.YtlkmegchaeokgaaGreatDoor

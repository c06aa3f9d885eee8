/- The document's reader of tokens: refuse, is. -/
import Derived.Test.YtlkmegchaeokgaaGreatDoorTRoom
import Derived.Test.YtlkmegchaeokgaaGreatDoorTake
namespace Go.Proofs.YtlkmegchaeokgaaGreatDoor
open Go.ChangeShapes Go.WideShapes Go.ChangeAt Go.RowKit
set_option linter.unusedVariables false
set_option maxRecDepth 100000
structure RR (w : World) (g : Nat) (a : Option Addr) (c : Nat) (ts : List Tok) (k d e : Int) : Prop where
 heap : w.heap[g]? = some (.cells #[.slice a ts.length c, .int .i64 k, .int .i64 d, .int .i64 e] 166 (0, 0))
 lies : TLies w a ts
 ne : ∀ x, a = some x -> x.block < g
 k0 : 0 <= k
 k1 : k <= 2000
 few : ts.length <= 1000
 short : ∀ t ∈ ts, t.text.length <= 1000000
 nums : ∀ t ∈ ts, 0 <= t.num /\ t.num < 4294967296
theorem RR.lt {w : World} {g : Nat} {a : Option Addr} {c : Nat} {ts : List Tok} {k d e : Int} (h : RR w g a c ts k d e) : g < w.heap.size := (Array.getElem?_eq_some_iff.1 h.heap).1
theorem RR.cells {w : World} {g : Nat} {a : Option Addr} {c : Nat} {ts : List Tok} {k d e : Int} (h : RR w g a c ts k d e) :
  w.cell? ⟨g, 0, none⟩ = some (.slice a ts.length c) /\ w.cell? ⟨g, 1, none⟩ = some (.int .i64 k) /\ w.cell? ⟨g, 2, none⟩ = some (.int .i64 d) /\ w.cell? ⟨g, 3, none⟩ = some (.int .i64 e) :=
 ⟨(cell_blockT h.heap 0).trans rfl, (cell_blockT h.heap 1).trans rfl, (cell_blockT h.heap 2).trans rfl, (cell_blockT h.heap 3).trans rfl⟩
theorem RR.frozen {w : World} {g : Nat} {a : Option Addr} {c : Nat} {ts : List Tok} {k d e : Int} (h : RR w g a c ts k d e) (j : Nat) : w.frozen? ⟨g, j, none⟩ = false := frozen_of_row w g j _ 166 h.heap
theorem TLies.grown {w w' : World} {a : Option Addr} {xs : List Tok} {k : Option Nat} (h : TLies w a xs) (hg : w.grownBy w' k) (hne : ∀ x, a = some x -> some x.block ≠ k) : TLies w' a xs := by
 rcases h with h | ⟨g, off, ha, hc⟩
 ·exact .inl h
 ·exact .inr ⟨g, off, ha, fun i x hx => ⟨hg.cell (hc i x hx).o (hne ⟨g, off, none⟩ ha), hg.cell (hc i x hx).a (hne ⟨g, off, none⟩ ha), hg.cell (hc i x hx).b (hne ⟨g, off, none⟩ ha), hg.cell (hc i x hx).n (hne ⟨g, off, none⟩ ha)⟩⟩
theorem RR.grown {w w' : World} {g : Nat} {a : Option Addr} {c : Nat} {ts : List Tok} {k d e : Int} {b : Option Nat} (h : RR w g a c ts k d e) (hg : w.grownBy w' b) (hb : b ≠ some g) (hx : ∀ x, a = some x -> some x.block ≠ b) : RR w' g a c ts k d e :=
 ⟨by rw [hg.block g h.lt (fun e => hb e.symm)]; exact h.heap, h.lies.grown hg hx, h.ne, h.k0, h.k1, h.few, h.short, h.nums⟩
theorem RR.below {w w' : World} {g : Nat} {a : Option Addr} {c : Nat} {ts : List Tok} {k d e : Int} (h : RR w g a c ts k d e) (hb : Below w.heap.size w w') : RR w' g a c ts k d e := h.grown (grown_of_below hb) (by simp) (fun x _ => by simp)
theorem row_set {w : World} {g : Nat} {T : TypeId} {cur : Array Value} (h : w.heap[g]? = some (.cells cur T (0, 0))) (j : Nat) (y : Value) :
  (w.setCell ⟨g, j, none⟩ y).heap[g]? = some (.cells (cur.setIfInBounds j y) T (0, 0)) /\ w.grownBy (w.setCell ⟨g, j, none⟩ y) (some g) := by
 refine ⟨heap_setCell_same w g j _ T y h, ⟨rfl, rfl, rfl, by simp, fun k hk hne => ?_⟩⟩
 have hk' : k ≠ g := fun e => hne (by rw [e])
 rw [heap_setCell_other _ _ _ _ hk']
theorem RR.setE {w : World} {g : Nat} {a : Option Addr} {c : Nat} {ts : List Tok} {k d e : Int} (h : RR w g a c ts k d e) (e' : Int) :
  RR (w.setCell ⟨g, 3, none⟩ (.int .i64 e')) g a c ts k d e' /\ w.grownBy (w.setCell ⟨g, 3, none⟩ (.int .i64 e')) (some g) := by
 obtain ⟨s1, s2⟩ := row_set h.heap 3 (.int .i64 e')
 exact ⟨⟨s1, h.lies.grown s2 (fun x hx e => by have := h.ne x hx; injection e with e; omega), h.ne, h.k0, h.k1, h.few, h.short, h.nums⟩, s2⟩
theorem RR.setD {w : World} {g : Nat} {a : Option Addr} {c : Nat} {ts : List Tok} {k d e : Int} (h : RR w g a c ts k d e) (d' : Int) :
  RR (w.setCell ⟨g, 2, none⟩ (.int .i64 d')) g a c ts k d' e /\ w.grownBy (w.setCell ⟨g, 2, none⟩ (.int .i64 d')) (some g) := by
 obtain ⟨s1, s2⟩ := row_set h.heap 2 (.int .i64 d')
 exact ⟨⟨s1, h.lies.grown s2 (fun x hx e => by have := h.ne x hx; injection e with e; omega), h.ne, h.k0, h.k1, h.few, h.short, h.nums⟩, s2⟩
theorem RR.setK {w : World} {g : Nat} {a : Option Addr} {c : Nat} {ts : List Tok} {k d e : Int} (h : RR w g a c ts k d e) (k' : Int) (h0 : 0 <= k') (h1 : k' <= 2000) :
  RR (w.setCell ⟨g, 1, none⟩ (.int .i64 k')) g a c ts k' d e /\ w.grownBy (w.setCell ⟨g, 1, none⟩ (.int .i64 k')) (some g) := by
 obtain ⟨s1, s2⟩ := row_set h.heap 1 (.int .i64 k')
 exact ⟨⟨s1, h.lies.grown s2 (fun x hx e => by have := h.ne x hx; injection e with e; omega), h.ne, h0, h1, h.few, h.short, h.nums⟩, s2⟩
def firstE (e e' : Int) : Int := if e = 0 then e' else e
theorem refuse_any (a : Option Addr) (c g : Nat) (ts : List Tok) (k d e e' : Int) (w : World) (h : RR w g a c ts k d e) :
  Calls Tryz.prog 95 #[.pointer (some ⟨g, 0, none⟩), .int .i64 e'] w fun x w' => x = .returned (.tuple #[]) /\ w.grownBy w' (some g) /\ RR w' g a c ts k d (firstE e e') := by
 obtain ⟨x0, x1, x2, x3⟩ := h.cells
 have f3 := h.frozen 3
 have hH := Hid.intro h
 clear h
 by_cases he : e = 0
 ·subst he
  go_enter Tryz.func95, Tryz.ntmps95
  go_wp2
  all_goals first | omega | skip
  go_end0
  exact ⟨rfl, (hH.out.setE e').2, (hH.out.setE e').1⟩
 ·go_enter Tryz.func95, Tryz.ntmps95
  go_wp2
  all_goals first | omega | skip
  go_end0
  refine ⟨rfl, World.grownBy.refl _ _, ?_⟩
  rw [firstE, if_neg he]
  exact hH.out
def isK (ts : List Tok) (k e : Int) (c : UInt8) : Bool := decide (e = 0) && headIs c (ts.drop k.toNat)
theorem isK_err {ts : List Tok} {k e : Int} {c : UInt8} (h : e ≠ 0) : isK ts k e c = false := by simp [isK, h]
theorem isK_end {ts : List Tok} {k : Nat} {e : Int} {c : UInt8} (h : ts.length <= k) : isK ts k e c = false := by
 rw [isK, Int.toNat_natCast, List.drop_eq_nil_of_le h]; simp [headIs]
theorem isK_at {ts : List Tok} {k : Nat} {c : UInt8} {t : Tok} (h : ts[k]? = some t) : isK ts k 0 c = isS t c := by
 obtain ⟨hk, rfl⟩ := List.getElem?_eq_some_iff.1 h
 rw [isK, Int.toNat_natCast, List.drop_eq_getElem_cons hk]; simp [headIs]
set_option maxHeartbeats 20000000 in
theorem is_none (a : Option Addr) (c0 g : Nat) (ts : List Tok) (k : Nat) (d : Int) (c : UInt8) (w : World) (h : RR w g a c0 ts k d 0) :
  Calls Tryz.prog 98 #[.pointer (some ⟨g, 0, none⟩), .string (str [c])] w fun x w' => x = .returned (.bool (isK ts k 0 c)) /\ ∃ n, w' = w.drewN n := by
 obtain ⟨x0, x1, x2, x3⟩ := h.cells
 have hf := h.few
 have hk1 := h.k1
 have hl := h.lies
 have hsh := h.short
 clear h
 obtain ⟨n0, hn0⟩ : ∃ n0, n0 = ts.length := ⟨_, rfl⟩
 rw [<- hn0] at x0 hf
 ·by_cases hk : k < n0
  ·obtain ⟨t, ht⟩ : ∃ t, ts[k]? = some t := ⟨ts[k]'(by rw [<- hn0]; exact hk), List.getElem?_eq_getElem _⟩
   rw [isK_at ht]
   rcases hl with rfl | ⟨gt, o, rfl, hc⟩
   ·simp at ht
   obtain ⟨q0, q1, q2, q3⟩ := hc k t ht
   have hm := hsh t (List.mem_of_getElem? ht)
   clear hc hsh ht hn0
   by_cases hkd : t.kind = 3
   ·rw [hkd] at q0
    by_cases htx : t.text = [c]
    ·have hS : isS t c = true := by simp [isS, hkd, htx]
     rw [hS]
     rw [htx] at q1
     clear hS htx hkd hm
     go_enter Tryz.func98, Tryz.ntmps98
     go_wp2
     all_goals first | omega | skip
     go_quiet (fail)
     go_wp2
     all_goals first | omega | skip
     go_ret
     exact ⟨rfl, _, rfl⟩
    ·have hS : isS t c = false := by simp [isS, htx]
     rw [hS]
     have hnx : ((str t.text).toList == (str [c]).toList) = false := by
      rw [str_toList, str_toList]
      exact beq_false_of_ne htx
     clear hS htx hkd
     go_enter Tryz.func98, Tryz.ntmps98
     go_wp2
     all_goals first | omega | skip
     go_quiet (fail)
     go_wp2
     all_goals first | omega | skip
     go_ret
     refine ⟨?_, _, rfl⟩
     rfl
   ·have hS : isS t c = false := by simp [isS, hkd]
    rw [hS]
    clear hS hm
    go_enter Tryz.func98, Tryz.ntmps98
    go_wp2
    all_goals first | omega | skip
    go_quiet (fail)
    go_wp2
    all_goals first | omega | skip
    go_ret
    exact ⟨rfl, _, rfl⟩
  ·rw [isK_end (by omega)]
   clear hl hsh hn0
   go_enter Tryz.func98, Tryz.ntmps98
   go_wp2
   all_goals first | omega | skip
   go_quiet (fail)
   go_wp2
   all_goals first | omega | skip
   go_ret
   exact ⟨rfl, _, rfl⟩
end Go.Proofs.YtlkmegchaeokgaaGreatDoor

/- A book of lists of terms: Stays. -/
import Derived.Test.YtebbbefknfldoaaBtK
import Derived.Handy
namespace Go.Proofs.Ytebbbefknfldoaa.Bk
open Go.ChangeShapes Go.WideShapes Go.ChangeAt Go.RowKit
set_option linter.unusedVariables false
set_option maxRecDepth 100000
theorem BR.fiveAt {w : World} {B n k G1 o1 G2 o2 d1 d2 : Nat} {v1 v2 : Value} {vs1 vs2 : List Value} {hd : Int} (h : BR w B vs1 vs2 n n (some ⟨G1, o1, none⟩) (some ⟨G2, o2, none⟩) d1 d2 hd) (h1 : vs1[k]? = some v1) (h2 : vs2[k]? = some v2) :
    w.cell? ⟨B, 3, none⟩ = some (.bool false) ∧ w.cell? ⟨B, 0, none⟩ = some (.slice (some ⟨G1, o1, none⟩) n d1) ∧ w.cell? ⟨B, 1, none⟩ = some (.slice (some ⟨G2, o2, none⟩) n d2) ∧ w.cell? ⟨G1, o1 + k, none⟩ = some v1 ∧ w.cell? ⟨G2, o2 + k, none⟩ = some v2 := by
  have l1 : k < vs1.length := (List.getElem?_eq_some_iff.1 h1).1
  have l2 : k < vs2.length := (List.getElem?_eq_some_iff.1 h2).1
  exact ⟨h.q3, h.q0, h.q1, (h.o1.cell (a := none) k l1).trans h1, (h.o2.cell (a := none) k l2).trans h2⟩
set_option maxRecDepth 100000 in
set_option maxHeartbeats 1600000 in
theorem stays_any (B : Nat) (es : List Ent) (G1 o1 G2 o2 c1 c2 : Nat) (held : Int) (w : World) (hS : BS w B es (some ⟨G1, o1, none⟩) (some ⟨G2, o2, none⟩) c1 c2 held) (hn : es.length ≤ 4000) :
    Calls Try.prog 41 #[.pointer (some ⟨B, 0, none⟩)] w fun e w' => e = .returned (.bool true) ∧ BS w' B es (some ⟨G1, o1, none⟩) (some ⟨G2, o2, none⟩) c1 c2 held ∧ K5 w w' ∧ Below B w w' := by
  obtain ⟨n, hne⟩ : ∃ n, n = es.length := ⟨_, rfl⟩
  have hn' : n ≤ 4000 := by omega
  have HN : Hid (n = es.length) := hne
  clear hne hn
  go_enter Try.func41, Try.ntmps41
  go_wp2
  go_loopw [3] (fun i wr => ∃ k : Nat, k ≤ n ∧ i = .int .i64 k ∧ BS wr B es (some ⟨G1, o1, none⟩) (some ⟨G2, o2, none⟩) c1 c2 held ∧ K5 w wr ∧ Below B w wr) (fun i _ => n - (intOf i).toNat)
  case atStart => exact ⟨0, Nat.zero_le _, rfl, hS, K5.refl _, Below.refl _ _⟩
  case round =>
    obtain ⟨k, hk, rfl, hSr, hk5, hb⟩ := hrel
    have hR := hSr.1
    rw [← HN.out] at hR
    have q0 := hR.q0
    have q3 := hR.q3
    have HR : Hid (BS wr B es (some ⟨G1, o1, none⟩) (some ⟨G2, o2, none⟩) c1 c2 held ∧ BR wr B (es.map Ent.val) (es.map Ent.wal) n n (some ⟨G1, o1, none⟩) (some ⟨G2, o2, none⟩) c1 c2 held) := ⟨hSr, hR⟩
    by_cases hlt : k < n
    · obtain ⟨e0, he0⟩ : ∃ e0, es[k]? = some e0 := ⟨es[k]'(by rw [← HN.out]; exact hlt), List.getElem?_eq_getElem _⟩
      have hmem : e0 ∈ es := List.mem_of_getElem? he0
      have v1 : (es.map Ent.val)[k]? = some e0.val := by rw [List.getElem?_map, he0]; rfl
      have v2 : (es.map Ent.wal)[k]? = some e0.wal := by rw [List.getElem?_map, he0]; rfl
      have hE0 := hSr.2 e0 hmem
      have hLa : Hid (TmLies wr e0.a e0.zs) := hE0.1.lies
      have hLb : Hid (TmLies wr e0.wa e0.zs) := hE0.2.1.lies
      have hLm : e0.zs.length ≤ 9000000 := by have := hE0.2.2; omega
      have h5 := hR.fiveAt v1 v2
      have q1 := h5.2.2.1
      have p1 := h5.2.2.2.1
      have p2 := h5.2.2.2.2
      have f3 := hR.fz 3
      have HV : Hid ((es.map Ent.val)[k]? = some e0.val ∧ (es.map Ent.wal)[k]? = some e0.wal) := ⟨v1, v2⟩
      unfold Ent.val at p1
      unfold Ent.wal at p2
      have i1 : (0 : Int) ≤ (k : Int) := by omega
      have i2 : (k : Int) < (n : Int) := by omega
      clear hR hSr he0 hmem v1 v2 hE0 h5
      go_wp2
      go_region_held3 (fun w' => w'.cell? ⟨B, 3, none⟩ = some (.bool false) ∧ w'.cell? ⟨B, 0, none⟩ = some (.slice (some ⟨G1, o1, none⟩) n c1) ∧ w'.cell? ⟨B, 1, none⟩ = some (.slice (some ⟨G2, o2, none⟩) n c2) ∧ w'.cell? ⟨G1, o1 + k, none⟩ = some (.slice e0.a e0.zs.length e0.cap) ∧ w'.cell? ⟨G2, o2 + k, none⟩ = some (.slice e0.wa e0.zs.length e0.wc)) (first | go_keep | exact BR.fiveAt (BR.set3 (BR.drewN HR.out.2 _)) HV.out.1 HV.out.2)
          ((go_at_call 40; refine (same_eq _ _ _ _ e0.zs _ (lies_drew hLa.out 1) (lies_drew hLb.out 1) hLm).mono ?_; rintro e w' ⟨rfl, nq, rfl⟩))
      all_goals
        go_wp2
        go_roundw
        case rel => exact ⟨k + 1, by omega, by go_num, ⟨BR.set3 (BR.drewN HR.out.1.1 _), fun e he => (HR.out.1.2 e he).kept ((K5.drewN _ _).trans (K5.set (BR.drewN HR.out.2 _).blkB (by decide) _ _))⟩, hk5.trans ((K5.drewN _ _).trans (K5.set (BR.drewN HR.out.2 _).blkB (by decide) _ _)), hb.trans (Below.setCell (p := ⟨B, 3, none⟩) (below_drewN (Below.refl B wr) _) (Nat.le_refl _) _)⟩
        case measure => simp [intOf]; omega
    · go_wp2
      go_ret
      exact ⟨rfl, HR.out.1, hk5, hb⟩
def markN (i j : Int) : Int := (i * 65536 + j) % 4294967296
def markS : ByteArray := ⟨#[109, 97, 114, 107]⟩
def markO (i j : Int) : Obj := .cells #[.string markS, .int .u32 (markN i j)] 49
set_option maxHeartbeats 1000000 in
theorem mark_any (i j : Int) (w : World) (hi : 0 ≤ i ∧ i ≤ 4000) (hj : 0 ≤ j) :
    Calls Try.prog 27 #[.int .i64 i, .int .i64 j] w fun e w' => e = .returned (.agg #[.string markS, .int .u32 (markN i j)]) ∧ w' = w.alloc (markO i j) := by
  obtain ⟨hi0, hi1⟩ := hi
  go_enter Try.func27, Try.ntmps27
  go_wp2
  all_goals first | omega | skip
  obtain ⟨_, z0, z1, _, _⟩ := two_new w 49 (.string ⟨#[109, 97, 114, 107]⟩) (.int .u32 ((i * 65536 + j) % 4294967296))
  refine bodyPost_ret (by simp [results, Try.results27, go_sem, z0, z1]; try rfl) rfl ?_
  exact ⟨rfl, rfl⟩
end Go.Proofs.Ytebbbefknfldoaa.Bk

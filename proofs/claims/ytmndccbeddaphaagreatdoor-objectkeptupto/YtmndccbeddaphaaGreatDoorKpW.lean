/- ObjectKept's walk. -/
import Derived.Test.YtmndccbeddaphaaGreatDoorCu
import Derived.Test.YtmndccbeddaphaaGreatDoorSp
import Derived.Test.YtmndccbeddaphaaGreatDoorBackW
import Derived.Test.YtmndccbeddaphaaGreatDoorMb4
import Derived.Test.YtmndccbeddaphaaGreatDoorZDr
import Derived.Test.YtmndccbeddaphaaGreatDoorUOp
namespace Go.Proofs.YtmndccbeddaphaaGreatDoor
open Go.ChangeShapes Go.WideShapes Go.ChangeAt Go.RowKit Go.Sort
set_option linter.unusedVariables false
set_option linter.unusedSimpArgs false
set_option maxRecDepth 100000
theorem ItOwn.itSrc {lo : Nat} {w : World} {a : Option Addr} {n c : Nat} {p : List (Itm × Value)} (h : ItOwn lo w (.slice a n c) p) : ItSrc w a (p.map (·.1)) := by
  rcases h.row.2 with ⟨hv, h0⟩ | ⟨g, cap, cur, hv, _, hg, _⟩
  · exact .inl (by rw [List.length_eq_zero_iff.1 h0]; rfl)
  · injection hv with hv1 hv2 hv3
    subst hv1
    refine .inr ⟨g, 0, rfl, (Array.getElem?_eq_some_iff.1 hg).1, fun i x hx => ?_⟩
    rw [List.getElem?_map] at hx
    obtain ⟨q, hq, rfl⟩ := Option.map_eq_some_iff.1 hx
    have hlt := (List.getElem?_eq_some_iff.1 hq).1
    have ho := h.each q (List.mem_of_getElem? hq)
    obtain ⟨va, vc, hva⟩ := own_slice ho
    have hrow := h.row
    rw [hv2] at hrow
    have key : ∀ j, j < 10 → w.cell? ⟨g, 0 + i * 10 + j, none⟩ = (itmCells q.1 q.2).toList[j]? := fun j hj => by
      rw [Nat.zero_add, hrow.cellAt _ (by omega)]
      exact flat_at (fun q : Itm × Value => (itmCells q.1 q.2).toList) 10 (fun _ => rfl) p i j q hq hj
    rw [hva] at key ho
    exact ⟨va, vc, ⟨key 0 (by omega), key 1 (by omega), key 2 (by omega), key 3 (by omega), key 4 (by omega), key 5 (by omega), key 6 (by omega), key 7 (by omega), key 8 (by omega), key 9 (by omega)⟩, own_src ho⟩
theorem EqOw.eqSrc {lo : Nat} {w : World} {a : Option Addr} {n c : Nat} {p : List ((List UInt8 × Lin) × Value)} (h : EqOw lo w (.slice a n c) p) : EqSrc w a (p.map (·.1)) := by
  rcases h.row.2 with ⟨hv, h0⟩ | ⟨g, cap, cur, hv, _, hg, _⟩
  · exact .inl (by rw [List.length_eq_zero_iff.1 h0]; rfl)
  · injection hv with hv1 hv2 hv3
    subst hv1
    refine .inr ⟨g, 0, rfl, (Array.getElem?_eq_some_iff.1 hg).1, fun i x hx => ?_⟩
    rw [List.getElem?_map] at hx
    obtain ⟨q, hq, rfl⟩ := Option.map_eq_some_iff.1 hx
    have hlt := (List.getElem?_eq_some_iff.1 hq).1
    have ho := h.each q (List.mem_of_getElem? hq)
    obtain ⟨va, vc, hva⟩ := own_slice ho
    have hrow := h.row
    rw [hv2] at hrow
    have key : ∀ j, j < 3 → w.cell? ⟨g, 0 + i * 3 + j, none⟩ = (eqCells q.1 q.2).toList[j]? := fun j hj => by
      rw [Nat.zero_add, hrow.cellAt _ (by omega)]
      exact flat_at (fun q : Eqv × Value => (eqCells q.1 q.2).toList) 3 (fun _ => rfl) p i j q hq hj
    have k1 : w.cell? ⟨g, 0 + i * 3 + 1, none⟩ = some q.2 := key 1 (by omega)
    rw [hva] at k1 ho
    exact ⟨va, vc, (key 0 (by omega)).trans rfl, k1, (key 2 (by omega)).trans rfl, own_src ho⟩
structure UKp (lo : Nat) (w : World) (ta : Option Addr) (tc : Nat) (da : Option Addr) (dc : Nat) (ea : Option Addr) (ec : Nat) (ga : Option Addr) (gc : Nat) (U : UVal) (pt pd : List (Itm × Value)) (pe : List ((List UInt8 × Lin) × Value)) : Prop where
  text : ItOwn lo w (.slice ta U.text.length tc) pt
  data : ItOwn lo w (.slice da U.data.length dc) pd
  equs : EqOw lo w (.slice ea U.equs.length ec) pe
  globs : w.ownsRow lo 9 1 (.slice ga U.globs.length gc) U.globs.length (U.globs.map encStr)
  et : pt.map (·.1) = U.text
  ed : pd.map (·.1) = U.data
  ee : pe.map (·.1) = U.equs
theorem UKp.below {lo : Nat} {w w' : World} {ta : Option Addr} {tc : Nat} {da : Option Addr} {dc : Nat} {ea : Option Addr} {ec : Nat} {ga : Option Addr} {gc : Nat} {U : UVal} {pt pd : List (Itm × Value)} {pe : List ((List UInt8 × Lin) × Value)} (h : UKp lo w ta tc da dc ea ec ga gc U pt pd pe) (hb : Below w.heap.size w w') : UKp lo w' ta tc da dc ea ec ga gc U pt pd pe :=
  ⟨h.text.below hb, h.data.below hb, h.equs.below hb, own_keptB h.globs hb, h.et, h.ed, h.ee⟩
theorem UKp.inn {lo : Nat} {w : World} {ta : Option Addr} {tc : Nat} {da : Option Addr} {dc : Nat} {ea : Option Addr} {ec : Nat} {ga : Option Addr} {gc : Nat} {U : UVal} {pt pd : List (Itm × Value)} {pe : List ((List UInt8 × Lin) × Value)} (h : UKp lo w ta tc da dc ea ec ga gc U pt pd pe) : UnitIn w ta da ea ga U :=
  ⟨h.et ▸ h.text.itIn, h.ed ▸ h.data.itIn, h.ee ▸ h.equs.eqIn, own_stIn h.globs⟩
theorem UKp.src {lo : Nat} {w : World} {ta : Option Addr} {tc : Nat} {da : Option Addr} {dc : Nat} {ea : Option Addr} {ec : Nat} {ga : Option Addr} {gc : Nat} {U : UVal} {pt pd : List (Itm × Value)} {pe : List ((List UInt8 × Lin) × Value)} (h : UKp lo w ta tc da dc ea ec ga gc U pt pd pe) : UnitSrc w ta da ea ga gc U :=
  ⟨h.et ▸ h.text.itSrc, h.ed ▸ h.data.itSrc, h.ee ▸ h.equs.eqSrc, own_src h.globs⟩
theorem own_spx {lo hi k : Nat} {F : Nat → TypeId → Prop} {w w' : World} (hs : Spx lo hi F w w') (hk : hi ≤ k) {T : TypeId} {sz : Nat} {v : Value} {n : Nat} {xs : List Value} (h : w.ownsRow k T sz v n xs) : w'.ownsRow k T sz v n xs := by
  refine ⟨h.1, ?_⟩
  rcases h.2 with h | ⟨g, cap, cu, h1, hb, hh, hr⟩
  · exact .inl h
  · exact .inr ⟨g, cap, cu, h1, hb, (hs.out g (blk_lt hh) (.inr (by omega))).trans hh, hr⟩
theorem UKp.spx {lo hi k : Nat} {F : Nat → TypeId → Prop} {w w' : World} (hs : Spx lo hi F w w') (hk : hi ≤ k) {ta : Option Addr} {tc : Nat} {da : Option Addr} {dc : Nat} {ea : Option Addr} {ec : Nat} {ga : Option Addr} {gc : Nat} {U : UVal} {pt pd : List (Itm × Value)} {pe : List ((List UInt8 × Lin) × Value)} (h : UKp k w ta tc da dc ea ec ga gc U pt pd pe) : UKp k w' ta tc da dc ea ec ga gc U pt pd pe :=
  ⟨⟨own_spx hs hk h.text.row, fun q hq => own_spx hs hk (h.text.each q hq)⟩, ⟨own_spx hs hk h.data.row, fun q hq => own_spx hs hk (h.data.each q hq)⟩, ⟨own_spx hs hk h.equs.row, fun q hq => own_spx hs hk (h.equs.each q hq)⟩, own_spx hs hk h.globs, h.et, h.ed, h.ee⟩
theorem below_spx {lo hi : Nat} {F : Nat → TypeId → Prop} {w w' : World} (hs : Spx lo hi F w w') (hl : lo ≤ w.heap.size) : Below lo w w' := ⟨hs.os, hs.tape, hs.output, hs.size, fun k hk => hs.out k (by omega) (.inl hk)⟩
theorem copy_kept (ta : Option Addr) (tc : Nat) (da : Option Addr) (dc : Nat) (ea : Option Addr) (ec : Nat) (ga : Option Addr) (gc : Nat) (U : UVal) (hu : HeldU U) (w : World) (hS : UnitSrc w ta da ea ga gc U) :
    Calls Tryz.prog 21 #[.agg (unitV ta tc da dc ea ec ga gc U)] w fun e w' => Below w.heap.size w w' ∧ ∃ ta tc da dc ea ec ga gc pt pd pe, e = .returned (.agg (unitV ta tc da dc ea ec ga gc U)) ∧ UKp w.heap.size w' ta tc da dc ea ec ga gc U pt pd pe := by
  refine (copyUnit_any ta tc da dc ea ec ga gc U hu w hS).mono fun e w' ⟨hb, tv, dv, ev, gv, pt, pd, pe, he, hc⟩ => ?_
  have m1 : U.text.length = pt.length := by rw [← hc.et, List.length_map]
  have m2 : U.data.length = pd.length := by rw [← hc.ed, List.length_map]
  have m3 : U.equs.length = pe.length := by rw [← hc.ee, List.length_map]
  obtain ⟨a1, c1, rfl⟩ := own_slice hc.text.row
  obtain ⟨a2, c2, rfl⟩ := own_slice hc.data.row
  obtain ⟨a3, c3, rfl⟩ := own_slice hc.equs.row
  obtain ⟨a4, c4, rfl⟩ := own_slice hc.globs
  refine ⟨hb, a1, c1, a2, c2, a3, c3, a4, c4, pt, pd, pe, ?_, ⟨?_, ?_, ?_, hc.globs, hc.et, hc.ed, hc.ee⟩⟩
  · rw [he]
    unfold unitV
    rw [m1, m2, m3]
  · rw [m1]; exact hc.text
  · rw [m2]; exact hc.data
  · rw [m3]; exact hc.equs
theorem spoil_kept {lo hi : Nat} {w2 w : World} {ta : Option Addr} {tc : Nat} {da : Option Addr} {dc : Nat} {ea : Option Addr} {ec : Nat} {ga : Option Addr} {gc : Nat} {U : UVal} {pt pd : List (Itm × Value)} {pe : List ((List UInt8 × Lin) × Value)} (hu : HeldU U) (hne : ∀ g, ta = some ⟨g, 0, none⟩ → da ≠ some ⟨g, 0, none⟩) (h : UKp lo w2 ta tc da dc ea ec ga gc U pt pd pe) (hh : hi = w2.heap.size) (hb : Below w2.heap.size w2 w) :
    Calls Tryz.prog 23 #[.agg (unitV ta tc da dc ea ec ga gc U)] w fun e w' => e = .returned (.tuple #[]) ∧ Spx lo hi (fun _ _ => True) w w' := by
  have l1 : pt.length = U.text.length := by rw [← h.et, List.length_map]
  have l2 : pd.length = U.data.length := by rw [← h.ed, List.length_map]
  have l3 : pe.length = U.equs.length := by rw [← h.ee, List.length_map]
  have hs : Spx lo hi (fun _ _ => False) w2 w := spx_below hb
  refine spoil_any ta da ea ga _ tc _ dc _ ec _ gc lo hi w hu.text.1 hu.data.1 hu.equs.1 hu.globs ?_ ?_ ?_ ?_ hne (by rw [hh]; exact hb.size)
  · exact (srw_items h.text l1 (fun q hq => by have := (hu.text.2 q.1 (by rw [← h.et]; exact List.mem_map_of_mem hq)).few; omega) (by omega)).keep hs (fun _ _ x => x)
  · exact (srw_items h.data l2 (fun q hq => by have := (hu.data.2 q.1 (by rw [← h.ed]; exact List.mem_map_of_mem hq)).few; omega) (by omega)).keep hs (fun _ _ x => x)
  · exact (srw_equs h.equs l3 (fun q hq => by have := (hu.equs.2 q.1 (by rw [← h.ee]; exact List.mem_map_of_mem hq)).few; omega) (by omega)).keep hs (fun _ _ x => x)
  · exact (sgl_own h.globs (by omega)).keep hs
theorem keep_books2 {w0 w : World} {B m F F2 cap : Nat} {a0 : Option Addr} {L : List Int} (h : Bk.Books w0 w B m F) (hm : m ≤ 99) (hr : Bk.OwnT w F a0 cap L) (hL : L.length ≤ 1048576) (hF : F ≤ F2) (hF2 : F2 ≤ w.heap.size) (hg2 : ∀ g, a0 = some ⟨g, 0, none⟩ → g < F2) :
    Calls Tryz.prog 22 #[.pointer (some ⟨B, 0, none⟩), .slice a0 L.length cap] w fun e w' => e = .returned (.tuple #[]) ∧ Bk.Books w0 w' B (m + 1) F2 ∧ Bk.K5 w w' ∧ Below B w w' := by
  obtain ⟨h1, h2, h3, h4, es, a1, a2, c1, c2, held, e1, e2, e3, e5, e6⟩ := h
  have hcap : cap ≤ 9223372036854775807 := by
    rcases hr.2.2 with ⟨x, _⟩ | ⟨g, c, cur, x, _, _, _, hcm, _⟩
    · simp only [Value.slice.injEq] at x; omega
    · simp only [Value.slice.injEq, true_and] at x; unfold maxLen at hcm; omega
  have hgF : ∀ g, a0 = some ⟨g, 0, none⟩ → F ≤ g ∧ g < w.heap.size := fun g hg => by
    subst hg
    exact World.ownsRow.lt hr.2 g rfl
  refine (Bk.keep_any B cap a0 L es a1 a2 c1 c2 held w e3 (by omega) (hr.mono (by omega)) hL hcap).mono ?_
  rintro e w' ⟨rfl, wa, wc, j, b1, b2, d1, d2, hd, hj, hS, hk, hb⟩
  refine ⟨rfl, ⟨h1, h2.trans hb, Nat.le_trans hF2 hb.size, by omega, _, b1, b2, d1, d2, hd, ?_, fun _ => ?_, hS, ?_, fun e he g hg => ?_⟩, hk, hb⟩
  · simp
    omega
  · intro hnil
    have := congrArg List.length hnil
    simp at this
    omega
  · exact Bk.apart_drop (Bk.apart_snoc e5 e6 (fun g hg => (hgF g hg).1)) j
  · rcases List.mem_append.1 (List.mem_of_mem_drop he) with h | h
    · have := e6 e h g hg
      omega
    · simp at h
      subst h
      exact hg2 g hg
theorem write_own (ta : Option Addr) (tc : Nat) (da : Option Addr) (dc : Nat) (ea : Option Addr) (ec : Nat) (ga : Option Addr) (gc : Nat) (u : UVal) (hu : HeldU u) (hN : NumU u) (w : World) (hE : Env w) (hI : UnitIn w ta da ea ga u) : Calls Tryz.prog 9 #[.agg (unitV ta tc da dc ea ec ga gc u)] w fun e w' => Below w.heap.size w w' ∧ ∃ a n c zs, e = .returned (.tuple #[.slice a zs.length c, .int .i64 n]) ∧ Bk.OwnT w' w.heap.size a c zs ∧ zs.length ≤ 1048576 ∧ ((n == 0) = false ∧ n ≠ 0 ∧ zs = [] ∨ n = 0 ∧ WOk u ∧ zs = sUnit u) := by
  refine (write_two ta tc da dc ea ec ga gc u hu hN w hE hI).mono ?_
  rintro e w' ⟨hB, ⟨n, h1, h2, h3, h4⟩ | ⟨k1, k2, a, c, h4, h5⟩⟩
  · exact ⟨hB, none, n, 0, [], h4, ⟨fun z hz => (by cases hz), World.ownsRow_nil _ _ _ _⟩, Nat.zero_le _, .inl ⟨h2, h1, rfl⟩⟩
  · exact ⟨hB, a, 0, c, sUnit u, h4, ⟨sUnit_bytes k1, h5⟩, k2, .inr ⟨rfl, k1, rfl⟩⟩
theorem read_kept {u : UVal} (hu : WOk u) (hl : (sUnit u).length ≤ 1048576) (w : World) (hE : Env w) {lo : Nat} {a : Option Addr} {c : Nat} (hg : O.Got w lo a c (sUnit u)) : Calls Tryz.prog 10 #[.slice a (sUnit u).length c] w fun e w' => Below w.heap.size w w' ∧ ∃ ta tc da dc ea ec ga gc pt pd pe, e = .returned (.tuple #[.agg (unitV ta tc da dc ea ec ga gc u), .nilIface]) ∧ UKp w.heap.size w' ta tc da dc ea ec ga gc u pt pd pe ∧ ∀ g, ta = some ⟨g, 0, none⟩ → da ≠ some ⟨g, 0, none⟩ := by
  obtain ⟨l1, l2, l3⟩ := got_lies hg (sUnit_bytes hu)
  obtain ⟨f1, f2⟩ := unit_fwd hu []
  rw [List.append_nil] at f1 f2
  rw [if_pos rfl] at f2
  refine (read_is l1 l2 hl l3 hE.tab).mono ?_
  rintro e w' ⟨hB, ⟨f, q, h1, h2, h3⟩ | ⟨h1, vt, vd, ve, vg, LT, LD, LE, LG, h2, h3, m1, m2, m3, m4⟩⟩
  · rw [h1] at f2
    cases f2
  · rw [f1] at m1 m2 m3 m4
    obtain ⟨ta, tc, rfl⟩ := own_slice h3.t.row
    obtain ⟨da, dc, rfl⟩ := own_slice h3.d.row
    obtain ⟨ea, ec, rfl⟩ := own_slice h3.e.row
    obtain ⟨ga, gc, rfl⟩ := own_slice h3.g
    subst m4
    have n1 : LT.length = u.text.length := by rw [← m1, List.length_map]
    have n2 : LD.length = u.data.length := by rw [← m2, List.length_map]
    have n3 : LE.length = u.equs.length := by rw [← m3, List.length_map]
    refine ⟨hB, ta, tc, da, dc, ea, ec, ga, gc, LT, LD, LE, ?_, ⟨?_, ?_, ?_, h3.g, m1, m2, m3⟩, ?_⟩
    · rw [h2, n1, n2, n3]
    · rw [← n1]; exact h3.t
    · rw [← n2]; exact h3.d
    · rw [← n3]; exact h3.e
    · rintro g rfl hd
      exact h3.td g rfl (by rw [hd]; rfl)
theorem names_held {u : UVal} (hu : HeldU u) : ∀ s ∈ u.names, s.length ≤ 1100000 := by
  intro s hs
  unfold UVal.names labN at hs
  rcases List.mem_append.1 hs with hs | hs
  · rcases List.mem_append.1 hs with hs | hs
    · obtain ⟨x, hx, rfl⟩ := List.mem_map.1 hs
      exact (hu.text.2 x (List.mem_filter.1 hx |>.1)).name
    · obtain ⟨x, hx, rfl⟩ := List.mem_map.1 hs
      exact (hu.data.2 x (List.mem_filter.1 hx |>.1)).name
  · obtain ⟨x, hx, rfl⟩ := List.mem_map.1 hs
    exact (hu.equs.2 x hx).name
theorem UIn.src {W : World} {v : Value} {B : Nat} {ta da ea ga : Option Addr} {tc dc ec gc : Nat} {u : UVal} (h : UIn W v B ta da ea ga tc dc ec gc u) : UnitSrc W ta da ea ga gc u := by
  refine ⟨h.srcT, h.srcD, h.srcE, ?_⟩
  rcases h.lies.globs with h0 | ⟨g, o, rfl, hg, h1⟩
  · rw [h0]
    cases ga with
    | none => exact .inl ⟨by rw [h.nilG rfl]; rfl, rfl, rfl⟩
    | some y => exact .inr ⟨y, gc, rfl, fun j x hj => (by simp at hj)⟩
  · refine .inr ⟨_, gc, rfl, fun j x hj => ?_⟩
    rw [List.getElem?_map] at hj
    obtain ⟨s, hs, rfl⟩ := Option.map_eq_some_iff.1 hj
    rw [add_none]
    exact h1 j s hs
end Go.Proofs.YtmndccbeddaphaaGreatDoor
namespace Go.Proofs.YtmndccbeddaphaaGreatDoor
open Go.ChangeShapes Go.WideShapes Go.ChangeAt Go.RowKit Go.Sort
set_option linter.unusedVariables false
set_option linter.unusedSimpArgs false
set_option maxRecDepth 100000
set_option maxHeartbeats 16000000 in
theorem keptW (ta : Option Addr) (tc : Nat) (da : Option Addr) (dc : Nat) (ea : Option Addr) (ec : Nat) (ga : Option Addr) (gc : Nat) (u : UVal) (hu : HeldU u) (hN : NumU u) (w : World) (hE : Env w) (hI : UnitIn w ta da ea ga u) (hS : UnitSrc w ta da ea ga gc u) : Calls Tryz.prog 8 #[.agg (unitV ta tc da dc ea ec ga gc u)] w fun e w' => e = .returned (.bool true) ∧ Below w.heap.size w w' := by
  have e1 := heap_alloc_new w (.cells (unitV ta tc da dc ea ec ga gc u) 30)
  have b1 := Hid.intro (below_alloc w (.cells (unitV ta tc da dc ea ec ga gc u) 30))
  replace hE := Hid.intro hE
  replace hI := Hid.intro hI
  replace hS := Hid.intro hS
  have hu2 := Hid.intro hu
  have hN2 := Hid.intro hN
  clear hu hN
  obtain ⟨x0, x1, x2, x3⟩ := four_read e1
  have e1h := Hid.intro e1
  have h13a : Hid (Calls Tryz.prog 13 #[.slice (some ⟨w.heap.size + 1, 0, none⟩) 1 1] ((w.alloc (.cells (unitV ta tc da dc ea ec ga gc u) 30)).alloc (.cells (unitV ta tc da dc ea ec ga gc u) 30)) fun r w' => BoolOut r ∧ Below ((w.alloc (.cells (unitV ta tc da dc ea ec ga gc u) 30)).alloc (.cells (unitV ta tc da dc ea ec ga gc u) 30)).heap.size ((w.alloc (.cells (unitV ta tc da dc ea ec ga gc u) 30)).alloc (.cells (unitV ta tc da dc ea ec ga gc u) 30)) w') := large_is (w.heap.size + 1) 1 (by decide) _ (usAt_blk ta tc da dc ea ec ga gc u hu2.out (by have := heap_alloc_new (w.alloc (.cells (unitV ta tc da dc ea ec ga gc u) 30)) (.cells (unitV ta tc da dc ea ec ga gc u) 30); rw [World.size_alloc] at this; exact this))
  have h12 : Hid (∀ w1, Below w.heap.size w w1 → Calls Tryz.prog 12 #[] w1 fun e w' => e = .returned (.bool true) ∧ Below w.heap.size w w') := fun w1 h1 => (known_is w1 (hE.out.below h1)).mono (fun e w2 h => ⟨h.1, bchn h1 h.2⟩)
  go_enter Tryz.func8, Tryz.ntmps8
  go_upto_region 3 with (first
    | (go_at_call 13; (with_reducible refine (h13a.out).mono ?_); rintro e w3 ⟨⟨bv, rfl⟩, b3⟩; have b3' := Hid.intro (bchn b1.out (bchn (below_alloc (w.alloc (.cells (unitV ta tc da dc ea ec ga gc u) 30)) (.cells (unitV ta tc da dc ea ec ga gc u) 30)) b3)); have hu3 := Hid.intro (keepB2 e1h.out (bchn (below_alloc (w.alloc (.cells (unitV ta tc da dc ea ec ga gc u) 30)) (.cells (unitV ta tc da dc ea ec ga gc u) 30)) b3)); clear b3; cases bv <;> clear h13a)
    | (go_at_call 12; (with_reducible refine (h12.out _ b3'.out).mono ?_); rintro e w4 ⟨rfl, b4⟩; replace b4 := Hid.intro b4))
  all_goals first | omega | skip
  rotate_left
  · go_ret
    exact ⟨rfl, b4.out⟩
  · clear x0 x1 x2 x3 e1 e1h
    obtain ⟨x0, x1, x2, x3⟩ := four_read hu3.out
    have hcp := Hid.intro (copy_kept ta tc da dc ea ec ga gc u hu2.out w3 (hS.out.below b3'.out))
    go_upto_region 4 with (go_at_call 21; (with_reducible refine (hcp.out).mono ?_); rintro e w4 ⟨hb4, ta4, tc4, da4, dc4, ea4, ec4, ga4, gc4, pt4, pd4, pe4, rfl, hK4⟩; replace hK4 := Hid.intro hK4; replace hb4 := Hid.intro hb4)
    all_goals first | omega | skip
    have hB34 : Hid (Below w3.heap.size w3 (w4.alloc (.cells #[.slice ta4 u.text.length tc4, .slice da4 u.data.length dc4, .slice ea4 u.equs.length ec4, .slice ga4 u.globs.length gc4] 30))) := hb4.out.alloc hb4.out.size _
    have hx4 : Hid ((w4.alloc (.cells #[.slice ta4 u.text.length tc4, .slice da4 u.data.length dc4, .slice ea4 u.equs.length ec4, .slice ga4 u.globs.length gc4] 30)).heap[w4.heap.size]? = some (.cells #[.slice ta4 u.text.length tc4, .slice da4 u.data.length dc4, .slice ea4 u.equs.length ec4, .slice ga4 u.globs.length gc4] 30 (0, 0))) := heap_alloc_new w4 _
    have hU4 : Hid (UnitIn (w4.alloc (.cells #[.slice ta4 u.text.length tc4, .slice da4 u.data.length dc4, .slice ea4 u.equs.length ec4, .slice ga4 u.globs.length gc4] 30)) ta4 da4 ea4 ga4 u) := hK4.out.inn.below (below_alloc w4 _)
    clear hb4 hK4 hcp x0 x1 x2 x3
    generalize w4.alloc (.cells #[.slice ta4 u.text.length tc4, .slice da4 u.data.length dc4, .slice ea4 u.equs.length ec4, .slice ga4 u.globs.length gc4] 30) = W4 at *
    generalize w4.heap.size = g4 at *
    have hBw4 : Hid (Below w.heap.size w W4) := bchn b3'.out hB34.out
    have hu4 := Hid.intro (keepB2 hu3.out hB34.out)
    have hI4 := Hid.intro (hI.out.below hBw4.out)
    have hBk := Hid.intro (Bk.Books.start W4)
    have hB45 := Hid.intro (below_alloc W4 (.cells #[.slice none 0 0, .slice none 0 0, .int .i64 0, .bool false] 57))
    clear hB34 hu3 b3' hI hS
    go_upto_region 5 with fail
    all_goals first | omega | skip
    replace hBk := Hid.intro hBk.out.grow
    generalize W4.alloc (.cells #[.slice none 0 0, .slice none 0 0, .int .i64 0, .bool false] 57) = W5 at *
    have hcel : Hid (∀ W, Below W4.heap.size W4 W → (W.cell? ⟨w.heap.size, 0, none⟩ = some (.slice ta u.text.length tc) ∧ W.cell? ⟨w.heap.size, 1, none⟩ = some (.slice da u.data.length dc) ∧ W.cell? ⟨w.heap.size, 2, none⟩ = some (.slice ea u.equs.length ec) ∧ W.cell? ⟨w.heap.size, 3, none⟩ = some (.slice ga u.globs.length gc)) ∧ W.cell? ⟨g4, 0, none⟩ = some (.slice ta4 u.text.length tc4) ∧ W.cell? ⟨g4, 1, none⟩ = some (.slice da4 u.data.length dc4) ∧ W.cell? ⟨g4, 2, none⟩ = some (.slice ea4 u.equs.length ec4) ∧ W.cell? ⟨g4, 3, none⟩ = some (.slice ga4 u.globs.length gc4)) := fun W hb => ⟨four_read (keepB2 hu4.out hb), four_read (keepB2 hx4.out hb)⟩
    have h9 : Hid (∀ W, Below W4.heap.size W4 W → Calls Tryz.prog 9 #[.agg (unitV ta tc da dc ea ec ga gc u)] W fun e w' => Below W.heap.size W w' ∧ ∃ a n c zs l, e = .returned (.tuple #[.slice a l c, .int .i64 n]) ∧ Hid (l = zs.length) ∧ Bk.OwnT w' W.heap.size a c zs ∧ zs.length ≤ 1048576 ∧ ((n == 0) = false ∧ n ≠ 0 ∧ zs = [] ∨ n = 0 ∧ WOk u ∧ zs = sUnit u)) := fun W hb => (write_own ta tc da dc ea ec ga gc u hu2.out hN2.out W (hE.out.below (bchn hBw4.out hb)) (hI4.out.below hb)).mono (fun e w' ⟨h1, a, n, c, zs, h2, h3⟩ => ⟨h1, a, n, c, zs, _, h2, rfl, h3⟩)
    have h18 : Hid (∀ W, Below W4.heap.size W4 W → Calls Tryz.prog 18 #[.agg (unitV ta tc da dc ea ec ga gc u), .agg (unitV ta4 tc4 da4 dc4 ea4 ec4 ga4 gc4 u)] W fun e w' => e = .returned (.bool true) ∧ Below W.heap.size W w') := fun W hb => by
      have := sameUnit_is ta da ea ga ta4 da4 ea4 ga4 tc dc ec gc tc4 dc4 ec4 gc4 u u hu2.out hu2.out W (hI4.out.below hb) (hU4.out.below hb)
      rw [sqB_pos rfl] at this
      exact this
    obtain ⟨⟨x0, x1, x2, x3⟩, y0, y1, y2, y3⟩ := hcel.out W5 hB45.out
    go_upto_region 6 with (go_at_call 9; (with_reducible refine (h9.out _ hB45.out).mono ?_); rintro e w6 ⟨b6, a6, n6, c6, zs6, l6, rfl, hz6, hO6, hl6, hw6⟩; replace b6 := Hid.intro b6; replace hO6 := Hid.intro hO6; replace hl6 := Hid.intro hl6; replace hw6 := Hid.intro hw6)
    all_goals first | omega | skip
    have hB46 := Hid.intro (bchn hB45.out b6.out)
    clear x0 x1 x2 x3 y0 y1 y2 y3
    obtain ⟨⟨x0, x1, x2, x3⟩, y0, y1, y2, y3⟩ := hcel.out w6 hB46.out
    go_upto_region 7 with (go_at_call 9; (with_reducible refine (h9.out _ hB46.out).mono ?_); rintro e w7 ⟨b7, a7, n7, c7, zs7, l7, rfl, hz7, hO7, hl7, hw7⟩; replace b7 := Hid.intro b7; replace hO7 := Hid.intro hO7; replace hl7 := Hid.intro hl7; clear hw7)
    all_goals first | omega | skip
    clear x0 x1 x2 x3 y0 y1 y2 y3
    have hB57 := Hid.intro (bchn b6.out b7.out)
    have hk1 : Hid (Calls Tryz.prog 22 #[.pointer (some ⟨W4.heap.size, 0, none⟩), .slice a6 l6 c6] w7 fun e w' => e = .returned (.tuple #[]) ∧ Bk.Books W4 w' W4.heap.size 1 w6.heap.size ∧ Bk.K5 w7 w' ∧ Below W4.heap.size w7 w') := by
      rw [hz6.out]
      exact keep_books2 (hBk.out.more hB57.out) (by omega) (hO6.out.kept (fun k cur hk => b7.out.block k (blk_lt hk))) hl6.out b6.out.size b7.out.size (fun g hg => by subst hg; exact (World.ownsRow.lt hO6.out.2 g rfl).2)
    go_upto_region 8 with (go_at_call 22; (with_reducible refine (hk1.out).mono ?_); rintro e w8 ⟨rfl, hBk8, hk8, hb8⟩; replace hBk8 := Hid.intro hBk8; replace hk8 := Hid.intro hk8; replace hb8 := Hid.intro hb8)
    all_goals first | omega | skip
    have hk2 : Hid (Calls Tryz.prog 22 #[.pointer (some ⟨W4.heap.size, 0, none⟩), .slice a7 l7 c7] w8 fun e w' => e = .returned (.tuple #[]) ∧ Bk.Books W4 w' W4.heap.size 2 w8.heap.size ∧ Bk.K5 w8 w' ∧ Below W4.heap.size w8 w') := by
      rw [hz7.out]
      have ho := hO7.out.kept hk8.out
      exact keep_books2 hBk8.out (by omega) ho hl7.out (Nat.le_trans b7.out.size hb8.out.size) (Nat.le_refl _) (fun g hg => by subst hg; exact (World.ownsRow.lt ho.2 g rfl).2)
    clear hk1
    go_upto_region 9 with (go_at_call 22; (with_reducible refine (hk2.out).mono ?_); rintro e w9 ⟨rfl, hBk9, hk9, hb9⟩; replace hBk9 := Hid.intro hBk9.grow; replace hk9 := Hid.intro hk9; replace hb9 := Hid.intro hb9)
    all_goals first | omega | skip
    have hO9 : Hid (Bk.OwnT w9 W5.heap.size a6 c6 zs6) := ((hO6.out.kept (fun k cur hk => b7.out.block k (blk_lt hk))).kept hk8.out).kept hk9.out
    have hB49 : Hid (Below W4.heap.size W4 w9) := hBk9.out.2.1
    clear hk2 hO6 hO7 hk8 hk9 hb8 hb9 hBk8 hBk b6 b7 hB45 hB46 hB57 h9 hz7 hl7
    rcases hw6.out with ⟨p1, p2, p3⟩ | ⟨p1, p2, p3⟩
    · have hl0 : l6 = 0 := by rw [hz6.out, p3]; rfl
      subst hl0
      clear p3 hw6 hz6 hl6 hO9
      obtain ⟨⟨x0, x1, x2, x3⟩, y0, y1, y2, y3⟩ := hcel.out w9 hB49.out
      go_wp2_with (first
        | (go_at_call 18; (with_reducible refine (h18.out _ hB49.out).mono ?_); rintro e w10 ⟨rfl, b10⟩; have hB10 := Hid.intro (bchn hBw4.out (bchn hB49.out b10)); clear b10 x0 x1 x2 x3 y0 y1 y2 y3)
        | (go_at_call 12; (with_reducible refine (h12.out _ hB10.out).mono ?_); rintro e w11 ⟨rfl, b11⟩; replace b11 := Hid.intro b11))
      all_goals first | omega | skip
      go_ret
      exact ⟨rfl, b11.out⟩
    · subst p1
      have hrd : Hid (∀ W, Below w9.heap.size w9 W → Calls Tryz.prog 10 #[.slice a6 l6 c6] W fun e w' => Below W.heap.size W w' ∧ ∃ ta tc da dc ea ec ga gc pt pd pe, e = .returned (.tuple #[.agg (unitV ta tc da dc ea ec ga gc u), .nilIface]) ∧ UKp W.heap.size w' ta tc da dc ea ec ga gc u pt pd pe ∧ ∀ g, ta = some ⟨g, 0, none⟩ → da ≠ some ⟨g, 0, none⟩) := fun W hb => by
        have hl := hl6.out
        have hO := hO9.out.kept (fun k cur hk => hb.block k (blk_lt hk))
        rw [hz6.out, p3]
        rw [p3] at hl hO
        exact read_kept p2 hl W (hE.out.below (bchn hBw4.out (bchn hB49.out hb))) hO.2
      have hrt : Hid (∀ W, Below W4.heap.size W4 W → Calls Tryz.prog 24 #[.agg (unitV ta tc da dc ea ec ga gc u)] W fun e w' => e = .returned (.int .i64 0) ∧ Below W.heap.size W w') := fun W hb => (dright_any ta tc da dc ea ec ga gc u hu2.out (names_held hu2.out) W (hI4.out.below hb)).mono (fun e w' ⟨⟨n, h1, h2⟩, h3⟩ => by rw [rightN_one h2 p2.rightN] at h1; exact ⟨h1, h3⟩)
      clear p2 p3 hw6 hz6 hl6 hO9
      go_upto_region 12 with (go_at_call 10; (with_reducible refine (hrd.out _ (Below.refl _ _)).mono ?_); rintro e w10 ⟨b10, ta5, tc5, da5, dc5, ea5, ec5, ga5, gc5, pt5, pd5, pe5, rfl, hK5, hn5⟩; replace b10 := Hid.intro b10; replace hK5 := Hid.intro hK5; replace hn5 := Hid.intro hn5)
      all_goals first | omega | skip
      have hB910 : Hid (Below w9.heap.size w9 (w10.alloc (.cells #[.slice ta5 u.text.length tc5, .slice da5 u.data.length dc5, .slice ea5 u.equs.length ec5, .slice ga5 u.globs.length gc5] 30))) := b10.out.alloc b10.out.size _
      have hx5 : Hid ((w10.alloc (.cells #[.slice ta5 u.text.length tc5, .slice da5 u.data.length dc5, .slice ea5 u.equs.length ec5, .slice ga5 u.globs.length gc5] 30)).heap[w10.heap.size]? = some (.cells #[.slice ta5 u.text.length tc5, .slice da5 u.data.length dc5, .slice ea5 u.equs.length ec5, .slice ga5 u.globs.length gc5] 30 (0, 0))) := heap_alloc_new w10 _
      have hB10 : Hid (Below w10.heap.size w10 (w10.alloc (.cells #[.slice ta5 u.text.length tc5, .slice da5 u.data.length dc5, .slice ea5 u.equs.length ec5, .slice ga5 u.globs.length gc5] 30))) := below_alloc w10 _
      have hsz : Hid ((w10.alloc (.cells #[.slice ta5 u.text.length tc5, .slice da5 u.data.length dc5, .slice ea5 u.equs.length ec5, .slice ga5 u.globs.length gc5] 30)).heap.size = w10.heap.size + 1) := World.size_alloc _ _
      have hSp : Hid (∀ W, Below w10.heap.size w10 W → Calls Tryz.prog 23 #[.agg (unitV ta5 tc5 da5 dc5 ea5 ec5 ga5 gc5 u)] W fun e w' => e = .returned (.tuple #[]) ∧ Spx w9.heap.size w10.heap.size (fun _ _ => True) W w') := fun W hb => spoil_kept hu2.out hn5.out hK5.out rfl hb
      clear hK5 hn5
      generalize w10.alloc (.cells #[.slice ta5 u.text.length tc5, .slice da5 u.data.length dc5, .slice ea5 u.equs.length ec5, .slice ga5 u.globs.length gc5] 30) = W10 at *
      go_upto_region 13 with (go_at_call 10; (with_reducible refine (hrd.out _ hB910.out).mono ?_); rintro e w11 ⟨b11, ta6, tc6, da6, dc6, ea6, ec6, ga6, gc6, pt6, pd6, pe6, rfl, hK6, hn6⟩; replace b11 := Hid.intro b11; replace hK6 := Hid.intro hK6; clear hn6)
      all_goals first | omega | skip
      have hB1011 : Hid (Below W10.heap.size W10 (w11.alloc (.cells #[.slice ta6 u.text.length tc6, .slice da6 u.data.length dc6, .slice ea6 u.equs.length ec6, .slice ga6 u.globs.length gc6] 30))) := b11.out.alloc b11.out.size _
      have hx6 : Hid ((w11.alloc (.cells #[.slice ta6 u.text.length tc6, .slice da6 u.data.length dc6, .slice ea6 u.equs.length ec6, .slice ga6 u.globs.length gc6] 30)).heap[w11.heap.size]? = some (.cells #[.slice ta6 u.text.length tc6, .slice da6 u.data.length dc6, .slice ea6 u.equs.length ec6, .slice ga6 u.globs.length gc6] 30 (0, 0))) := heap_alloc_new w11 _
      have hK66 : Hid (UKp W10.heap.size (w11.alloc (.cells #[.slice ta6 u.text.length tc6, .slice da6 u.data.length dc6, .slice ea6 u.equs.length ec6, .slice ga6 u.globs.length gc6] 30)) ta6 tc6 da6 dc6 ea6 ec6 ga6 gc6 u pt6 pd6 pe6) := hK6.out.below (below_alloc w11 _)
      have hg6 : Hid (w10.heap.size ≤ w11.heap.size) := by have h1 := b11.out.size; have h2 := hsz.out; show _ ≤ _; omega
      clear hK6 b11
      generalize w11.alloc (.cells #[.slice ta6 u.text.length tc6, .slice da6 u.data.length dc6, .slice ea6 u.equs.length ec6, .slice ga6 u.globs.length gc6] 30) = W11 at *
      generalize w11.heap.size = g11 at *
      obtain ⟨x0, x1, x2, x3⟩ := four_read (keepB2 hx5.out hB1011.out)
      have hB1111 := Hid.intro (bchn hB10.out (hB1011.out))
      go_upto_region 14 with (go_at_call 23; (with_reducible refine (hSp.out _ hB1111.out).mono ?_); rintro e w12 ⟨rfl, hs⟩; replace hs := Hid.intro hs)
      all_goals first | omega | skip
      clear x0 x1 x2 x3
      have hB911 := Hid.intro (bchn hB910.out hB1011.out)
      have hB912 : Hid (Below w9.heap.size w9 w12) := hB911.out.trans (below_spx hs.out hB911.out.size)
      have hx12 : Hid (w12.heap[g11]? = some (.cells #[.slice ta6 u.text.length tc6, .slice da6 u.data.length dc6, .slice ea6 u.equs.length ec6, .slice ga6 u.globs.length gc6] 30 (0, 0))) := (hs.out.out g11 (blk_lt hx6.out) (.inr hg6.out)).trans hx6.out
      have hI12 : Hid (UnitIn w12 ta6 da6 ea6 ga6 u) := (UKp.spx hs.out (by have := hsz.out; omega) hK66.out).inn
      have hB412 : Hid (Below W4.heap.size W4 w12) := hB49.out.trans (hB912.out.mono hB49.out.size)
      have h18v := Hid.intro (sameUnit_is ta6 da6 ea6 ga6 ta4 da4 ea4 ga4 tc6 dc6 ec6 gc6 tc4 dc4 ec4 gc4 u u hu2.out hu2.out w12 hI12.out (hU4.out.below hB412.out))
      rw [sqB_pos rfl] at h18v
      have hap : Hid (∀ W, Below w9.heap.size w9 W → Calls Tryz.prog 25 #[.pointer (some ⟨W4.heap.size, 0, none⟩), .func (.func 26) #[] #[]] W fun e w' => e = .returned (.bool true) ∧ Below W4.heap.size W4 w') := fun W hb => Bk.apart_books (hBk9.out.more hb) (by omega) (by omega)
      clear hs hx6 hg6 hK66 hB1011 hB910 hx5 hB10 hSp hB911 hB1111 hrd hsz
      obtain ⟨⟨x0, x1, x2, x3⟩, y0, y1, y2, y3⟩ := hcel.out w12 hB412.out
      obtain ⟨z0, z1, z2, z3⟩ := four_read hx12.out
      go_wp2_with (first
        | (go_at_call 18; (with_reducible refine (h18v.out).mono ?_); rintro e w13 ⟨rfl, b13⟩; have hB413 := Hid.intro (bchn hB412.out b13); have hB913 := Hid.intro (bchn hB912.out b13); clear b13 x0 x1 x2 x3 y0 y1 y2 y3 z0 z1 z2 z3 h18v; obtain ⟨⟨x0, x1, x2, x3⟩, y0, y1, y2, y3⟩ := hcel.out w13 hB413.out)
        | (go_at_call 18; (with_reducible refine (h18.out _ hB413.out).mono ?_); rintro e w14 ⟨rfl, b14⟩; have hB414 := Hid.intro (bchn hB413.out b14); have hB914 := Hid.intro (bchn hB913.out b14); clear b14 x0 x1 x2 x3 y0 y1 y2 y3; obtain ⟨⟨x0, x1, x2, x3⟩, y0, y1, y2, y3⟩ := hcel.out w14 hB414.out)
        | (go_at_call 24; (with_reducible refine (hrt.out _ hB414.out).mono ?_); rintro e w15 ⟨rfl, b15⟩; have hB915 := Hid.intro (bchn hB914.out b15); clear b15)
        | (go_at_call 25; (with_reducible refine (hap.out _ hB915.out).mono ?_); rintro e w16 ⟨rfl, b16⟩; have hB16 := Hid.intro (bchn hBw4.out b16))
        | (go_at_call 12; (with_reducible refine (h12.out _ hB16.out).mono ?_); rintro e w17 ⟨rfl, b17⟩; replace b17 := Hid.intro b17))
      all_goals first | omega | skip
      go_ret
      exact ⟨rfl, b17.out⟩
end Go.Proofs.YtmndccbeddaphaaGreatDoor

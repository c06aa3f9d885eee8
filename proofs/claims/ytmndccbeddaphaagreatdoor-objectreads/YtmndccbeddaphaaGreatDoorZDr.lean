/- Dr: what the document's Right wants besides. -/
import Derived.Test.YtmndccbeddaphaaGreatDoorZDs
import Derived.Test.YtmndccbeddaphaaGreatDoorMb4
namespace Go.Proofs.YtmndccbeddaphaaGreatDoor
open Go.ChangeShapes Go.WideShapes Go.ChangeAt Go.RowKit Go.Sort
set_option linter.unusedVariables false
set_option maxRecDepth 100000
theorem sortS_mem (ss : List (List UInt8)) (s : List UInt8) : s ∈ sortS ss ↔ s ∈ ss := List.mem_mergeSort
theorem right_no {u : UVal} (h8 : ¬ (8192 < u.text.length + u.data.length ∨ 8192 < u.equs.length)) (h : ¬ RightU u) : RightN u 31 := .inr ⟨h8, .inr ⟨h, rfl⟩⟩
theorem right_yes {u : UVal} (h8 : ¬ (8192 < u.text.length + u.data.length ∨ 8192 < u.equs.length)) (h : RightU u) : RightN u 0 := .inr ⟨h8, .inl ⟨h, rfl⟩⟩
theorem docItem (x : Itm) (hh : HeldI x) (sec : Int) (hsec : sec = 0 ∨ sec = 1) (va : Option Addr) (vc ln : Nat) (hln : ln = x.e.terms.length) (w : World) (hTm : TmLies w va x.e.terms) :
    Calls Tryz.prog 52 #[.agg #[.int .i64 x.kind, .string (str x.name), .int .i64 x.op, .int .i64 x.a, .int .i64 x.b, .int .i32 x.m, .int .i64 x.form, .slice va ln vc, .int .u32 x.e.const, .int .i64 x.n], .int .i64 sec] w fun e w' => e = .returned (.int .i64 (if okI x sec then 0 else 31)) ∧ Below w.heap.size w w' := by
  subst hln
  have h := docRight_any x.kind (str x.name) (by rw [show (str x.name).size = x.name.length from rfl]; exact hh.name) x.op x.a x.b x.m x.form hh.m va vc x.e.terms x.e.const x.n sec w hTm hh.few hh.names
  rw [show rightN sec (okB x.kind (str x.name) x.op x.a x.b x.m x.form x.e.terms x.e.const x.n sec) = if okI x sec then 0 else 31 by unfold rightN; rw [if_neg (by omega)]; rfl] at h
  exact h
theorem all_take {α : Type} {l : List α} {p : α → Bool} {i : Nat} {x : α} (h : (l.take i).all p = true) (hx : l[i]? = some x) (hp : p x = true) : (l.take (i + 1)).all p = true := by
  rw [List.take_add_one, hx]
  simp [hp]
  simpa using h
theorem all_no {α : Type} {l : List α} {p : α → Bool} {i : Nat} {x : α} (hx : l[i]? = some x) (hp : p x = false) : ¬ l.all p = true := fun h => by
  have := List.all_eq_true.1 h x (List.mem_of_getElem? hx)
  rw [hp] at this
  cases this
set_option maxHeartbeats 16000000 in
theorem dright_any (ta : Option Addr) (tc : Nat) (da : Option Addr) (dc : Nat) (ea : Option Addr) (ec : Nat) (ga : Option Addr) (gc : Nat) (u : UVal) (hu : HeldU u) (hs : ∀ s ∈ u.names, s.length ≤ 1100000) (w : World) (hI : UnitIn w ta da ea ga u) :
    Calls Tryz.prog 24 #[.agg (unitV ta tc da dc ea ec ga gc u)] w fun e w' => (∃ n : Int, e = .returned (.int .i64 n) ∧ RightN u n) ∧ Below w.heap.size w w' := by
  have hB0 : Below w.heap.size w (w.alloc (.cells (unitV ta tc da dc ea ec ga gc u) 30)) := below_alloc w _
  have hx := heap_alloc_new w (.cells (unitV ta tc da dc ea ec ga gc u) 30)
  have hI0 := hI.below hB0
  generalize hW0 : w.alloc (.cells (unitV ta tc da dc ea ec ga gc u) 30) = W0 at *
  have hK : Hid (∀ W, Below W0.heap.size W0 W → W.cell? ⟨w.heap.size, 0, none⟩ = some (.slice ta u.text.length tc) ∧ W.cell? ⟨w.heap.size, 1, none⟩ = some (.slice da u.data.length dc) ∧ W.cell? ⟨w.heap.size, 2, none⟩ = some (.slice ea u.equs.length ec) ∧ W.cell? ⟨w.heap.size, 3, none⟩ = some (.slice ga u.globs.length gc)) := fun W hb => four_read ((hb.block _ (blk_lt hx)).trans hx)
  have hBH := Hid.intro hB0
  obtain ⟨c0, c1, c2, c3⟩ := hK.out W0 (Below.refl _ _)
  obtain ⟨n1, hn1⟩ : ∃ n1, n1 = u.text.length := ⟨_, rfl⟩
  obtain ⟨n2, hn2⟩ : ∃ n2, n2 = u.data.length := ⟨_, rfl⟩
  obtain ⟨n3, hn3⟩ : ∃ n3, n3 = u.equs.length := ⟨_, rfl⟩
  obtain ⟨n4, hn4⟩ : ∃ n4, n4 = u.globs.length := ⟨_, rfl⟩
  have l1 : n1 ≤ 1100000 := by rw [hn1]; exact hu.text.1
  have l2 : n2 ≤ 1100000 := by rw [hn2]; exact hu.data.1
  have l3 : n3 ≤ 1100000 := by rw [hn3]; exact hu.equs.1
  have l4 : n4 ≤ 1100000 := by rw [hn4]; exact hu.globs
  have h23 : Hid (∀ W, Below W0.heap.size W0 W → Calls Tryz.prog 55 #[.agg #[.slice ta n1 tc, .slice da n2 dc, .slice ea n3 ec, .slice ga n4 gc]] W fun e w' => ∃ a' c', e = .returned (.slice a' u.names.length c') ∧ NmS W a' c' u.names u.names.length w') := fun W hb => by
    have := dall_any ta tc da dc ea ec ga gc u hu W (hI0.below hb)
    unfold unitV at this
    rwa [← hn1, ← hn2, ← hn3, ← hn4] at this
  have hI0H := Hid.intro hI0
  have huH := Hid.intro hu
  unfold unitV at hW0 ⊢
  rw [← hn1, ← hn2, ← hn3, ← hn4] at hW0 hK ⊢
  rw [← hn1] at c0
  rw [← hn2] at c1
  rw [← hn3] at c2
  rw [← hn4] at c3
  replace hn1 := Hid.intro hn1
  replace hn2 := Hid.intro hn2
  replace hn3 := Hid.intro hn3
  replace hn4 := Hid.intro hn4
  replace hs := Hid.intro hs
  clear hx hI hu hB0 hI0
  have h63 : n1 + n2 < 4611686018427387904 := by omega
  by_cases hbig : 8192 < n1 + n2 ∨ 8192 < n3
  · have hr4 : Hid (RightN u 4) := Hid.intro (.inl ⟨by rw [← hn1.out, ← hn2.out, ← hn3.out]; exact hbig, rfl⟩)
    by_cases hb1 : 8192 < n1 + n2
    · have b1 : decide (8192 < n1 + n2) = true := by simpa using hb1
      have b2 : (8192 : Int) < (n1 : Int) + (n2 : Int) := by omega
      go_enter Tryz.func24, Tryz.ntmps24
      go_wp2
      all_goals first | omega | skip
      go_ret
      exact ⟨⟨4, rfl, hr4.out⟩, hBH.out⟩
    · have b2 : ¬ (8192 : Int) < (n1 : Int) + (n2 : Int) := by omega
      have b3 : (8192 : Int) < (n3 : Int) := by omega
      have b4 : decide (8192 < n3) = true := by simp; omega
      go_enter Tryz.func24, Tryz.ntmps24
      go_wp2
      all_goals first | omega | skip
      go_ret
      exact ⟨⟨4, rfl, hr4.out⟩, hBH.out⟩
  · have h8 : Hid (¬ (8192 < u.text.length + u.data.length ∨ 8192 < u.equs.length)) := Hid.intro (by rw [← hn1.out, ← hn2.out, ← hn3.out]; exact hbig)
    have b2 : ¬ (8192 : Int) < (n1 : Int) + (n2 : Int) := by omega
    have b3 : ¬ (8192 : Int) < (n3 : Int) := by omega
    have b4 : decide (8192 < n3) = false := by simp; omega
    clear hbig
    go_enter Tryz.func24, Tryz.ntmps24
    go_wp2
    all_goals first | omega | skip
    clear hW0 c0 c1 c2 c3
    go_loopw [3] (fun v3 wr => ∃ i : Nat, i ≤ n1 ∧ v3 = .int .i64 (i : Int) ∧ Hid ((u.text.take i).all (fun x => okI x 0) = true) ∧ Hid (Below W0.heap.size W0 wr)) (fun v3 wr => n1 - (intOf v3).toNat)
    case atStart => exact ⟨0, by omega, rfl, Hid.intro (by simp), Below.refl _ _⟩
    case round =>
      obtain ⟨i, hi, rfl, hall, hB⟩ := hrel
      obtain ⟨c0, c1, c2, c3⟩ := hK.out wr hB.out
      by_cases hlt : i < n1
      · clear c1 c2 c3
        obtain ⟨x, hx⟩ : ∃ x, u.text[i]? = some x := ⟨u.text[i]'(by rw [← hn1.out]; exact hlt), List.getElem?_eq_getElem _⟩
        rcases (hI0H.out.below hB.out).text with h0 | ⟨g, o, rfl, hg, hat⟩
        · rw [h0] at hx; simp at hx
        obtain ⟨va, vc, hI, hTm⟩ := hat i x hx
        obtain ⟨d0, d1, d2, d3, d4, d5, d6, d7, d8, d9⟩ := hI
        have hlt2 : (i : Int) < (n1 : Int) := by omega
        have z0 : (0 : Int) ≤ (i : Int) := by omega
        have h50 := Hid.intro (docItem x (huH.out.text.2 x (List.mem_of_getElem? hx)) 0 (.inl rfl) va vc x.e.terms.length rfl wr hTm)
        have hnext := Hid.intro (fun h => all_take (p := fun x => okI x 0) hall.out hx h)
        have hbad := Hid.intro (fun (h : okI x 0 = false) => right_no h8.out (fun hr => all_no (p := fun x => okI x 0) hx h hr.text))
        clear hTm hat hg hx
        generalize okI x 0 = ok at h50 hnext hbad
        generalize x.e.terms.length = ln at *
        cases ok with
        | true => as_aux_lemma =>
          go_wp2_with (go_at_call 52; (with_reducible refine (h50.out).mono ?_); rintro e w1 ⟨rfl, hb1⟩)
          all_goals first | omega | skip
          go_roundw
          case rel => exact ⟨i + 1, by omega, by go_num, hnext.out (by simp), hB.out.trans (hb1.mono hB.out.size)⟩
          case measure => simp [intOf]; omega
        | false => as_aux_lemma =>
          go_wp2_with (go_at_call 52; (with_reducible refine (h50.out).mono ?_); rintro e w1 ⟨rfl, hb1⟩)
          all_goals first | omega | skip
          go_ret
          exact ⟨⟨31, rfl, hbad.out (by simp)⟩, hBH.out.trans ((hB.out.trans (hb1.mono hB.out.size)).mono hBH.out.size)⟩
      · have hin : n1 = i := by omega
        have ht1 : Hid ((u.text.all fun x => okI x 0) = true) := by
          have := hall.out
          rw [← hin, hn1.out, List.take_length] at this
          exact this
        subst hin
        have hlt3 : ¬ ((n1 : Int) < (n1 : Int)) := by omega
        clear hall
        go_wp2
        all_goals first | omega | skip
        clear c0 c1 c2 c3 hlt hlt3 hi
        go_loopw [4] (fun v4 wr => ∃ i : Nat, i ≤ n2 ∧ v4 = .int .i64 (i : Int) ∧ Hid ((u.data.take i).all (fun x => okI x 1) = true) ∧ Hid (Below W0.heap.size W0 wr)) (fun v4 wr => n2 - (intOf v4).toNat)
        case atStart => exact ⟨0, by omega, rfl, Hid.intro (by simp), hB⟩
        case round =>
          clear hB
          obtain ⟨i, hi, rfl, hall, hB⟩ := hrel
          obtain ⟨c0, c1, c2, c3⟩ := hK.out wr hB.out
          by_cases hlt : i < n2
          · clear c0 c2 c3
            obtain ⟨x, hx⟩ : ∃ x, u.data[i]? = some x := ⟨u.data[i]'(by rw [← hn2.out]; exact hlt), List.getElem?_eq_getElem _⟩
            rcases (hI0H.out.below hB.out).data with h0 | ⟨g, o, rfl, hg, hat⟩
            · rw [h0] at hx; simp at hx
            obtain ⟨va, vc, hI, hTm⟩ := hat i x hx
            obtain ⟨d0, d1, d2, d3, d4, d5, d6, d7, d8, d9⟩ := hI
            have hlt2 : (i : Int) < (n2 : Int) := by omega
            have z0 : (0 : Int) ≤ (i : Int) := by omega
            have h50 := Hid.intro (docItem x (huH.out.data.2 x (List.mem_of_getElem? hx)) 1 (.inr rfl) va vc x.e.terms.length rfl wr hTm)
            have hnext := Hid.intro (fun h => all_take (p := fun x => okI x 1) hall.out hx h)
            have hbad := Hid.intro (fun (h : okI x 1 = false) => right_no h8.out (fun hr => all_no (p := fun x => okI x 1) hx h hr.data))
            clear hTm hat hg hx
            generalize okI x 1 = ok at h50 hnext hbad
            generalize x.e.terms.length = ln at *
            cases ok with
            | true => as_aux_lemma =>
              go_wp2_with (go_at_call 52; (with_reducible refine (h50.out).mono ?_); rintro e w1 ⟨rfl, hb1⟩)
              all_goals first | omega | skip
              refine ⟨⟨i + 1, by omega, by go_num, hnext.out (by simp), hB.out.trans (hb1.mono hB.out.size)⟩, by simp [intOf]; omega⟩
            | false => as_aux_lemma =>
              go_wp2_with (go_at_call 52; (with_reducible refine (h50.out).mono ?_); rintro e w1 ⟨rfl, hb1⟩)
              all_goals first | omega | skip
              go_ret
              exact ⟨⟨31, rfl, hbad.out (by simp)⟩, hBH.out.trans ((hB.out.trans (hb1.mono hB.out.size)).mono hBH.out.size)⟩
          · have hin : n2 = i := by omega
            have ht2 : Hid ((u.data.all fun x => okI x 1) = true) := by
              have := hall.out
              rw [← hin, hn2.out, List.take_length] at this
              exact this
            subst hin
            have hlt3 : ¬ ((n2 : Int) < (n2 : Int)) := by omega
            clear hall
            go_wp2
            all_goals first | omega | skip
            clear c0 c1 c2 c3 hlt hlt3 hi
            go_loopw [5] (fun v5 wr => ∃ i : Nat, i ≤ n3 ∧ v5 = .int .i64 (i : Int) ∧ Hid ((u.equs.take i).all okE = true) ∧ Hid (Below W0.heap.size W0 wr)) (fun v5 wr => n3 - (intOf v5).toNat)
            case atStart => exact ⟨0, by omega, rfl, Hid.intro (by simp), hB⟩
            case round =>
              clear hB
              obtain ⟨i, hi, rfl, hall, hB⟩ := hrel
              obtain ⟨c0, c1, c2, c3⟩ := hK.out wr hB.out
              by_cases hlt : i < n3
              · clear c0 c1 c3
                obtain ⟨x, hx⟩ : ∃ x, u.equs[i]? = some x := ⟨u.equs[i]'(by rw [← hn3.out]; exact hlt), List.getElem?_eq_getElem _⟩
                obtain ⟨g, o, rfl, hgl, va, vc, q0, q1, q2, hTm⟩ := eqIn_at9 (hI0H.out.below hB.out).equs hx
                have hh := huH.out.equs.2 x (List.mem_of_getElem? hx)
                have hlt2 : (i : Int) < (n3 : Int) := by omega
                have z0 : (0 : Int) ≤ (i : Int) := by omega
                have h51 := Hid.intro (refLegal_any (str x.1) (by rw [show (str x.1).size = x.1.length from rfl]; exact hh.name) wr)
                have h52 := Hid.intro (refRight_any va vc x.2.terms x.2.const wr hTm hh.few hh.names)
                have hnext := Hid.intro (fun h => all_take (p := okE) hall.out hx h)
                have hbad := Hid.intro (fun (h : okE x = false) => right_no h8.out (fun hr => all_no (p := okE) hx h hr.equs))
                unfold okE at hnext hbad
                clear hTm hgl hx hh
                generalize legB (str x.1) = lg at h51 hnext hbad
                generalize rightF none x.2.terms = rt at h52 hnext hbad
                generalize x.2.terms.length = ln at *
                generalize x.2.const = cn at *
                cases lg with
                | true =>
                  cases rt with
                  | true => as_aux_lemma =>
                    go_wp2_with (first | (go_at_call 53; (with_reducible refine (h51.out).mono ?_); rintro e w1 ⟨rfl, hw1⟩; subst w1) | (go_at_call 54; (with_reducible refine (h52.out).mono ?_); rintro e w2 ⟨rfl, hb2⟩))
                    all_goals first | omega | skip
                    refine ⟨⟨i + 1, by omega, by go_num, hnext.out (by simp), hB.out.trans (hb2.mono hB.out.size)⟩, by simp [intOf]; omega⟩
                  | false => as_aux_lemma =>
                    go_wp2_with (first | (go_at_call 53; (with_reducible refine (h51.out).mono ?_); rintro e w1 ⟨rfl, hw1⟩; subst w1) | (go_at_call 54; (with_reducible refine (h52.out).mono ?_); rintro e w2 ⟨rfl, hb2⟩))
                    all_goals first | omega | skip
                    go_ret
                    exact ⟨⟨31, rfl, hbad.out (by simp)⟩, hBH.out.trans ((hB.out.trans (hb2.mono hB.out.size)).mono hBH.out.size)⟩
                | false => as_aux_lemma =>
                  go_wp2_with (first | (go_at_call 53; (with_reducible refine (h51.out).mono ?_); rintro e w1 ⟨rfl, hw1⟩; subst w1))
                  all_goals first | omega | skip
                  go_ret
                  exact ⟨⟨31, rfl, hbad.out (by simp)⟩, hBH.out.trans (hB.out.mono hBH.out.size)⟩
              · have hin : n3 = i := by omega
                have ht3 : Hid (u.equs.all okE = true) := by
                  have := hall.out
                  rw [← hin, hn3.out, List.take_length] at this
                  exact this
                subst hin
                have hlt3 : ¬ ((n3 : Int) < (n3 : Int)) := by omega
                have hall23 := Hid.intro (h23.out wr hB.out)
                have hnl : Hid (u.names.length ≤ 4000000) := Hid.intro (by
                  unfold UVal.names
                  have m1 := labN_len u.text
                  have m2 := labN_len u.data
                  have m3 := hn1.out
                  have m4 := hn2.out
                  have m5 := hn3.out
                  simp only [List.length_append, List.length_map]
                  omega)
                have hsrt : Hid (∀ a c W, StIn W a u.names → Calls Tryz.prog 56 #[.slice a u.names.length c] W fun e w' => ∃ a' c', e = .returned (.slice a' (srtD u.names).length c') ∧ NmS W a' c' (srtD u.names) (srtD u.names).length w') := fun a c W hst => sorted_any a c u.names hnl.out W hst
                have hhas : Hid (∀ a c s W, StIn W a u.names → Calls Tryz.prog 57 #[.slice a u.names.length c, .string (str s)] W fun e w' => e = .returned (.bool (decide (s ∈ u.names))) ∧ w' = W) := fun a c s W hst => has_same a c u.names (by have := hnl.out; omega) s W hst
                have hfacts := Hid.intro (srtD_facts u.names)
                have hglobs : Hid (u.names.Nodup → GlobOk u.globs (sortS u.names) → RightU u) := fun h1 h2 => ⟨ht1.out, ht2.out, ht3.out, (twice_iff u.names).2 h1, h2⟩
                have hdup : Hid (¬ u.names.Nodup → RightN u 31) := fun h1 => right_no h8.out (fun hr => h1 ((twice_iff u.names).1 hr.once))
                have hgno : Hid (¬ GlobOk u.globs (sortS u.names) → RightN u 31) := fun h1 => right_no h8.out (fun hr => h1 hr.globs)
                clear hall c0 c1 c2 c3 ht1 ht2 ht3
                obtain ⟨c0, c1, c2, c3⟩ := hK.out wr hB.out
                obtain ⟨mn, hmn⟩ : ∃ mn, u.names.length = mn := ⟨_, rfl⟩
                obtain ⟨sn, hsn⟩ : ∃ sn, (srtD u.names).length = sn := ⟨_, rfl⟩
                rw [hmn] at hall23 hsrt hhas hnl
                rw [hsn] at hsrt
                have hmH := Hid.intro hmn
                have hsH := Hid.intro hsn
                clear hmn hsn
                have hmz := hnl.out
                by_cases hnd : sn = mn
                · go_wp2_with (first
                    | (go_at_call 55
                       (with_reducible refine (hall23.out).mono ?_)
                       rintro e w1 ⟨a', c', rfl, hN⟩
                       have hS1 : Hid (StIn w1 a' u.names) := Hid.intro (own_stIn (by have := hN.own; rwa [← hmH.out] at this))
                       have hB1 := Hid.intro (hB.out.trans (hN.bel.mono hB.out.size))
                       have hq := Hid.intro (hsrt.out a' c' w1 hS1.out)
                       clear hN)
                    | (go_at_call 56
                       (with_reducible refine (hq.out).mono ?_)
                       rintro e w2 ⟨b', d', rfl, hN2⟩
                       have hS2 : Hid (StIn w2 a' u.names) := Hid.intro (hS1.out.below hN2.bel)
                       have hB2 := Hid.intro (hB1.out.trans (hN2.bel.mono hB1.out.size))
                       clear hN2))
                  all_goals first | omega | skip
                  clear c0 c1 c2 c3 hq hall23 hsrt
                  have hndup : Hid u.names.Nodup := hfacts.out.2.2.2.1 (by rw [hsH.out, hmH.out]; exact hnd)
                  clear hnd hdup hfacts
                  go_loopw [7] (fun v7 wr => ∃ i : Nat, i ≤ n4 ∧ v7 = .int .i64 (i : Int) ∧ Hid ((∀ j p g, j + 1 < i → u.globs[j]? = some p → u.globs[j + 1]? = some g → nlt p g = true) ∧ ∀ j g, j < i → u.globs[j]? = some g → g ∈ u.names) ∧ Hid (Below w2.heap.size w2 wr)) (fun v7 wr => n4 - (intOf v7).toNat)
                  case atStart => exact ⟨0, by omega, rfl, ⟨fun j p g hj => by omega, fun j g hj => by omega⟩, Below.refl _ _⟩
                  case round =>
                    obtain ⟨i, hi, rfl, hall, hB3⟩ := hrel
                    replace hB : Hid (Below W0.heap.size W0 wr) := hB2.out.trans (hB3.out.mono hB2.out.size)
                    have hS3 := Hid.intro (hS2.out.below hB3.out)
                    by_cases hlt : i < n4
                    · obtain ⟨x, hx⟩ : ∃ x, u.globs[i]? = some x := ⟨u.globs[i]'(by rw [← hn4.out]; exact hlt), List.getElem?_eq_getElem _⟩
                      obtain ⟨gg, oo, rfl, hgl, hat⟩ := (hI0H.out.below hB.out).globs.at hx
                      have hc0 := hat i x hx
                      have hxH := Hid.intro hx
                      have hlt2 : (i : Int) < (n4 : Int) := by omega
                      have z0 : (0 : Int) ≤ (i : Int) := by omega
                      have gw : wr.cell? ⟨w.heap.size, 3, none⟩ = some (.slice (some ⟨gg, oo, none⟩) n4 gc) := (hK.out wr hB.out).2.2.2
                      have h53 := Hid.intro (fun n : Nat => hhas.out a' c' x (wr.drewN n) (hS3.out.below (below_drewN (Below.refl _ _) n)))
                      have hmem : Hid (decide (x ∈ u.names) = false → ¬ GlobOk u.globs (sortS u.names)) := fun h h2 => by
                        have := (sortS_mem _ _).1 (h2.2 x (List.mem_of_getElem? hxH.out))
                        simp [this] at h
                      have hno : Hid (∀ j p, j + 1 = i → u.globs[j]? = some p → nlt p x = false → ¬ GlobOk u.globs (sortS u.names)) := fun j p hj hp hf h2 => by
                        have := h2.1 j p x hp (by rw [hj]; exact hxH.out)
                        rw [hf] at this
                        cases this
                      have hnext : Hid (decide (x ∈ u.names) = true → (∀ j p, j + 1 = i → u.globs[j]? = some p → nlt p x = true) → (∀ j p g, j + 1 < i + 1 → u.globs[j]? = some p → u.globs[j + 1]? = some g → nlt p g = true) ∧ ∀ j g, j < i + 1 → u.globs[j]? = some g → g ∈ u.names) := fun h1 h2 => by
                        refine ⟨fun j p g hj hp hg => ?_, fun j g hj hg => ?_⟩
                        · rcases Nat.lt_or_ge (j + 1) i with h3 | h3
                          · exact hall.out.1 j p g h3 hp hg
                          · have e : j + 1 = i := by omega
                            rw [e, hxH.out] at hg
                            cases hg
                            exact h2 j p e hp
                        · rcases Nat.lt_or_ge j i with h3 | h3
                          · exact hall.out.2 j g h3 hg
                          · obtain rfl : j = i := by omega
                            rw [hxH.out] at hg
                            cases hg
                            simpa using h1
                      generalize decide (x ∈ u.names) = fd at h53 hmem hnext
                      by_cases hi0 : i = 0
                      · subst hi0
                        rw [Nat.add_zero] at hc0
                        have hn2 : Hid (∀ j p, j + 1 = 0 → u.globs[j]? = some p → nlt p x = true) := fun j p hj => by omega
                        clear hat hx hgl
                        cases fd with
                        | true => as_aux_lemma =>
                          go_wp2_with fail
                          all_goals first | omega | skip
                          go_quiet ((go_at_call 57; exact Calls.quiet_of_same (h53.out _)))
                          all_goals first | omega | skip
                          have hend := Hid.intro (below_drewN hB.out nq)
                          have hendW := Hid.intro (below_drewN hB3.out nq)
                          go_wp2_with fail
                          all_goals first | omega | skip
                          refine ⟨⟨1, by omega, by go_num, hnext.out (by simp) hn2.out, hendW.out⟩, by simp [intOf]; omega⟩
                        | false => as_aux_lemma =>
                          go_wp2_with fail
                          all_goals first | omega | skip
                          go_quiet ((go_at_call 57; exact Calls.quiet_of_same (h53.out _)))
                          all_goals first | omega | skip
                          have hend := Hid.intro (below_drewN hB.out nq)
                          have hendW := Hid.intro (below_drewN hB3.out nq)
                          go_wp2_with fail
                          all_goals first | omega | skip
                          go_ret
                          exact ⟨⟨31, rfl, hgno.out (hmem.out (by simp))⟩, hBH.out.trans (hend.out.mono hBH.out.size)⟩
                      · obtain ⟨i1, hi1⟩ : ∃ i1, i1 + 1 = i := ⟨i - 1, by omega⟩
                        obtain ⟨y, hy⟩ : ∃ y, u.globs[i1]? = some y := ⟨u.globs[i1]'(by rw [← hn4.out]; omega), List.getElem?_eq_getElem _⟩
                        have hc1 := hat i1 y hy
                        have hyH := Hid.intro hy
                        have hcmp := leq_nlt y x
                        have z1 : ((i1 : Nat) : Int) < (n4 : Int) := by omega
                        have z2 : (0 : Int) ≤ (i1 : Int) := by omega
                        have p1 : decide (0 < i) = true := by simp; omega
                        have q2 : (i : Int) - 1 = (i1 : Int) := by omega
                        have q1 : IntKind.i64.wrap ((i : Int) - 1) = (i1 : Int) := by rw [q2, IntKind.wrap_i64]; omega
                        have q3 : wrap64 ((i : Int) - 1) = (i1 : Int) := by rw [q2]; unfold wrap64; omega
                        have hi1H := Hid.intro hi1
                        have hn2 : Hid (nlt y x = true → ∀ j p, j + 1 = i → u.globs[j]? = some p → nlt p x = true) := fun h j p hj hp => by
                          obtain rfl : j = i1 := by have := hi1H.out; omega
                          rw [hyH.out] at hp
                          cases hp
                          exact h
                        clear hat hx hy hi1 hi0 hgl
                        cases hn : nlt y x with
                        | false =>
                          rw [hn] at hcmp
                          have e1 : (Op.bytesLess (str x).toList (str y).toList || (str x).toList == (str y).toList) = true := by rw [str_toList, str_toList]; exact hcmp
                          have hbad2 : Hid (RightN u 31) := hgno.out (hno.out i1 y hi1H.out hyH.out hn)
                          clear hcmp hn
                          go_wp2_with fail
                          all_goals first | omega | skip
                          go_quiet ((go_at_call 57; exact Calls.quiet_of_same (h53.out _)))
                          all_goals first | omega | skip
                          have hend := Hid.intro (below_drewN hB.out nq)
                          have hendW := Hid.intro (below_drewN hB3.out nq)
                          go_wp2_with fail
                          all_goals first | omega | skip
                          go_ret
                          exact ⟨⟨31, rfl, hbad2.out⟩, hBH.out.trans (hend.out.mono hBH.out.size)⟩
                        | true =>
                          rw [hn] at hcmp
                          have e1 : (Op.bytesLess (str x).toList (str y).toList || (str x).toList == (str y).toList) = false := by rw [str_toList, str_toList]; exact hcmp
                          replace hn2 : Hid (∀ j p, j + 1 = i → u.globs[j]? = some p → nlt p x = true) := hn2.out hn
                          clear hcmp hn
                          cases fd with
                          | true => as_aux_lemma =>
                            go_wp2_with fail
                            all_goals first | omega | skip
                            go_quiet ((go_at_call 57; exact Calls.quiet_of_same (h53.out _)))
                            all_goals first | omega | skip
                            have hend := Hid.intro (below_drewN hB.out nq)
                            have hendW := Hid.intro (below_drewN hB3.out nq)
                            go_wp2_with fail
                            all_goals first | omega | skip
                            refine ⟨⟨i + 1, by omega, by go_num, hnext.out (by simp) hn2.out, hendW.out⟩, by simp [intOf]; omega⟩
                          | false => as_aux_lemma =>
                            go_wp2_with fail
                            all_goals first | omega | skip
                            go_quiet ((go_at_call 57; exact Calls.quiet_of_same (h53.out _)))
                            all_goals first | omega | skip
                            have hend := Hid.intro (below_drewN hB.out nq)
                            have hendW := Hid.intro (below_drewN hB3.out nq)
                            go_wp2_with fail
                            all_goals first | omega | skip
                            go_ret
                            exact ⟨⟨31, rfl, hgno.out (hmem.out (by simp))⟩, hBH.out.trans (hend.out.mono hBH.out.size)⟩
                    · have hlt3 : ¬ ((i : Int) < (n4 : Int)) := by omega
                      have hyes : Hid (RightN u 0) := by
                        have h3 := hn4.out
                        refine right_yes h8.out (hglobs.out hndup.out ⟨fun j p g hp hg => hall.out.1 j p g (by have := (List.getElem?_eq_some_iff.1 hg).1; omega) hp hg, fun g hg => ?_⟩)
                        obtain ⟨j, hj⟩ := List.mem_iff_getElem?.1 hg
                        exact (sortS_mem _ _).2 (hall.out.2 j g (by have := (List.getElem?_eq_some_iff.1 hj).1; omega) hj)
                      obtain ⟨c0, c1, c2, c3⟩ := hK.out wr hB.out
                      clear c0 c1 c2
                      go_wp2
                      all_goals first | omega | skip
                      go_ret
                      exact ⟨⟨0, rfl, hyes.out⟩, hBH.out.trans (hB.out.mono hBH.out.size)⟩
                · go_wp2_with (first
                    | (go_at_call 55
                       (with_reducible refine (hall23.out).mono ?_)
                       rintro e w1 ⟨a', c', rfl, hN⟩
                       have hS1 : Hid (StIn w1 a' u.names) := Hid.intro (own_stIn (by have := hN.own; rwa [← hmH.out] at this))
                       have hB1 := Hid.intro (hB.out.trans (hN.bel.mono hB.out.size))
                       have hq := Hid.intro (hsrt.out a' c' w1 hS1.out)
                       clear hN)
                    | (go_at_call 56
                       (with_reducible refine (hq.out).mono ?_)
                       rintro e w2 ⟨b', d', rfl, hN2⟩
                       have hB2 := Hid.intro (hB1.out.trans (hN2.bel.mono hB1.out.size))
                       clear hN2))
                  all_goals first | omega | skip
                  go_ret
                  exact ⟨⟨31, rfl, hdup.out (fun h => hnd (by rw [← hsH.out, ← hmH.out]; exact hfacts.out.2.2.2.2 h))⟩, hBH.out.trans (hB2.out.mono hBH.out.size)⟩
end Go.Proofs.YtmndccbeddaphaaGreatDoor

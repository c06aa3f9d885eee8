/- expr.Text. -/
import Derived.Test.YtijdjljnppkhmabDoorTimes
import Derived.Test.YtijdjljnppkhmabDoorShelf2
import Derived.Lib.AppendStr
import Derived.Laws.IdiomStrings
namespace Go.Proofs.YtijdjljnppkhmabDoor
open Go.ChangeShapes Go.WideShapes Go.ChangeAt Go.RowKit
set_option linter.unusedVariables false
set_option maxRecDepth 100000

/-- the table of powers' name -/
def powName : String := Rows.exprKeptRow.named.headD ""

/-- the table of powers is as it was laid -/
def Pow (w : World) : Prop := Lib.TabIs Tryd.prog w powName .u64 Lib.pow10Tab

theorem Pow.below {w w' : World} (h : Pow w) (hb : Below w.heap.size w w') : Pow w' := by
  unfold Pow Lib.TabIs World.var? at *
  cases hg : Tryd.prog.globalNamed powName with
  | none => simp [hg] at h
  | some g =>
    simp only [hg, Option.bind_some] at h ⊢
    have hlt : g < w.heap.size := by
      apply Decidable.byContradiction
      intro hn
      rw [Array.getElem?_eq_none (by omega)] at h
      cases h
    rw [hb.block g hlt]
    exact h

theorem decDigits_le (k : Nat) : ∀ u, u < 10 ^ (k + 1) → (Lib.decDigits u).length ≤ k + 1 := by
  induction k with
  | zero =>
    intro u h
    rw [Lib.decDigits, dif_pos (by omega)]
    simp
  | succ k ih =>
    intro u h
    by_cases hu : u < 10
    · rw [Lib.decDigits, dif_pos hu]; simp
    · rw [Lib.decDigits, dif_neg hu, List.length_append]
      have := ih (u / 10) (by rw [Nat.pow_succ] at h; omega)
      simp
      omega

theorem dec_len (n : Int) (h1 : n < 4294967296) : (Lib.decDigits n.toNat).length ≤ 10 := decDigits_le 9 _ (by omega)

/-- one term, with the sign behind it -/
def termS (t : Tm) : List UInt8 := (if t.coef = 1 then [] else Lib.decDigits t.coef.toNat ++ [42]) ++ (t.name ++ [43])
def termsS (ts : List Tm) : List UInt8 := ts.flatMap termS
def textF (ts : List Tm) (k : Int) : List UInt8 := if k ≠ 0 ∨ ts.length = 0 then termsS ts ++ Lib.decDigits k.toNat else (termsS ts).dropLast

/-- terms as they are made -/
structure OkT (t : Tm) : Prop where
  lo : 0 ≤ t.coef
  hi : t.coef < 4294967296
  short : t.name.length ≤ 32

theorem termS_len {t : Tm} (h : OkT t) : (termS t).length ≤ 44 := by
  have h1 := h.short
  have h2 := dec_len t.coef h.hi
  unfold termS
  simp only [List.length_append, List.length_cons, List.length_nil]
  split
  · simp; omega
  · rw [List.length_append]; simp; omega

theorem termsS_push (ts : List Tm) (t : Tm) : termsS (ts ++ [t]) = termsS ts ++ termS t := by simp [termsS]

theorem termsS_len (ts : List Tm) (h : ∀ t ∈ ts, OkT t) : (termsS ts).length ≤ ts.length * 44 := by
  induction ts with
  | nil => simp [termsS]
  | cons t r ih =>
    have h1 : termsS (t :: r) = termS t ++ termsS r := by simp [termsS]
    have h2 := termS_len (h t (by simp))
    have h3 := ih (fun x hx => h x (by simp [hx]))
    rw [h1, List.length_append, List.length_cons]
    omega

theorem byteCells_append (a b : List UInt8) : Lib.byteCells (a ++ b) = Lib.byteCells a ++ Lib.byteCells b := by simp [Lib.byteCells]
theorem byteCells_star : Lib.byteCells [42] = [.int .u8 42] := rfl
theorem byteCells_length (a : List UInt8) : (Lib.byteCells a).length = a.length := by simp [Lib.byteCells]
theorem strCells_str (l : List UInt8) : Lib.strCells (str l) = Lib.byteCells l := rfl

theorem appendUint_any (v : Value) (n : Nat) (u : Int) (xs : List UInt8) (B : Nat) (w : World) (h0 : 0 ≤ u) (h1 : u < 4294967296) (hn : n ≤ 100000000) (hown : w.ownsRow B 5 1 v n (Lib.byteCells xs)) (hB : B ≤ w.heap.size) (hP : Pow w) :
    Calls Tryd.prog 34 #[v, .int .u64 u, .int .i64 10] w fun e w' => Below B w w' ∧ ∃ a m c, e = .returned (.slice a m c) ∧ m = n + (Lib.decDigits u.toNat).length ∧ w'.ownsRow B 5 1 (.slice a m c) m (Lib.byteCells (xs ++ Lib.decDigits u.toNat)) ∧ Lib.OthersKept 5 none w w' := by
  obtain ⟨k, rfl⟩ := Int.eq_ofNat_of_zero_le h0
  have hc := Any.internal_strconv_AppendUint_10 Tryd.laysAppend B n k (by omega) v (Lib.byteCells xs) w hown hB (by omega) hP
  have hcH : Hid (Calls Tryd.prog 44 #[v, .int .u64 (k : Int), .int .i64 10] w fun e w' => Below B w w' ∧ ∃ a m c, e = .returned (.slice a m c) ∧ m = n + (Lib.decDigits (k : Int).toNat).length ∧ w'.ownsRow B 5 1 (.slice a m c) m (Lib.byteCells (xs ++ Lib.decDigits (k : Int).toNat)) ∧ Lib.OthersKept 5 none w w') := by
    refine (show Calls Tryd.prog 44 _ _ _ from hc).mono ?_
    rintro e w' ⟨v', rfl, ho, hb, hk⟩
    obtain ⟨a, c, rfl⟩ := own_slice ho
    rw [Int.toNat_natCast, byteCells_append]
    exact ⟨hb, a, _, c, rfl, rfl, ho, hk⟩
  clear hc hown hP h0 h1
  go_enter Tryd.func34, Tryd.ntmps34
  go_wp2_with (go_at_call 44; (with_reducible refine (hcH.out).mono ?_); rintro e w' ⟨hb, a, m, c, rfl, hm, ho, hk⟩; replace hm := Hid.intro hm)
  go_ret
  exact ⟨hb, a, m, c, rfl, hm.out, ho, hk⟩

theorem two_others {w w' : World} {g : Nat} {T : TypeId} {x y : Value} (hk : Lib.OthersKept 5 none w w') (hT : T ≠ 5) (h : Two w g T x y) : Two w' g T x y :=
  two_of (hk g _ h.heap (by simp) (fun c fz e => by injection e with _ e _; exact hT e))

theorem two_own5 {w w' : World} {g B n : Nat} {T : TypeId} {x y v : Value} {xs : List Value} (hg : w.grownBy w' v.ownBlock) (ho : w.ownsRow B 5 1 v n xs) (hT : T ≠ 5) (h : Two w g T x y) : Two w' g T x y :=
  h.grown hg (fun e => by
    obtain ⟨cur, h1⟩ := own_type ho e
    rw [h.heap] at h1
    injection h1 with h1
    injection h1 with _ h1
    exact hT h1)

/-- where Text stands -/
structure XSt (w : World) (ts : List Tm) (i : Nat) (a : Option Addr) (m c : Nat) (wr : World) : Prop where
  le : i ≤ ts.length
  own : wr.ownsRow w.heap.size 5 1 (.slice a m c) m (Lib.byteCells (termsS (ts.take i)))
  bel : Below w.heap.size w wr
  pow : Pow wr

theorem own_bytes_len {w : World} {B m c : Nat} {a : Option Addr} {l : List UInt8} (h : w.ownsRow B 5 1 (.slice a m c) m (Lib.byteCells l)) : m = l.length := by
  have := h.1
  rw [byteCells_length] at this
  omega

theorem Tryd.info5' : (Tryd.prog.info? 5).map (fun i => (i.zero, i.size, i.bytes)) = some (some (.int .u8 0), 1, 1) := by kernel_rfl

/-- the bytes of a list as a text -/
theorem convert_own {w : World} {B m c : Nat} {a : Option Addr} {l : List UInt8} (h : w.ownsRow B 5 1 (.slice a m c) m (Lib.byteCells l)) (h0 : l ≠ []) (k : Nat) (hk : k ≤ l.length) : (convert 76 9 (.slice a k c)).run Tryd.prog w = .ok (.string (str (l.take k))) w := by
  have hm := own_bytes_len h
  rcases h.2 with ⟨hv, hm0⟩ | ⟨g, cap, cur, hv, _⟩
  · exact absurd (List.eq_nil_of_length_eq_zero (by omega)) h0
  · injection hv with hv _ hv3
    subst hv
    have := run_convert_bytes_back (P := Tryd.prog) w 76 9 5 ⟨g, 0, none⟩ c (l.take k) Tryd.underlying76 Tryd.underlying5 Tryd.underlying9 (fun j hj => by
      rw [List.length_take] at hj
      have hadd : (⟨g, 0, none⟩ : Addr).add j = ⟨g, j, none⟩ := by simp [Addr.add]; omega
      rw [hadd, h.cellAt j (by omega)]
      simp [Lib.byteCells, List.getElem?_eq_getElem (show j < l.length by omega)])
    rw [List.length_take, show min k l.length = k by omega] at this
    exact this

set_option maxHeartbeats 4000000 in
theorem text_any (a : Option Addr) (c : Nat) (ts : List Tm) (k : Int) (w : World) (hT : TmLies w a ts) (hm : ts.length ≤ 1100000) (hN : ∀ t ∈ ts, OkT t) (h0 : 0 ≤ k) (h1 : k < 4294967296) (hP : Pow w) :
    Calls Tryd.prog 20 #[linV (.slice a ts.length c) k] w fun e w' => Below w.heap.size w w' ∧ e = .returned (.string (str (textF ts k))) := by
  obtain ⟨n0, hn0⟩ : ∃ n0, n0 = ts.length := ⟨_, rfl⟩
  obtain ⟨R, hR⟩ : ∃ R, R = textF ts k := ⟨_, rfl⟩
  rw [← hn0, ← hR]
  rw [← hn0] at hm
  have hnH := Hid.intro hn0
  have hTH := Hid.intro hT
  have hNH := Hid.intro hN
  have hRH := Hid.intro hR
  have hPH := Hid.intro hP
  clear hn0 hR hT hN hP
  obtain ⟨i0, hi, hz0, hz1, hz2⟩ := info_parts Tryd.info5'
  go_enter Tryd.func20, Tryd.ntmps20
  go_wp2
  have hb0 := below_alloc w (.cells #[.slice a n0 c, .int .u32 k] 25)
  have t0 := two_new w 25 (.slice a n0 c) (.int .u32 k)
  have hs0 : (w.alloc (.cells #[.slice a n0 c, .int .u32 k] 25)).heap.size = w.heap.size + 1 := by simp
  generalize w.alloc (.cells #[.slice a n0 c, .int .u32 k] 25) = w0 at *
  go_loopw [3, 9] (fun v3 vi wr => ∃ (i : Nat) (av : Option Addr) (m cv : Nat), v3 = .slice av m cv ∧ vi = .int .i64 (i : Int) ∧ Hid (XSt w0 ts i av m cv wr)) (fun _ vi _ => n0 - (intOf vi).toNat)
  case atStart => exact ⟨0, none, 0, 0, rfl, rfl, Hid.intro ⟨Nat.zero_le _, World.ownsRow_nil _ _ _ _, Below.refl _ _, hPH.out.below hb0⟩⟩
  case round =>
    obtain ⟨i, av, m, cv, rfl, rfl, hS⟩ := hrel
    have hle := hS.out.le
    rw [← hnH.out] at hle
    have hszr := hS.out.bel.size
    have hbr := hS.out.bel
    have hml := Hid.intro (own_bytes_len hS.out.own)
    have hml2 : m ≤ 48400000 := by
      rw [hml.out]
      have := termsS_len (ts.take i) (fun t ht => hNH.out t (List.mem_of_mem_take ht))
      rw [List.length_take] at this
      omega
    by_cases hlt : i < n0
    · obtain ⟨t, ht⟩ : ∃ t, ts[i]? = some t := ⟨ts[i]'(by rw [← hnH.out]; exact hlt), List.getElem?_eq_getElem _⟩
      have hok := hNH.out t (List.mem_of_getElem? ht)
      have htk : Hid (termsS (ts.take (i + 1)) = termsS (ts.take i) ++ termS t) := by show _ = _; rw [take_at ts i t ht, termsS_push]
      have hq : TmLies w0 a ts := hTH.out.below hb0 (Nat.le_refl _)
      rcases hq with hx | ⟨g, o, rfl, hg, hc⟩
      · rw [hx] at ht; simp at ht
      obtain ⟨q0, q1⟩ := (hc i t ht).below hbr hg
      have hlo := hok.lo
      have hhi := hok.hi
      have hsh := hok.short
      have hss : (str t.name).size = t.name.length := by simp [str, ByteArray.size]
      have hbase : ∀ o, w0.heap.size ≤ (wr.alloc o).heap.size := fun o => by simp; omega
      clear hc ht hok
      by_cases hz : t.coef = 1
      · have hz' : (t.coef != 1) = false := by simp [hz]
        have htS : Hid (termS t = t.name ++ [43]) := by show _ = _; unfold termS; rw [if_pos hz]; rfl
        clear hz
        go_wp2_with (first
          | (at_builtin; refine Lib.wpList_append_own_string _ rfl (.tmp 23) (.tmp 25) 76 9 rfl w0.heap.size 5 i0 Tryd.underlying76 Tryd.underlying9 hi hz0 hz1 hz2 _ m _ rfl (hS.out.own.alloc _) (str t.name) rfl (by rw [hss]; unfold maxLen; omega) (by rw [hss]; omega) (hbase _) ?_; intro v2 w2 hown2 hgrow2 _; rw [strCells_str, hss, ← byteCells_append] at hown2; obtain ⟨a2, c2, rfl⟩ := own_slice hown2; replace hown2 := Hid.intro hown2; have hs2 := hgrow2.size)
          | (at_builtin; refine wpList_append_own _ rfl (.tmp 26) (.tmp 27) 76 rfl w0.heap.size 5 i0 (.int .u8 0) 1 1 Tryd.underlying76 hi hz0 hz1 hz2 rfl (by decide) _ _ _ rfl (hown2.out.alloc _) ⟨w2.heap.size, 0, none⟩ 1 1 [.int .u8 43] rfl rfl (cells_new _ _ _) (by simp [Value.oneCell']) (by unfold maxLen; omega) (by omega) (by simp at hs2 ⊢; omega) ?_; intro v3 w3 hown3 hgrow3 _; obtain ⟨a3, c3, rfl⟩ := own_slice hown3; replace hown3 := Hid.intro hown3))
        all_goals first | omega | skip
        go_roundw
        case rel =>
          have hb2 : Below w0.heap.size w0 w2 := (hbr.alloc hszr _).grown hgrow2 (hbase _) (fun j hj => (hS.out.own.lt j hj).1)
          have hb3 : Below w0.heap.size w0 w3 := (hb2.alloc hb2.size _).grown hgrow3 (by simp; have := hb2.size; omega) (fun j hj => (hown2.out.lt j hj).1)
          refine ⟨i + 1, a3, m + t.name.length + 1, c3, rfl, by go_num, Hid.intro ⟨by rw [← hnH.out]; omega, ?_, hb3, (hPH.out.below hb0).below hb3⟩⟩
          rw [htk.out, htS.out, ← List.append_assoc, byteCells_append]
          exact hown3.out
        case measure => simp [intOf]; omega
      · have hz' : (t.coef != 1) = true := by simp [hz]
        have htS : Hid (termS t = Lib.decDigits t.coef.toNat ++ [42] ++ (t.name ++ [43])) := by show _ = _; unfold termS; rw [if_neg hz]
        have hU := Hid.intro (fun (w2 : World) (h : w2.ownsRow w0.heap.size 5 1 (.slice av m cv) m (Lib.byteCells (termsS (ts.take i)))) (hB : w0.heap.size ≤ w2.heap.size) (hp : Pow w2) => appendUint_any (.slice av m cv) m t.coef (termsS (ts.take i)) w0.heap.size w2 hlo hhi (by omega) h hB hp)
        have hdl := dec_len t.coef hhi
        have hcv : IntKind.u64.wrap t.coef = t.coef := by simp [IntKind.wrap, IntKind.bits, IntKind.signed]; omega
        clear hz
        obtain ⟨dd, hdd⟩ : ∃ dd, dd = Lib.decDigits t.coef.toNat := ⟨_, rfl⟩
        rw [← hdd] at htS hU hdl
        clear hdd
        go_wp2_with (first
          | (go_at_call 34; (with_reducible refine (hU.out _ (hS.out.own.alloc _) (hbase _) (hS.out.pow.below (below_alloc _ _))).mono ?_); rintro e w4 ⟨hb4, a4, m4, c4, rfl, hm4, hown4, hok4⟩; have ht4 := Hid.intro (two_others hok4 (by decide) (two_new wr 30 (.string (str t.name)) (.int .u32 t.coef))); have hm5 : m4 ≤ 50000000 := (by omega); replace hm4 := Hid.intro hm4; replace hown4 := Hid.intro hown4; have hs4 := hb4.size)
          | (at_builtin; refine wpList_append_own _ rfl (.tmp 20) (.tmp 21) 76 rfl w0.heap.size 5 i0 (.int .u8 0) 1 1 Tryd.underlying76 hi hz0 hz1 hz2 rfl (by decide) _ _ _ rfl (hown4.out.alloc _) ⟨w4.heap.size, 0, none⟩ 1 1 [.int .u8 42] rfl rfl (cells_new _ _ _) (by simp [Value.oneCell']) (by unfold maxLen; omega) (by omega) (by simp at hs4 ⊢; omega) ?_; intro v5 w5 hown5 hgrow5 _; obtain ⟨a5, c5, rfl⟩ := own_slice hown5; obtain ⟨_, y0, y1, _, _⟩ := two_own5 hgrow5 (hown4.out.alloc _) (by decide) (ht4.out.alloc _); rw [← byteCells_star, ← byteCells_append] at hown5; replace hown5 := Hid.intro hown5; have hs5 := hgrow5.size)
          | (at_builtin; refine Lib.wpList_append_own_string _ rfl (.tmp 23) (.tmp 25) 76 9 rfl w0.heap.size 5 i0 Tryd.underlying76 Tryd.underlying9 hi hz0 hz1 hz2 _ (m4 + 1) _ rfl (hown5.out) (str t.name) rfl (by rw [hss]; unfold maxLen; omega) (by rw [hss]; omega) (by simp at hs4 hs5 ⊢; omega) ?_; intro v2 w2 hown2 hgrow2 _; rw [strCells_str, hss, ← byteCells_append] at hown2; obtain ⟨a2, c2, rfl⟩ := own_slice hown2; replace hown2 := Hid.intro hown2; have hs2 := hgrow2.size)
          | (at_builtin; refine wpList_append_own _ rfl (.tmp 26) (.tmp 27) 76 rfl w0.heap.size 5 i0 (.int .u8 0) 1 1 Tryd.underlying76 hi hz0 hz1 hz2 rfl (by decide) _ _ _ rfl (hown2.out.alloc _) ⟨w2.heap.size, 0, none⟩ 1 1 [.int .u8 43] rfl rfl (cells_new _ _ _) (by simp [Value.oneCell']) (by unfold maxLen; omega) (by omega) (by simp at hs2 hs4 hs5 ⊢; omega) ?_; intro v3 w3 hown3 hgrow3 _; obtain ⟨a3, c3, rfl⟩ := own_slice hown3; replace hown3 := Hid.intro hown3))
        all_goals first | omega | skip
        go_roundw
        case rel =>
          have hb4' : Below w0.heap.size w0 w4 := (hbr.alloc hszr _).trans hb4
          have hb5 : Below w0.heap.size w0 w5 := (hb4'.alloc hb4'.size _).grown hgrow5 (by simp; have := hb4'.size; omega) (fun j hj => (hown4.out.lt j hj).1)
          have hb2 : Below w0.heap.size w0 w2 := hb5.grown hgrow2 hb5.size (fun j hj => (hown5.out.lt j hj).1)
          have hb3 : Below w0.heap.size w0 w3 := (hb2.alloc hb2.size _).grown hgrow3 (by simp; have := hb2.size; omega) (fun j hj => (hown2.out.lt j hj).1)
          refine ⟨i + 1, a3, m4 + 1 + t.name.length + 1, c3, rfl, by go_num, Hid.intro ⟨by rw [← hnH.out]; omega, ?_, hb3, (hPH.out.below hb0).below hb3⟩⟩
          rw [htk.out, htS.out, ← List.append_assoc, ← List.append_assoc, ← List.append_assoc, byteCells_append]
          exact hown3.out
        case measure => simp [intOf]; omega
    · have hin : Hid (i = ts.length) := by show i = _; rw [← hnH.out]; omega
      obtain ⟨_, x0, x1, _, _⟩ := t0.below hbr (by omega)
      have hownE : Hid (wr.ownsRow w0.heap.size 5 1 (.slice av m cv) m (Lib.byteCells (termsS ts))) := by
        have := hS.out.own
        rwa [hin.out, List.take_length] at this
      have hall : Below w.heap.size w wr := hb0.trans (hbr.mono (by omega))
      have hU := Hid.intro (appendUint_any (.slice av m cv) m k (termsS ts) w0.heap.size wr h0 h1 (by omega) hownE.out hszr hS.out.pow)
      have hdl := dec_len k h1
      have hcv : IntKind.u64.wrap k = k := by simp [IntKind.wrap, IntKind.bits, IntKind.signed]; omega
      have hne : Lib.decDigits k.toNat ≠ [] := by
        rw [Lib.decDigits]
        split <;> simp
      have hcon : Hid (∀ (w4 : World) (a4 : Option Addr) (m4 c4 : Nat), w4.ownsRow w0.heap.size 5 1 (.slice a4 m4 c4) m4 (Lib.byteCells (termsS ts ++ Lib.decDigits k.toNat)) → (convert 76 9 (.slice a4 m4 c4)).run Tryd.prog w4 = .ok (.string (str (termsS ts ++ Lib.decDigits k.toNat))) w4) := by
        intro w4 a4 m4 c4 ho
        have h2 := own_bytes_len ho
        have := convert_own ho (by simp [hne]) m4 (by omega)
        rwa [List.take_of_length_le (by omega)] at this
      by_cases hk0 : k = 0
      · have hk0' : (k != 0) = false := by simp [hk0]
        by_cases hn0 : n0 = 0
        · have hn0' : ((n0 : Int) == 0) = true := by simp [hn0]
          have hfin : Hid (R = termsS ts ++ Lib.decDigits k.toNat) := by show R = _; rw [hRH.out]; unfold textF; rw [if_pos (.inr (by rw [← hnH.out]; exact hn0))]
          clear hk0 hn0
          go_wp2_with (first
            | (go_at_call 34; (with_reducible refine (hU.out).mono ?_); rintro e w4 ⟨hb4, a4, m4, c4, rfl, hm4, hown4, _⟩; replace hm4 := Hid.intro hm4; have hcc := hcon.out _ _ _ _ hown4; replace hown4 := Hid.intro hown4))
          all_goals first | omega | skip
          go_ret
          exact ⟨hall.trans (hb4.mono (by omega)), by rw [hfin.out]; rfl⟩
        · have hn0' : ((n0 : Int) == 0) = false := by simp [hn0]
          have hfin : Hid (R = (termsS ts).dropLast) := by show R = _; rw [hRH.out]; unfold textF; rw [if_neg (by rw [← hnH.out]; omega)]
          have hml3 := own_bytes_len hownE.out
          have hne0 : termsS ts ≠ [] := by
            match ts, hnH.out with
            | [], h => simp at h; omega
            | t :: r, _ => simp [termsS, termS]
          have hpos : 1 ≤ m := by
            have : (termsS ts).length ≠ 0 := fun e => hne0 (List.eq_nil_of_length_eq_zero e)
            omega
          have hcc : Hid ((convert 76 9 (.slice av (m - 1) cv)).run Tryd.prog wr = .ok (.string (str (termsS ts).dropLast)) wr) := by
            have := convert_own hownE.out hne0 (m - 1) (by omega)
            rw [List.dropLast_eq_take, ← hml3]
            exact this
          obtain ⟨gv, hgv, hcap⟩ : ∃ gv, av = some ⟨gv, 0, none⟩ ∧ m ≤ cv := by
            rcases hownE.out.2 with ⟨_, hm0⟩ | ⟨gv, cap, cur, hv, _, _, hle, _⟩
            · omega
            · injection hv with hv1 _ hv3
              exact ⟨gv, hv1, by omega⟩
          subst hgv
          have hcm : cv ≤ 9223372036854775807 := by
            rcases hownE.out.2 with ⟨hv, _⟩ | ⟨gv', cap, cur, hv, _, _, _, hcap2, _⟩
            · cases hv
            · injection hv with _ _ hv3
              unfold maxLen at hcap2
              omega
          clear hk0 hn0 hml3 hne0
          replace hcc := hcc.out
          go_wp2
          all_goals first | omega | skip
          go_ret
          exact ⟨hall, by rw [hfin.out]; rfl⟩
      · have hk0' : (k != 0) = true := by simp [hk0]
        have hfin : Hid (R = termsS ts ++ Lib.decDigits k.toNat) := by show R = _; rw [hRH.out]; unfold textF; rw [if_pos (.inl hk0)]
        clear hk0
        go_wp2_with (first
          | (go_at_call 34; (with_reducible refine (hU.out).mono ?_); rintro e w4 ⟨hb4, a4, m4, c4, rfl, hm4, hown4, _⟩; replace hm4 := Hid.intro hm4; have hcc := hcon.out _ _ _ _ hown4; replace hown4 := Hid.intro hown4))
        all_goals first | omega | skip
        go_ret
        exact ⟨hall.trans (hb4.mono (by omega)), by rw [hfin.out]; rfl⟩
end Go.Proofs.YtijdjljnppkhmabDoor

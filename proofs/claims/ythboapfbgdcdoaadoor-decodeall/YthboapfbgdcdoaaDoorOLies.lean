/- Contracts of octet.Get and of the document's Get, and of the runs that every statement of this stage asks: what they answer of bytes that lie in memory. -/
import Derived.Laws.BitsAllLaws
import Derived.Test.YthboapfbgdcdoaaDoorOBase
/- Plain arithmetic on bytes: the number that bytes are, the lowest first, and how a shift and an or build it. -/
namespace Go.Proofs.YthboapfbgdcdoaaDoor

/-- the number that bytes are, the lowest first -/
def leN : List Int → Int
  | [] => 0
  | z :: zs => z + 256 * leN zs

def AreBytes (zs : List Int) : Prop := ∀ z ∈ zs, 0 ≤ z ∧ z ≤ 255

theorem leN_bd : (zs : List Int) → AreBytes zs → 0 ≤ leN zs ∧ leN zs < 256 ^ zs.length
  | [], _ => by simp [leN]
  | z :: zs, h => by
    have ih := leN_bd zs (fun y hy => h y (by simp [hy]))
    have hz := h z (by simp)
    simp only [leN, List.length_cons]
    have e : (256 : Int) ^ (zs.length + 1) = 256 * 256 ^ zs.length := by rw [Int.pow_succ]; omega
    rw [e]
    omega

theorem leN_snoc : (zs : List Int) → (z : Int) → leN (zs ++ [z]) = leN zs + 256 ^ zs.length * z
  | [], z => by simp [leN]
  | y :: zs, z => by
    have ih := leN_snoc zs z
    have e : (256 : Int) ^ (zs.length + 1) = 256 * 256 ^ zs.length := by rw [Int.pow_succ]; omega
    simp only [leN, List.cons_append, List.length_cons, ih, e]
    rw [Int.mul_add, Int.mul_assoc]
    omega

theorem take_step (zs : List Int) (k j : Nat) (h : k + j < zs.length) : (zs.drop k).take (j + 1) = (zs.drop k).take j ++ [zs[k + j]?.getD 0] := by
  rw [List.take_succ_eq_append_getElem (by simp; omega)]
  simp [List.getElem?_eq_getElem h]

theorem or_step (x z : Int) (j : Nat) (hj : j ≤ 3) (hx0 : 0 ≤ x) (hx : x < 256 ^ j) (hz0 : 0 ≤ z) (hz : z ≤ 255) :
    bits .or .u32 x (z % 4294967296 * 2 ^ (8 * j) % 4294967296) = x + 256 ^ j * z := by
  obtain ⟨a, rfl⟩ : ∃ a : Nat, x = a := ⟨x.toNat, by omega⟩
  obtain ⟨c, rfl⟩ : ∃ c : Nat, z = c := ⟨z.toNat, by omega⟩
  have hp : (2 : Nat) ^ (8 * j) = 256 ^ j := by rw [Nat.pow_mul]
  have hpi : (2 : Int) ^ (8 * j) = 256 ^ j := by rw [Int.pow_mul]; rfl
  have hle : 256 ^ j ≤ 16777216 := by
    have : j = 0 ∨ j = 1 ∨ j = 2 ∨ j = 3 := by omega
    rcases this with rfl | rfl | rfl | rfl <;> decide
  have ha : a < 256 ^ j := by
    have : ((a : Nat) : Int) < ((256 ^ j : Nat) : Int) := by simpa using hx
    omega
  have hcp : c * 256 ^ j ≤ 255 * 16777216 := Nat.mul_le_mul (by omega) hle
  have e1 : ((c : Int) % 4294967296 * 2 ^ (8 * j) % 4294967296) = ((c * 256 ^ j : Nat) : Int) := by
    have hcm : (c : Int) % 4294967296 = c := by omega
    have hcc : (c : Int) * 256 ^ j = ((c * 256 ^ j : Nat) : Int) := by simp
    rw [hpi, hcm, hcc, Int.emod_eq_of_lt (by omega) (by omega)]
  rw [e1, u32_or_nat a (c * 256 ^ j) (by omega) (by omega)]
  have e2 : c * 256 ^ j = c <<< (8 * j) := by rw [Nat.shiftLeft_eq, hp]
  have e3 : a ||| c * 256 ^ j = c * 256 ^ j + a := by
    rw [Nat.or_comm, e2, ← Nat.shiftLeft_add_eq_or_of_lt (by rw [hp]; exact ha)]
  rw [e3]
  have : (256 : Int) ^ j * (c : Int) = ((c * 256 ^ j : Nat) : Int) := by simp [Int.mul_comm]
  rw [this]
  omega

theorem areBytes_take (zs : List Int) (h : AreBytes zs) (n : Nat) : AreBytes (zs.take n) := fun z hz => h z (List.mem_of_mem_take hz)
theorem areBytes_drop (zs : List Int) (h : AreBytes zs) (n : Nat) : AreBytes (zs.drop n) := fun z hz => h z (List.mem_of_mem_drop hz)
theorem areBytes_getD (zs : List Int) (h : AreBytes zs) (n : Nat) : 0 ≤ zs[n]?.getD 0 ∧ zs[n]?.getD 0 ≤ 255 := by
  rcases Nat.lt_or_ge n zs.length with hn | hn
  · rw [List.getElem?_eq_getElem hn]
    exact h _ (List.getElem_mem hn)
  · rw [List.getElem?_eq_none hn]
    decide

theorem leN_step (zs : List Int) (hz : AreBytes zs) (k j : Nat) (hj : j ≤ 3) (h : k + j < zs.length) :
    bits .or .u32 (leN ((zs.drop k).take j)) (zs[k + j]?.getD 0 % 4294967296 * 2 ^ (8 * j) % 4294967296) = leN ((zs.drop k).take (j + 1)) := by
  have hb := leN_bd ((zs.drop k).take j) (areBytes_take _ (areBytes_drop _ hz k) j)
  have hl : ((zs.drop k).take j).length = j := by simp; omega
  rw [hl] at hb
  have hg := areBytes_getD zs hz (k + j)
  rw [take_step zs k j h, leN_snoc, hl]
  exact or_step _ _ j hj hb.1 hb.2 hg.1 hg.2

/-- the number that m bytes from a on are -/
def partN (zs : List Int) (a m : Nat) : Int := leN ((zs.drop a).take m)

theorem partN_down (zs : List Int) (hz : AreBytes zs) (k m : Nat) (hm : m ≤ 3) (h : k < zs.length) (hl : k + m < zs.length) :
    (partN zs (k + 1) m * 256 % 4294967296 + zs[k]?.getD 0 % 4294967296) % 4294967296 = partN zs k (m + 1) := by
  have hb := leN_bd ((zs.drop (k + 1)).take m) (areBytes_take _ (areBytes_drop _ hz (k + 1)) m)
  have hlen : ((zs.drop (k + 1)).take m).length = m := by simp; omega
  rw [hlen] at hb
  have hp : (256 : Int) ^ m ≤ 16777216 := by
    have : m = 0 ∨ m = 1 ∨ m = 2 ∨ m = 3 := by omega
    rcases this with rfl | rfl | rfl | rfl <;> decide
  have hg := areBytes_getD zs hz k
  have hd : zs.drop k = zs[k]?.getD 0 :: zs.drop (k + 1) := by
    rw [List.drop_eq_getElem_cons h, List.getElem?_eq_getElem h]
    rfl
  have e : partN zs k (m + 1) = zs[k]?.getD 0 + 256 * partN zs (k + 1) m := by
    simp only [partN]
    rw [hd, List.take_succ_cons, leN]
  have hb' : 0 ≤ partN zs (k + 1) m ∧ partN zs (k + 1) m < 16777216 := ⟨hb.1, Int.lt_of_lt_of_le hb.2 hp⟩
  rw [e]
  omega
end Go.Proofs.YthboapfbgdcdoaaDoor
namespace Go.Proofs.YthboapfbgdcdoaaDoor
open Go.ChangeShapes Go.WideShapes Go.ChangeAt Go.RowKit
set_option linter.unusedVariables false

/-- the bytes zs lie in w from a on -/
def Lies (w : World) (a : Option Addr) (zs : List Int) : Prop :=
  AreBytes zs ∧ (zs = [] ∨ ∃ b off, a = some ⟨b, off, none⟩ ∧ ∀ i, i < zs.length → w.cell? ⟨b, off + i, none⟩ = some (.int .u8 (zs.getD i 0)))

def getE (zs : List Int) (at' width : Int) : Int :=
  if isW width = false ∨ at' < 0 ∨ (zs.length : Int) < at' then 1 else if (zs.length : Int) - at' < width then 10 else 0
def getN (zs : List Int) (at' width : Int) : Int :=
  if getE zs at' width = 0 then leN ((zs.drop at'.toNat).take width.toNat) else 0

theorem isW_cases {n : Int} (h : isW n = true) : n = 1 ∨ n = 2 ∨ n = 4 := by
  simp [isW] at h
  omega

end Go.Proofs.YthboapfbgdcdoaaDoor

/- Contracts of octet.Get and of the document's Get, and of the runs that every statement of this stage asks: what they answer of bytes that lie in memory. -/
import Derived.Test.YthboapfbgdcdoaaDoorOBase
import Derived.Test.YthboapfbgdcdoaaDoorOMath
namespace Go.Proofs.YthboapfbgdcdoaaDoor
open Go.ChangeShapes Go.WideShapes Go.ChangeAt Go.RowKit
set_option linter.unusedVariables false

/-- the bytes zs lie in w from a on -/
def Lies (w : World) (a : Option Addr) (zs : List Int) : Prop :=
  AreBytes zs ∧ (zs = [] ∨ ∃ b off, a = some ⟨b, off, none⟩ ∧ ∀ i, i < zs.length → w.cell? ⟨b, off + i, none⟩ = some (.int .u8 (zs.getD i 0)))

def getE (zs : List Int) (at' width : Int) : Int :=
  if isW width = false ∨ at' < 0 ∨ (zs.length : Int) < at' then 1 else if (zs.length : Int) - at' < width then 10 else 0
def getN (zs : List Int) (at' width : Int) : Int :=
  if getE zs at' width = 0 then leN ((zs.drop at'.toNat).take width.toNat) else 0

theorem isW_cases {n : Int} (h : isW n = true) : n = 1 ∨ n = 2 ∨ n = 4 := by
  simp [isW] at h
  omega

end Go.Proofs.YthboapfbgdcdoaaDoor

/- What a line is, as a function on its tokens. -/
import Derived.Test.YtdmhdhmclcogoaaSpec2
namespace Go.Proofs.Ytdmhdhmclcogoaa
set_option linter.unusedVariables false

/-- a line: its label, its operation, its arguments -/
structure Ln where
  label : List UInt8
  op : List UInt8
  args : List (List Tok)

/-- is a token this sign? -/
def isS (t : Tok) (c : UInt8) : Bool := decide (t.kind = 3) && decide (t.text = [c])

/-- arguments, one token after the other: arg grows, acc is done -/
def argsF (e : Nat) : List Tok → List Tok → List (List Tok) → Except Nat (List (List Tok))
  | [], arg, acc => if arg.length = 0 then .error e else .ok (acc ++ [arg])
  | t :: ts, arg, acc =>
    if isS t 58 = true then .error t.place
    else if isS t 44 = true then (if arg.length = 0 then .error t.place else argsF e ts [] (acc ++ [arg]))
    else argsF e ts (arg ++ [t]) acc

def argsT (e : Nat) (ts : List Tok) : Except Nat (List (List Tok)) := if ts.length = 0 then .ok [] else argsF e ts [] []

/-- the label, and the tokens behind it -/
def cutT (ts : List Tok) : List UInt8 × List Tok :=
  match ts with
  | t :: u :: r => if t.kind = 1 ∧ isS u 58 = true then (t.text, r) else ([], t :: u :: r)
  | ts => ([], ts)

def lineT (n : Nat) (label : List UInt8) (ts : List Tok) : Except Nat Ln :=
  match ts with
  | [] => .ok ⟨label, [], []⟩
  | t :: r => if t.kind = 1 then
      match argsT n r with
      | .ok xs => .ok ⟨label, t.text, xs⟩
      | .error p => .error p
    else .error t.place

def parseT (n : Nat) (ts : List Tok) : Except Nat Ln := lineT n (cutT ts).1 (cutT ts).2

def parseL (s : List UInt8) : Except Nat Ln :=
  match scan s 0 with
  | .error p => .error p
  | .ok ts => parseT s.length ts

theorem argsF_sign (e : Nat) (t : Tok) (ts arg : List Tok) (acc : List (List Tok)) (h : isS t 58 = true) : argsF e (t :: ts) arg acc = .error t.place := by
  rw [argsF, if_pos h]
theorem argsF_empty (e : Nat) (t : Tok) (ts arg : List Tok) (acc : List (List Tok)) (h : isS t 58 = false) (hc : isS t 44 = true) (h0 : arg.length = 0) : argsF e (t :: ts) arg acc = .error t.place := by
  rw [argsF, if_neg (by rw [h]; decide), if_pos hc, if_pos h0]
theorem argsF_comma (e : Nat) (t : Tok) (ts arg : List Tok) (acc : List (List Tok)) (h : isS t 58 = false) (hc : isS t 44 = true) (h0 : arg.length ≠ 0) : argsF e (t :: ts) arg acc = argsF e ts [] (acc ++ [arg]) := by
  rw [argsF, if_neg (by rw [h]; decide), if_pos hc, if_neg h0]
theorem argsF_more (e : Nat) (t : Tok) (ts arg : List Tok) (acc : List (List Tok)) (h : isS t 58 = false) (hc : isS t 44 = false) : argsF e (t :: ts) arg acc = argsF e ts (arg ++ [t]) acc := by
  rw [argsF, if_neg (by rw [h]; decide), if_neg (by rw [hc]; decide)]

theorem isS_kind (t : Tok) (c : UInt8) (h : t.kind ≠ 3) : isS t c = false := by simp [isS, h]
theorem isS_text (t : Tok) (c : UInt8) (h : t.kind = 3) : isS t c = decide (t.text = [c]) := by simp [isS, h]
end Go.Proofs.Ytdmhdhmclcogoaa

/- What layer lex makes of a source, as plain functions on lists of bytes. Conditions: none. -/
import GoSem.Op.String
namespace Go.Proofs.Ytgligmdkikbdoaa.Lx
abbrev Bytes := List UInt8

def blankB (c : UInt8) : Bool := c == 32 || c == 9 || c == 10 || c == 13
def digitB (c : UInt8) : Bool := 48 ≤ c && c ≤ 57
def ofNameB (c : UInt8) : Bool := 97 ≤ c && c ≤ 122 || c == 95 || digitB c

/-- The words of the language. -/
def words : List Bytes := [[97, 110, 100], [97, 115, 115, 117, 109, 101], [98, 111, 111, 108], [99, 111, 110, 116, 114, 97, 99, 116], [100, 105, 118], [101, 108, 115, 101], [101, 110, 100], [101, 110, 115, 117, 114, 101], [102, 97, 108, 108, 98, 97, 99, 107], [102, 97, 108, 115, 101], [103, 104, 111, 115, 116], [103, 117, 97, 114, 97, 110, 116, 101, 101], [104, 105, 115, 116], [105, 102], [105, 109, 112, 111, 114, 116], [105, 110, 116], [108, 101, 116], [109, 97, 105, 110], [109, 111, 100], [109, 111, 100, 101], [110, 111, 100, 101], [110, 111, 116], [111, 110, 99, 101], [111, 114], [112, 114, 101], [112, 114, 101, 118], [114, 101, 113, 117, 105, 114, 101], [114, 101, 116, 117, 114, 110, 115], [115, 105, 110, 99, 101], [116, 101, 108], [116, 104, 101, 110], [116, 114, 117, 101], [118, 97, 114], [119, 105, 116, 104, 105, 110], [120, 111, 114]]
def wordB (l : Bytes) : Bool := words.contains l
def nameB (l : Bytes) : Bool := !l.isEmpty && l.length ≤ 40 && !digitB (l.headD 0) && !wordB l && l.all ofNameB

/-- How many bytes are passed ahead of a token; 'true': inside a remark. -/
def skip : Bool → Bytes → Nat
  | _, [] => 0
  | true, c :: r => if c = 10 then 1 + skip false r else 1 + skip true r
  | false, c :: r => if blankB c then 1 + skip false r else if c = 45 ∧ r.head? = some 45 then 1 + skip true r else 0

def signs2 : List Bytes := [[45, 62], [61, 62], [60, 61], [62, 61], [60, 62]]
def signs1 : Bytes := [61, 60, 62, 43, 45, 42, 40, 41, 44, 59, 58]
/-- The longest sign with which a text begins. -/
def signOf (l : Bytes) : Bytes := if signs2.contains (l.take 2) then l.take 2 else if signs1.contains (l.headD 0) then l.take 1 else []

def greatest : Bytes := [50, 49, 52, 55, 52, 56, 51, 54, 52, 55]
def gtB (l : Bytes) : Bool := !(Op.bytesLess l greatest || l == greatest)
/-- Of a row of digits: its kind, or its error. -/
def digM (l : Bytes) : Int × Int :=
  if 1 < l.length ∧ l.headD 0 = 48 ∨ 10 < l.length then (0, 2) else if l.length = 10 ∧ gtB l = true then (0, 2) else (2, 0)
def letM (l : Bytes) : Int × Int := if wordB l then (3, 0) else if nameB l then (1, 0) else (0, 5)
def sigM (l : Bytes) : Int × Int := if l = [] then (0, 5) else (4, 0)

structure Tok where
  kind : Int
  text : Bytes
  at_ : Nat
deriving DecidableEq

/-- The text of the token with which a text begins, its kind, its error. -/
def one (l : Bytes) : Bytes × Int × Int :=
  if digitB (l.headD 0) then (l.takeWhile digitB, digM (l.takeWhile digitB))
  else if ofNameB (l.headD 0) then (l.takeWhile ofNameB, letM (l.takeWhile ofNameB))
  else (signOf l, sigM (signOf l))

inductive Res where
  | ok (l : List Tok)
  | bad (code at_ : Int)
deriving DecidableEq

def Res.cons (t : Tok) : Res → Res
  | .ok l => .ok (t :: l)
  | .bad c a => .bad c a
def Res.glue (acc : List Tok) : Res → Res
  | .ok l => .ok (acc ++ l)
  | .bad c a => .bad c a
def Res.toks : Res → List Tok
  | .ok l => l
  | .bad _ _ => []
def Res.code : Res → Int
  | .ok _ => 0
  | .bad c _ => c
def Res.at_ : Res → Int
  | .ok _ => 0
  | .bad _ a => a

theorem Res.glue_cons (acc : List Tok) (t : Tok) (r : Res) : Res.glue acc (Res.cons t r) = Res.glue (acc ++ [t]) r := by
  cases r <;> simp [Res.glue, Res.cons]

/-- The tokens of a text that begins with one, at a place of the source. -/
def lexF : Nat → Bytes → Nat → Res
  | 0, _, _ => .ok []
  | _ + 1, [], _ => .ok []
  | f + 1, c :: r, p =>
    if (one (c :: r)).2.2 ≠ 0 then .bad (one (c :: r)).2.2 p
    else Res.cons ⟨(one (c :: r)).2.1, (one (c :: r)).1, p⟩
      (lexF f (((c :: r).drop (one (c :: r)).1.length).drop (skip false ((c :: r).drop (one (c :: r)).1.length))) (p + (one (c :: r)).1.length + skip false ((c :: r).drop (one (c :: r)).1.length)))

def lexM (l : Bytes) : Res := if 100000 < l.length then .bad 7 (-1) else lexF (l.length + 1) (l.drop (skip false l)) (skip false l)
end Go.Proofs.Ytgligmdkikbdoaa.Lx

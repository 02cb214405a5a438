/- The texts that the document writes, piece by piece, are those of the tokens. Conditions: none. -/
import Derived.Test.YtgohhnbdicdenaaGreatDoorPq16
import Derived.Test.YtgohhnbdicdenaaGreatDoorPq15
import Derived.Test.YtgohhnbdicdenaaGreatDoorPk07
import Derived.Test.YtgohhnbdicdenaaGreatDoorPq19
import Derived.Laws.IdiomStrings
namespace Go.Proofs.YtgohhnbdicdenaaGreatDoor.Sh
open Go.Proofs.YtgohhnbdicdenaaGreatDoor.Tr Go.Proofs.YtgohhnbdicdenaaGreatDoor.Ex
set_option linter.unusedVariables false
set_option linter.unusedSimpArgs false

/-- The text of tokens. -/
def jT (l : List KT) : Bytes := Lx.joinM (l.map tokOf)
theorem jT_one (x : KT) : jT [x] = x.2 := by unfold jT; rw [List.map_cons, List.map_nil, Lx.joinM_one]; rfl
theorem jT_cons (x : KT) {l : List KT} (h : l ≠ []) : jT (x :: l) = x.2 ++ 32 :: jT l := by
  cases l with
  | nil => exact absurd rfl h
  | cons y r => unfold jT; rw [List.map_cons, List.map_cons, Lx.joinM_more]; rfl
theorem jT_app {a b : List KT} (ha : a ≠ []) (hb : b ≠ []) : jT (a ++ b) = jT a ++ 32 :: jT b := by
  induction a with
  | nil => exact absurd rfl ha
  | cons x r ih =>
    cases r with
    | nil => rw [jT_one]; exact jT_cons x hb
    | cons y r =>
      rw [List.cons_append, jT_cons x (by simp), jT_cons x (by simp), ih (by simp), List.append_assoc, List.cons_append]
theorem toksN (t : T) : toks t ≠ [] := by
  induction t with
  | l0 x => simp only [toks]; split <;> (try split) <;> (try split) <;> simp
  | l1 x p ih => simp only [toks]; split <;> (try split) <;> simp [ih]
  | l2 x p q ih1 ih2 => simp only [toks]; split <;> simp
  | l3 x a b c _ _ _ => simp [toks]
theorem surN {b : Bool} {l : List KT} (h : l ≠ []) : sur b l ≠ [] := by unfold sur; split <;> simp [h]
theorem textT_j (t : T) : textT t = jT (toks t) := rfl
/-- The text of a part. -/
def partB (a : Int) (t : T) : Bytes := if levM t.lab.op < a then [40, 32] ++ textT t ++ [32, 41] else textT t
theorem partB_j (a : Int) (t : T) : jT (partT a t) = partB a t := by
  unfold partB partT sur
  by_cases h : levM t.lab.op < a
  · rw [if_pos h, decide_eq_true h, if_pos rfl, jT_cons _ (by simp), jT_app (toksN t) (by simp), jT_one, textT_j]
    simp [tLp, tRp]
  · rw [if_neg h, decide_eq_false h]; rfl
theorem partN (a : Int) (t : T) : partT a t ≠ [] := surN (toksN t)
theorem text_un {x : Lab} {p : T} (h25 : x.op ≠ 25) (h27 : x.op ≠ 27) (h28 : x.op ≠ 28) : textT (.l1 x p) = opText x.op ++ [32] ++ partB 9 p := by
  rw [textT_j]
  have : toks (.l1 x p) = kd (opText x.op) :: partT 9 p := by simp [toks, h25, h27, h28, partT]
  rw [this, jT_cons _ (partN _ _), partB_j]; simp [kd]
theorem text_within {x : Lab} {p : T} (h25 : x.op = 25) : textT (.l1 x p) = [119, 105, 116, 104, 105, 110, 32] ++ digs x.n.toNat ++ [32] ++ partB 9 p := by
  rw [textT_j]
  have : toks (.l1 x p) = kd (opText 25) :: numT x.n :: partT 9 p := by simp [toks, h25, partT]
  rw [this, jT_cons _ (by simp), jT_cons _ (partN _ _), partB_j]; simp [kd, numT, opText, opTexts]
theorem text_bin {x : Lab} {p q : T} (h28 : x.op ≠ 28) : textT (.l2 x p q) = partB (leftOf (levM x.op)) p ++ [32] ++ opText x.op ++ [32] ++ partB (rightOf (levM x.op)) q := by
  rw [textT_j]
  have : toks (.l2 x p q) = partT (leftOf (levM x.op)) p ++ kd (opText x.op) :: partT (rightOf (levM x.op)) q := by simp [toks, h28, partT]
  rw [this, jT_app (partN _ _) (by simp), jT_cons _ (partN _ _), partB_j, partB_j]; simp [kd]
theorem text_if (x : Lab) (a b c : T) : textT (.l3 x a b c) = [105, 102, 32] ++ textT a ++ [32, 116, 104, 101, 110, 32] ++ textT b ++ [32, 101, 108, 115, 101, 32] ++ textT c := by
  rw [textT_j]
  show jT (tIf :: (toks a ++ tThen :: (toks b ++ tElse :: toks c))) = _
  rw [jT_cons _ (by simp), jT_app (toksN a) (by simp), jT_cons _ (by simp), jT_app (toksN b) (by simp), jT_cons _ (toksN c)]
  simp [tIf, tThen, tElse, textT_j]
/-- The texts of an Args' operands, the last one first. -/
def argTs : T → List Bytes
  | .l1 _ p => [textT p]
  | .l2 _ p q => textT q :: argTs p
  | _ => []
/-- What a call's text is put together to, from the first operand on. -/
def callF (s : Bytes) : List Bytes → Bytes
  | [] => s
  | [a] => s ++ [32] ++ a
  | a :: r => (callF s r) ++ [32, 44] ++ [32] ++ a
theorem callF_args (s : Bytes) : ∀ t : T, t.okB = true → t.lab.op = 28 → argTs t ≠ [] ∧ callF s (argTs t) = s ++ [32] ++ jT (toks t)
  | .l0 x, h, ho => by simp [T.okB, fitsB, T.lab, unaryB] at h ho; simp [ho] at h
  | .l1 x p, h, ho => by
    have ho' : x.op = 28 := ho
    refine ⟨by simp [argTs], ?_⟩
    simp [argTs, callF, toks, ho', textT_j]
  | .l2 x p q, h, ho => by
    have ho' : x.op = 28 := ho
    simp only [T.okB, Bool.and_eq_true, argsT, List.map_cons, List.map_nil, argsL, ho'] at h
    have hp28 : p.lab.op = 28 := by simpa using h.1.1.2.1
    obtain ⟨h1, h2⟩ := callF_args s p h.1.2 hp28
    have ht : toks (.l2 x p q) = toks p ++ tCo :: toks q := by simp [toks, ho']
    refine ⟨by simp [argTs], ?_⟩
    rw [ht, jT_app (toksN p) (by simp), jT_cons _ (toksN q)]
    show callF s (textT q :: argTs p) = _
    cases hA : argTs p with
    | nil => exact absurd hA h1
    | cons a r =>
      show callF s (a :: r) ++ [32, 44] ++ [32] ++ textT q = _
      rw [← hA, h2]
      simp [tCo, textT_j]
  | .l3 x a b c, h, ho => by
    simp only [T.okB, Bool.and_eq_true, T.kids, List.length_cons, List.length_nil] at h
    have ho' : x.op = 28 := ho
    exfalso
    have := h.1.1.1.1.2
    rw [ho'] at this
    exact absurd this (by decide)
theorem text_call0 {x : Lab} (h : x.op = 27) : textT (.l0 x) = x.name ++ [32, 40, 32, 41] := by
  rw [textT_j]
  have : toks (.l0 x) = [nameT x.name, tLp, tRp] := by simp [toks, h]
  rw [this, jT_cons _ (by simp), jT_cons _ (by simp), jT_one]; simp [nameT, tLp, tRp]
theorem text_call {x : Lab} {p : T} (h : x.op = 27) (hp : p.okB = true) (hp28 : p.lab.op = 28) : textT (.l1 x p) = callF (x.name ++ [32, 40]) (argTs p) ++ [32, 41] := by
  rw [textT_j]
  have : toks (.l1 x p) = nameT x.name :: tLp :: (toks p ++ [tRp]) := by simp [toks, h]
  rw [this, jT_cons _ (by simp), jT_cons _ (by simp), jT_app (toksN p) (by simp), jT_one, (callF_args _ p hp hp28).2]
  simp [nameT, tLp, tRp]
end Go.Proofs.YtgohhnbdicdenaaGreatDoor.Sh

/- The document's answers Op, Level, Digits, May for layer show. Conditions: the slice reads as a list of nodes; a number is not below 0. -/
namespace Go.Proofs.YtgohhnbdicdenaaGreatDoor.Sh
open Go.ChangeShapes Go.WideShapes Go.ChangeAt Go.RowKit
open Go.Proofs.YtgohhnbdicdenaaGreatDoor.Tr (str ret_bool ret_int Bytes Nd T Nodes May mayB Short root)
set_option linter.unusedVariables false
set_option linter.unusedSimpArgs false

def opArr : Array Value := #[.string ⟨#[]⟩, .string ⟨#[]⟩, .string ⟨#[]⟩, .string ⟨#[]⟩, .string ⟨#[110, 111, 116]⟩, .string ⟨#[45]⟩, .string ⟨#[97, 110, 100]⟩, .string ⟨#[111, 114]⟩, .string ⟨#[120, 111, 114]⟩, .string ⟨#[61, 62]⟩, .string ⟨#[61]⟩, .string ⟨#[60, 62]⟩, .string ⟨#[60]⟩, .string ⟨#[60, 61]⟩, .string ⟨#[43]⟩, .string ⟨#[45]⟩, .string ⟨#[42]⟩, .string ⟨#[100, 105, 118]⟩, .string ⟨#[109, 111, 100]⟩, .string ⟨#[45, 62]⟩, .string ⟨#[115, 105, 110, 99, 101]⟩, .string ⟨#[112, 114, 101]⟩, .string ⟨#[111, 110, 99, 101]⟩, .string ⟨#[104, 105, 115, 116]⟩, .string ⟨#[112, 114, 101, 118]⟩, .string ⟨#[119, 105, 116, 104, 105, 110]⟩, .string ⟨#[105, 102]⟩]
def lvArr : Array Value := #[.int .i64 (-1), .int .i64 10, .int .i64 10, .int .i64 10, .int .i64 9, .int .i64 9, .int .i64 5, .int .i64 4, .int .i64 4, .int .i64 2, .int .i64 6, .int .i64 6, .int .i64 6, .int .i64 6, .int .i64 7, .int .i64 7, .int .i64 8, .int .i64 8, .int .i64 8, .int .i64 1, .int .i64 3, .int .i64 9, .int .i64 9, .int .i64 9, .int .i64 9, .int .i64 9, .int .i64 0, .int .i64 10]
theorem opArr_eq : opArr = (opTexts.map (fun s => Value.string (str s))).toArray := by rfl
theorem lvArr_eq : lvArr = (levels.map (fun s => Value.int .i64 s)).toArray := by rfl
theorem opArr_at {k : Nat} (hk : k < 27) : opArr[k]? = some (.string (str (opText (k : Int)))) := by
  rw [opArr_eq]
  have hl : opTexts.length = 27 := rfl
  simp only [List.getElem?_toArray, List.getElem?_map]
  unfold opText
  rw [if_neg (by omega), Int.toNat_natCast, List.getElem?_eq_getElem (by omega)]
  rfl
theorem lvArr_at {k : Nat} (hk : k < 28) : lvArr[k]? = some (.int .i64 (levM (k : Int))) := by
  rw [lvArr_eq]
  have hl : levels.length = 28 := rfl
  simp only [List.getElem?_toArray, List.getElem?_map]
  unfold levM
  rw [if_neg (by omega), Int.toNat_natCast, List.getElem?_eq_getElem (by omega)]
  rfl
set_option maxRecDepth 100000 in
set_option maxHeartbeats 1600000 in
theorem rop_any (o : Int) (w : World) : Calls Tryz.prog 15 #[.int .i64 o] w fun e w' => e = .returned (.string (str (opText o))) ∧ Below w.heap.size w w' := by
  by_cases h : o < 0 ∨ 27 ≤ o
  · have e1 : opText o = [] := by
      unfold opText
      rcases h with h | h
      · rw [if_pos h]
      · have h1 : opTexts[o.toNat]? = none := List.getElem?_eq_none (by show 27 ≤ _; omega)
        have h0 : ¬ o < 0 := by omega
        rw [if_neg h0, h1]; rfl
    rw [e1]
    clear e1
    by_cases h1 : o < 0
    · go_enter Tryz.func15, Tryz.ntmps15
      go_wp2
      go_ret
      exact ⟨rfl, Tr.below_new _ _⟩
    · have h2 : (27 : Int) ≤ o := by omega
      go_enter Tryz.func15, Tryz.ntmps15
      go_wp2
      go_ret
      exact ⟨rfl, Tr.below_new _ _⟩
  · obtain ⟨k, rfl⟩ : ∃ k : Nat, o = (k : Int) := ⟨o.toNat, by omega⟩
    have hk : k < 27 := by omega
    have hc : (w.alloc (.cells opArr 9)).cell? ⟨w.heap.size, k, none⟩ = some (.string (str (opText (k : Int)))) := by
      rw [World.cell?_alloc_new]; exact opArr_at hk
    unfold opArr at hc
    obtain ⟨s0, hs0⟩ : ∃ s, opText (k : Int) = s := ⟨_, rfl⟩
    rw [hs0] at hc ⊢
    have hk2 : ¬ (27 : Int) ≤ (k : Int) := by omega
    clear h hs0
    go_enter Tryz.func15, Tryz.ntmps15
    go_wp2
    go_ret
    exact ⟨rfl, Tr.below_new _ _⟩
end Go.Proofs.YtgohhnbdicdenaaGreatDoor.Sh

/- The document's answers Level, Digits, May for layer show. Conditions: the slice reads as a list of nodes; a number is not below 0. -/
namespace Go.Proofs.YtgohhnbdicdenaaGreatDoor.Sh
open Go.ChangeShapes Go.WideShapes Go.ChangeAt Go.RowKit
open Go.Proofs.YtgohhnbdicdenaaGreatDoor.Tr (str ret_bool ret_int Bytes Nd T Nodes May mayB Short root)
set_option linter.unusedVariables false
set_option linter.unusedSimpArgs false

set_option maxRecDepth 100000 in
set_option maxHeartbeats 1600000 in
theorem rlevel_any (o : Int) (w : World) : Calls Tryz.prog 17 #[.int .i64 o] w fun e w' => e = .returned (.int .i64 (levM o)) ∧ Below w.heap.size w w' := by
  by_cases h : o < 0 ∨ 28 ≤ o
  · have e1 : levM o = -1 := by
      unfold levM
      rcases h with h | h
      · rw [if_pos h]
      · have h1 : levels[o.toNat]? = none := List.getElem?_eq_none (by show 28 ≤ _; omega)
        have h0 : ¬ o < 0 := by omega
        rw [if_neg h0, h1]; rfl
    rw [e1]
    clear e1
    by_cases h1 : o < 0
    · go_enter Tryz.func17, Tryz.ntmps17
      go_wp2
      go_ret
      exact ⟨rfl, Tr.below_new _ _⟩
    · have h2 : (28 : Int) ≤ o := by omega
      go_enter Tryz.func17, Tryz.ntmps17
      go_wp2
      go_ret
      exact ⟨rfl, Tr.below_new _ _⟩
  · obtain ⟨k, rfl⟩ : ∃ k : Nat, o = (k : Int) := ⟨o.toNat, by omega⟩
    have hk : k < 28 := by omega
    have hc : (w.alloc (.cells lvArr 3)).cell? ⟨w.heap.size, k, none⟩ = some (.int .i64 (levM (k : Int))) := by
      rw [World.cell?_alloc_new]; exact lvArr_at hk
    unfold lvArr at hc
    obtain ⟨s0, hs0⟩ : ∃ s, levM (k : Int) = s := ⟨_, rfl⟩
    rw [hs0] at hc ⊢
    have hk2 : ¬ (28 : Int) ≤ (k : Int) := by omega
    clear h hs0
    go_enter Tryz.func17, Tryz.ntmps17
    go_wp2
    go_ret
    exact ⟨rfl, Tr.below_new _ _⟩
theorem app_str (x y : Bytes) : str x ++ str y = str (x ++ y) := by
  apply Tr.ext_toList
  rw [Lx.app_toList, Tr.str_toList, Tr.str_toList, Tr.str_toList]
theorem ret_app (x y : Bytes) : Ending.returned (.string (str x ++ str y)) = .returned (.string (str (x ++ y))) := by rw [app_str]
theorem add_two (x y : Bytes) (w : World) (h : x.length + y.length ≤ 1000000) : (binOp .add 9 (.string (str x)) (.string (str y))).run Tryz.prog w = .ok (.string (str (x ++ y))) w := by
  have h2 : (str x).size + (str y).size ≤ 9223372036854775807 := by rw [Tr.str_size, Tr.str_size]; omega
  have e : str x ++ str y = str (x ++ y) := by
    apply Tr.ext_toList
    rw [Lx.app_toList, Tr.str_toList, Tr.str_toList, Tr.str_toList]
  simp [go_sem, h2, e]
theorem digs_len10 (n : Nat) (h : n ≤ 2147483647) : (digs n).length ≤ 10 := digs_len n h
set_option maxRecDepth 100000 in
set_option maxHeartbeats 400000 in
theorem rdigits_any : ∀ (n : Nat), n ≤ 2147483647 → ∀ w : World, Calls Tryz.prog 43 #[.int .i64 (n : Int)] w fun e w' => e = .returned (.string (str (digs n))) ∧ Below w.heap.size w w' := by
  intro n
  induction n using Nat.strongRecOn with
  | ind n ih =>
    intro hn w
    have hr : Int.tmod (n : Int) 10 = ((n % 10 : Nat) : Int) := by rw [Int.tmod_eq_emod_of_nonneg (by omega)]; omega
    have hq : Int.tdiv (n : Int) 10 = ((n / 10 : Nat) : Int) := by rw [Int.tdiv_eq_ediv_of_nonneg (by omega)]; omega
    obtain ⟨m, hm⟩ : ∃ m, n % 10 = m := ⟨_, rfl⟩
    have hm10 : m < 10 := by omega
    rw [hm] at hr
    have hw1 : wrap64 (48 + (m : Int)) = 48 + (m : Int) := by unfold wrap64; omega
    have hbt : (((48 + m).toUInt8).toNat : Int) = 48 + (m : Int) := by
      have : ((48 + m).toUInt8).toNat = (48 + m) % 256 := rfl
      omega
    have hcv := run_convert_bytes_back (P := Tryz.prog) (w.alloc (.cells #[.int .u8 (48 + (m : Int))] 5)) 113 9 5 ⟨w.heap.size, 0, none⟩ 1 [(48 + m).toUInt8] Tryz.underlying113 Tryz.underlying5 Tryz.underlying9 (fun j hj => by
      have : j = 0 := by simpa using hj
      subst this
      show _ = some (Value.int .u8 (((48 + m).toUInt8).toNat : Int))
      rw [hbt]
      have e0 : ((⟨w.heap.size, 0, none⟩ : Addr).add 0) = ⟨w.heap.size, 0, none⟩ := by unfold Addr.add; split <;> simp_all
      rw [e0, World.cell?_alloc_new]; rfl)
    rw [List.length_singleton] at hcv
    have hcv2 : (convert 113 9 (.slice (some ⟨w.heap.size, 0, none⟩) 1 1)).run Tryz.prog (w.alloc (.cells #[.int .u8 (48 + (m : Int))] 5)) = .ok (.string (str [(48 + m).toUInt8])) (w.alloc (.cells #[.int .u8 (48 + (m : Int))] 5)) := hcv
    obtain ⟨c, hc⟩ : ∃ c, (48 + m).toUInt8 = c := ⟨_, rfl⟩
    rw [hc] at hcv2
    clear hcv hbt
    by_cases h : n < 10
    · have HD := Lib.hid (show digs n = [c] by rw [digs_lt h, ← hc, ← hm, Nat.mod_eq_of_lt h])
      rw [HD.out]
      have hd10 : ¬ (10 : Int) ≤ (n : Int) := by omega
      clear ih hm hc hq
      go_enter Tryz.func43, Tryz.ntmps43
      go_wp2
      go_ret
      exact ⟨rfl, Tr.below_new _ _⟩
    · have HD := Lib.hid (show digs n = digs (n / 10) ++ [c] by rw [digs_ge h, ← hc, hm])
      rw [HD.out]
      have hd10 : (10 : Int) ≤ (n : Int) := by omega
      have HR : Hid (∀ w1, Calls Tryz.prog 43 #[.int .i64 ((n / 10 : Nat) : Int)] w1 fun e w' => e = .returned (.string (str (digs (n / 10)))) ∧ Below w1.heap.size w1 w') := Lib.hid (fun w1 => ih (n / 10) (by omega) (by omega) w1)
      have hlen := digs_len (n / 10) (by omega)
      obtain ⟨D, hD⟩ : ∃ D, digs (n / 10) = D := ⟨_, rfl⟩
      rw [hD] at HR hlen ⊢
      have hadd : ∀ w1, (binOp .add 9 (.string (str D)) (.string (str [c]))).run Tryz.prog w1 = .ok (.string (str (D ++ [c]))) w1 := fun w1 => add_two D [c] w1 (by simp; omega)
      have hsz : (str D).size + (str [c]).size ≤ 9223372036854775807 := by rw [Tr.str_size, Tr.str_size]; simp; omega
      obtain ⟨k, hk⟩ : ∃ k, n / 10 = k := ⟨_, rfl⟩
      have hw2 : wrap64 (k : Int) = (k : Int) := by unfold wrap64; omega
      rw [hk] at HR hq
      clear ih hm hc hD hk
      go_enter Tryz.func43, Tryz.ntmps43
      go_wp2_with fail
      refine (HR.out _).mono ?_
      rintro r w1 ⟨rfl, hb1⟩
      have HB1 := Lib.hid hb1
      clear hb1
      go_wp2
      go_ret
      exact ⟨ret_app _ _, (Tr.below_new _ _).trans (HB1.out.mono (Tr.below_new w _).size)⟩
end Go.Proofs.YtgohhnbdicdenaaGreatDoor.Sh

/- The document's answer May for layer show. Conditions: the slice reads as a list of nodes. -/
namespace Go.Proofs.YtgohhnbdicdenaaGreatDoor.Sh
open Go.ChangeShapes Go.WideShapes Go.ChangeAt Go.RowKit
open Go.Proofs.YtgohhnbdicdenaaGreatDoor.Tr (str ret_bool ret_int Bytes Nd T Nodes May mayB Short root)
set_option linter.unusedVariables false
set_option linter.unusedSimpArgs false

set_option maxRecDepth 100000 in
set_option maxHeartbeats 1600000 in
theorem rsmay_any (v : Value) (e : List Nd) (w : World) (hv : Nodes w v e) (hs : Short e) :
    Calls Tryz.prog 13 #[v] w fun r w' => r = .returned (.bool (smayB e)) ∧ Below w.heap.size w w' := by
  have HM := Lib.hid (Tr.rmay_any v e w hv)
  rcases Bool.eq_false_or_eq_true (mayB e) with hm | hm
  rotate_left
  · rw [hm] at HM
    have HE := Lib.hid (show smayB e = false by unfold smayB; rw [hm, Bool.and_false])
    rw [HE.out]
    obtain ⟨A, c, rfl, h1, h2, hA⟩ := hv
    unfold maxLen at h2
    clear hA hs hm
    go_enter Tryz.func13, Tryz.ntmps13
    go_wp2_with fail
    refine HM.out.mono ?_
    rintro r w1 ⟨rfl, hb1⟩
    have HB1 := Lib.hid hb1
    clear hb1
    go_wp2
    go_ret
    exact ⟨rfl, HB1.out⟩
  · have hmay := Tr.may_of hm
    rw [hm] at HM
    have HP : Hid (∀ (i : Nat) (x : Nd), e[i]? = some x → showB x = nmB x.name) := Lib.hid (fun i x hx => showB_eq (hmay.node i x hx).plain)
    obtain ⟨A, c, rfl, h1, h2, hA⟩ := hv
    unfold maxLen at h2
    have HA := Lib.hid hA
    have HS := Lib.hid hs
    have HMB := Lib.hid hm
    clear hA hs hm hmay
    go_enter Tryz.func13, Tryz.ntmps13
    go_wp2_with fail
    refine HM.out.mono ?_
    rintro r w1 ⟨rfl, hb1⟩
    have HB1 := Lib.hid hb1
    clear hb1
    go_wp2
    go_loopw [3] (fun i wr => ∃ k : Nat, k ≤ e.length ∧ i = .int .i64 k ∧ (e.take k).all showB = true ∧ Below w.heap.size w wr) (fun i _ => e.length - (intOf i).toNat)
    case atStart => exact ⟨0, Nat.zero_le _, rfl, rfl, HB1.out⟩
    case round =>
      obtain ⟨k, hk, rfl, hall, hb⟩ := hrel
      have HB := Lib.hid hb
      clear hb
      by_cases hlt : k < e.length
      · obtain ⟨x, hx⟩ : ∃ x, e[k]? = some x := ⟨_, List.getElem?_eq_getElem hlt⟩
        obtain ⟨g, o, rfl, hg, a0, a1, a2, a3, a4, a5⟩ := HA.out k x hx
        have b5 := (HB.out.cell (p := ⟨g, o + k * 6 + 5, none⟩) hg).trans a5
        have hgz : g < wr.heap.size := Nat.lt_of_lt_of_le hg HB.out.size
        have hT : (e.take (k + 1)).all showB = showB x := by rw [List.take_add_one, hx, List.all_append, hall]; simp
        have hnm := HP.out k x hx
        have hn40 : x.name.length ≤ maxLen := HS.out x (List.mem_of_getElem? hx)
        have HSM : Hid (showB x = false → smayB e = false) := Lib.hid (fun h => by
          unfold smayB
          have : e.all showB = false := by
            rw [← Bool.not_eq_true, List.all_eq_true]
            intro h3
            have := h3 x (List.mem_of_getElem? hx)
            rw [h] at this; cases this
          rw [this]; rfl)
        have HQ : Hid (Calls Tryz.prog 31 #[.string (str x.name)] wr fun e w' => e = .returned (.bool (Lx.nameB x.name)) ∧ Below wr.heap.size wr w') := Lib.hid (by
          have := Lx.refIsName_any (str x.name) wr (by rw [Tr.str_size]; exact hn40)
          rw [Tr.str_toList] at this
          exact this)
        obtain ⟨op, na, nb, nc, nn, nm⟩ := x
        simp only at b5 hnm HQ
        by_cases h0 : nm = []
        · have he : (str nm).toList.isEmpty = true := by rw [Tr.str_toList, h0]; rfl
          have HW := Lib.hid (hT.trans (hnm.trans (by rw [h0])))
          clear a0 a1 a2 a3 a4 a5 hall hx hT hnm h0 hn40
          go_wp2
          refine ⟨⟨k + 1, by omega, by go_num, HW.out, HB.out⟩, by simp [intOf]; omega⟩
        · have he : (str nm).toList.isEmpty = false := by rw [Tr.str_toList]; cases nm with
            | nil => exact absurd rfl h0
            | cons a r => rfl
          have hnb : nmB nm = Lx.nameB nm := by unfold nmB; simp [h0]
          cases hq : Lx.nameB nm with
          | true =>
            have HW := Lib.hid (hT.trans (hnm.trans (hnb.trans hq)))
            rw [hq] at HQ
            clear a0 a1 a2 a3 a4 a5 hall hx hT hnm h0 hn40 hnb hq
            go_wp2_with fail
            refine HQ.out.mono ?_
            rintro r w2 ⟨rfl, hb2⟩
            have HB2 := Lib.hid (HB.out.trans (hb2.mono HB.out.size))
            clear hb2
            go_wp2
            refine ⟨⟨k + 1, by omega, by go_num, HW.out, HB2.out⟩, by simp [intOf]; omega⟩
          | false =>
            have HF := Lib.hid (HSM.out (hnm.trans (hnb.trans hq)))
            rw [hq] at HQ
            clear a0 a1 a2 a3 a4 a5 hall hx hT hnm h0 hn40 hnb hq
            go_wp2_with fail
            refine HQ.out.mono ?_
            rintro r w2 ⟨rfl, hb2⟩
            have HB2 := Lib.hid (HB.out.trans (hb2.mono HB.out.size))
            clear hb2
            go_wp2
            go_ret
            exact ⟨ret_bool HF.out.symm, HB2.out⟩
      · have hkl : k = e.length := by omega
        subst hkl
        rw [List.take_of_length_le (Nat.le_refl _)] at hall
        have HE := Lib.hid (show smayB e = true by unfold smayB; rw [hall, HMB.out]; rfl)
        clear hall
        go_wp2
        go_ret
        exact ⟨ret_bool HE.out.symm, HB.out⟩
end Go.Proofs.YtgohhnbdicdenaaGreatDoor.Sh

/- The document's text of a part, where its node's is. Conditions: the slice reads as a list of nodes. -/
namespace Go.Proofs.YtgohhnbdicdenaaGreatDoor.Sh
open Go.ChangeShapes Go.WideShapes Go.ChangeAt Go.RowKit
open Go.Proofs.YtgohhnbdicdenaaGreatDoor.Tr (str ret_bool ret_int Bytes Nd T Nodes May tree kidsM mkL mkT fitsB argsL unaryB binaryB ndCells)
set_option linter.unusedVariables false
set_option linter.unusedSimpArgs false

theorem bt {w0 w1 w2 : World} (h1 : Below w0.heap.size w0 w1) (h2 : Below w1.heap.size w1 w2) : Below w0.heap.size w0 w2 := h1.trans (h2.mono h1.size)
theorem ret_wrap (tx : Bytes) : Ending.returned (.string ((⟨#[40, 32]⟩ : ByteArray) ++ str tx ++ ⟨#[32, 41]⟩)) = .returned (.string (str ([40, 32] ++ tx ++ [32, 41]))) := by
  rw [← app_str, ← app_str]; rfl
/-- A node's text is what the document writes. -/
def NodeR (W0 : World) (ev : Value) (e : List Nd) (i : Nat) : Prop := (textT (tree e i)).length ≤ 100000 → ∀ w : World, Below W0.heap.size W0 w →
  Calls Tryz.prog 27 #[ev, .int .i64 (i : Int)] w (fun r w' => r = .returned (.string (str (textT (tree e i)))) ∧ Below w.heap.size w w')
/-- A part's text is what the document writes. -/
def PartR (W0 : World) (ev : Value) (e : List Nd) (i : Nat) : Prop := (textT (tree e i)).length ≤ 100000 → ∀ (w : World) (a : Int), Below W0.heap.size W0 w →
  Calls Tryz.prog 45 #[ev, .int .i64 (i : Int), .int .i64 a] w (fun r w' => r = .returned (.string (str (partB a (tree e i)))) ∧ Below w.heap.size w w')
set_option maxRecDepth 100000 in
set_option maxHeartbeats 1600000 in
theorem rpart_of {W0 : World} {G O C : Nat} {e : List Nd} (cx : Cx W0 G O C e) {i : Nat} {x : Nd} (hx : e[i]? = some x) (hn : NodeR W0 (.slice (some ⟨G, O, none⟩) e.length C) e i) : PartR W0 (.slice (some ⟨G, O, none⟩) e.length C) e i := by
  intro hl w a hw
  have HN := Lib.hid (hn hl)
  have hop : (tree e i).lab.op = x.op := by rw [Tr.tree_lab cx.may.ahead hx]; rfl
  have hi := (List.getElem?_eq_some_iff.1 hx).1
  have hen := cx.may.le
  have CX := Lib.hid cx
  have HX := Lib.hid hx
  generalize htx : textT (tree e i) = tx at hl HN
  have hP : partB a (tree e i) = if levM x.op < a then [40, 32] ++ tx ++ [32, 41] else tx := by unfold partB; rw [hop, htx]
  rw [hP]
  have HLV := Lib.hid (fun w => rlevel_any x.op w)
  obtain ⟨L, hL⟩ : ∃ L, levM x.op = L := ⟨_, rfl⟩
  rw [hL] at HLV ⊢
  have HW := Lib.hid hw
  clear hop hP hL hx cx hw hn htx
  have s1 : 2 + (str tx).size ≤ 9223372036854775807 := by rw [Tr.str_size]; omega
  have s2 : 2 + (str tx).size + 2 ≤ 9223372036854775807 := by rw [Tr.str_size]; omega
  by_cases hB : L < a
  · rw [if_pos hB]
    go_enter Tryz.func45, Tryz.ntmps45
    go_wp2_with fail
    refine (HN.out w HW.out).mono ?_
    rintro r w1 ⟨rfl, hb1⟩
    have HB1 := Lib.hid hb1
    obtain ⟨c0, c1, c2, c3, c4, c5⟩ := CX.out.cells (bt HW.out hb1) HX.out
    clear hb1
    go_wp2_with fail
    refine (HLV.out w1).mono ?_
    rintro r w2 ⟨rfl, hb2⟩
    have HB2 := Lib.hid hb2
    clear hb2 c0 c1 c2 c3 c4 c5
    go_wp2
    go_ret
    exact ⟨ret_wrap tx, bt HB1.out HB2.out⟩
  · rw [if_neg hB]
    go_enter Tryz.func45, Tryz.ntmps45
    go_wp2_with fail
    refine (HN.out w HW.out).mono ?_
    rintro r w1 ⟨rfl, hb1⟩
    have HB1 := Lib.hid hb1
    obtain ⟨c0, c1, c2, c3, c4, c5⟩ := CX.out.cells (bt HW.out hb1) HX.out
    clear hb1
    go_wp2_with fail
    refine (HLV.out w1).mono ?_
    rintro r w2 ⟨rfl, hb2⟩
    have HB2 := Lib.hid hb2
    clear hb2 c0 c1 c2 c3 c4 c5
    go_wp2
    go_ret
    exact ⟨rfl, bt HB1.out HB2.out⟩
end Go.Proofs.YtgohhnbdicdenaaGreatDoor.Sh

/- The document's text of a number, a truth, a name. Conditions: the slice reads as a list of nodes. -/
namespace Go.Proofs.YtgohhnbdicdenaaGreatDoor.Sh
open Go.ChangeShapes Go.WideShapes Go.ChangeAt Go.RowKit
open Go.Proofs.YtgohhnbdicdenaaGreatDoor.Tr (str ret_bool ret_int Bytes Nd T Nodes May tree kidsM mkL mkT fitsB argsL unaryB binaryB ndCells)
set_option linter.unusedVariables false
set_option linter.unusedSimpArgs false

set_option maxRecDepth 100000 in
set_option maxHeartbeats 1600000 in
theorem rnode_num {W0 : World} {G O C : Nat} {e : List Nd} (cx : Cx W0 G O C e) {i : Nat} {x : Nd} (hx : e[i]? = some x) (h1 : x.op = 1) (ht : tree e i = .l0 x.lab) : NodeR W0 (.slice (some ⟨G, O, none⟩) e.length C) e i := by
  intro hl w hw
  have hK : textT (tree e i) = digs x.n.toNat := by rw [ht, textT_j]; simp [toks, Tr.Nd.lab, h1, jT_one, numT]
  rw [hK]
  have hnn := plain_n (cx.may.node i x hx).plain (.inl h1)
  have hi := (List.getElem?_eq_some_iff.1 hx).1
  have hen := cx.may.le
  obtain ⟨k, hk⟩ : ∃ k : Nat, x.n = k := ⟨x.n.toNat, by omega⟩
  obtain ⟨dg, hdg⟩ : ∃ t, digs x.n.toNat = t := ⟨_, rfl⟩
  have HI : Hid (∀ w1, Calls Tryz.prog 43 #[.int .i64 x.n] w1 fun e w' => e = .returned (.string (str dg)) ∧ Below w1.heap.size w1 w') := Lib.hid (fun w1 => by rw [← hdg, hk]; exact rdigits_any k (by omega) w1)
  rw [hdg]
  obtain ⟨a0, a1, a2, a3, a4, a5⟩ := cx.cells hw hx
  obtain ⟨op, na, nb, nc, nn, nm⟩ := x
  simp only at h1 HI a0 a1 a2 a3 a4 a5
  subst h1
  have hbx : BoxAt ((w.alloc (.cells #[.int .i64 1, .int .i64 na, .int .i64 nb, .int .i64 nc, .int .i64 nn, .string (str nm)] 58))) w.heap.size ⟨1, na, nb, nc, nn, nm⟩ := heap_alloc_new w _
  obtain ⟨c0, c1, c2, c3, c4, c5⟩ := hbx.cells
  simp only at c0 c1 c2 c3 c4 c5
  clear hK ht hx cx hw hbx hdg hnn hk hl
  go_enter Tryz.func27, Tryz.ntmps27
  go_wp2_with fail
  refine (HI.out _).mono ?_
  rintro r w1 ⟨rfl, hb1⟩
  have HB1 := Lib.hid hb1
  clear hb1 c0 c1 c2 c3 c4 c5 a0 a1 a2 a3 a4 a5
  go_wp2
  go_ret
  exact ⟨rfl, bt (Tr.below_new _ _) HB1.out⟩
set_option maxRecDepth 100000 in
set_option maxHeartbeats 1600000 in
theorem rnode_var {W0 : World} {G O C : Nat} {e : List Nd} (cx : Cx W0 G O C e) {i : Nat} {x : Nd} (hx : e[i]? = some x) (h1 : x.op = 3) (ht : tree e i = .l0 x.lab) : NodeR W0 (.slice (some ⟨G, O, none⟩) e.length C) e i := by
  intro hl w hw
  have hK : textT (tree e i) = x.name := by rw [ht, textT_j]; simp [toks, Tr.Nd.lab, h1, jT_one, nameT]
  rw [hK]
  have hi := (List.getElem?_eq_some_iff.1 hx).1
  have hen := cx.may.le
  obtain ⟨a0, a1, a2, a3, a4, a5⟩ := cx.cells hw hx
  obtain ⟨op, na, nb, nc, nn, nm⟩ := x
  simp only at h1 a0 a1 a2 a3 a4 a5
  subst h1
  have hbx : BoxAt ((w.alloc (.cells #[.int .i64 3, .int .i64 na, .int .i64 nb, .int .i64 nc, .int .i64 nn, .string (str nm)] 58))) w.heap.size ⟨3, na, nb, nc, nn, nm⟩ := heap_alloc_new w _
  obtain ⟨c0, c1, c2, c3, c4, c5⟩ := hbx.cells
  simp only at c0 c1 c2 c3 c4 c5
  clear hK ht hx cx hw hbx hl
  go_enter Tryz.func27, Tryz.ntmps27
  go_wp2
  go_ret
  exact ⟨rfl, Tr.below_new _ _⟩
set_option maxRecDepth 100000 in
set_option maxHeartbeats 1600000 in
theorem rnode_bool {W0 : World} {G O C : Nat} {e : List Nd} (cx : Cx W0 G O C e) {i : Nat} {x : Nd} (hx : e[i]? = some x) (h1 : x.op = 2) (ht : tree e i = .l0 x.lab) : NodeR W0 (.slice (some ⟨G, O, none⟩) e.length C) e i := by
  intro hl w hw
  have hK : textT (tree e i) = if x.n = 1 then [116, 114, 117, 101] else [102, 97, 108, 115, 101] := by rw [ht, textT_j]; simp [toks, Tr.Nd.lab, h1, jT_one]; split <;> rfl
  rw [hK]
  have hi := (List.getElem?_eq_some_iff.1 hx).1
  have hen := cx.may.le
  obtain ⟨a0, a1, a2, a3, a4, a5⟩ := cx.cells hw hx
  obtain ⟨op, na, nb, nc, nn, nm⟩ := x
  simp only at h1 a0 a1 a2 a3 a4 a5
  subst h1
  have hbx : BoxAt ((w.alloc (.cells #[.int .i64 2, .int .i64 na, .int .i64 nb, .int .i64 nc, .int .i64 nn, .string (str nm)] 58))) w.heap.size ⟨2, na, nb, nc, nn, nm⟩ := heap_alloc_new w _
  obtain ⟨c0, c1, c2, c3, c4, c5⟩ := hbx.cells
  simp only at c0 c1 c2 c3 c4 c5
  clear hK ht hx cx hw hbx hl
  by_cases hb : nn = 1
  · subst hb
    rw [if_pos rfl]
    go_enter Tryz.func27, Tryz.ntmps27
    go_wp2
    go_ret
    exact ⟨rfl, Tr.below_new _ _⟩
  · have hq : (nn == 1) = false := by simpa using hb
    simp only [if_neg hb]
    clear hb
    go_enter Tryz.func27, Tryz.ntmps27
    go_wp2
    go_ret
    exact ⟨rfl, Tr.below_new _ _⟩
end Go.Proofs.YtgohhnbdicdenaaGreatDoor.Sh


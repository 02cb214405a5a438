/- The function live of the statements of layer lex answers true and leaves what was there as it was. Conditions: none. -/
import Derived.Test.YtgligmdkikbdoaaLexH
namespace Go.Proofs.Ytgligmdkikbdoaa.Lx
open Go.ChangeShapes Go.WideShapes Go.ChangeAt Go.RowKit
set_option linter.unusedVariables false

def s1 : Bytes := [97, 45, 62, 112, 114, 101, 32, 98, 32, 45, 45, 32, 120, 10, 49, 50]
def l1 : List Tok := [⟨1, [97], 0⟩, ⟨4, [45, 62], 1⟩, ⟨3, [112, 114, 101], 3⟩, ⟨1, [98], 7⟩, ⟨2, [49, 50], 14⟩]
theorem lexM1 : lexM s1 = .ok l1 := by decide +kernel
theorem lexM2 : lexM [97, 32, 48, 55] = .bad 2 2 := by decide +kernel
theorem lexM3 : lexM [97, 32, 35] = .bad 5 2 := by decide +kernel

/-- What a call of Lex leaves, as a caller reads it. -/
def LexGives (W : World) (l : List Tok) (c a : Int) (e : Ending) (w' : World) : Prop :=
  ∃ v, e = .returned (.tuple #[v, .agg #[.int .i64 c, .int .i64 a]]) ∧ Toks w' v l ∧ Below W.heap.size W w'
theorem LexPost.gives {W : World} {r : Res} {e : Ending} {w' : World} (h : LexPost W r e w') : LexGives W r.toks r.code r.at_ e w' := by
  obtain ⟨v, he, ho, hb⟩ := h
  exact ⟨v, he, Toks.of_own ho, hb⟩
theorem lex_gives (s : ByteArray) (w : World) (h : s.size ≤ maxLen) : Calls Try.prog 24 #[.string s] w (LexGives w (lexM s.toList).toks (lexM s.toList).code (lexM s.toList).at_) :=
  (lex_any s w h).mono fun _ _ h => h.gives
theorem app_toList (a b : ByteArray) : (a ++ b).toList = a.toList ++ b.toList := by
  rw [ByteArray.toList_eq, ByteArray.toList_eq, ByteArray.toList_eq, ByteArray.data_append, Array.toList_append]
theorem below_new (w : World) (o : Obj) : Below w.heap.size w (w.alloc o) := (Below.refl _ _).alloc (Nat.le_refl _) _
theorem below_drewN {B : Nat} {a w : World} (h : Below B a w) (n : Nat) : Below B a (w.drewN n) :=
  h.trans { os := rfl, tape := rfl, output := rfl, size := Nat.le_refl _, block := fun _ _ => rfl }

theorem lex1_any (w : World) : Calls Try.prog 24 #[.string ⟨#[97, 45, 62, 112, 114, 101, 32, 98, 32, 45, 45, 32, 120, 10, 49, 50]⟩] w (LexGives w l1 0 0) := by
  have := lex_gives (str s1) w (by rw [str_size]; unfold maxLen s1; simp)
  rw [str_toList, lexM1] at this; exact this
theorem lex2_any (w : World) : Calls Try.prog 24 #[.string ⟨#[97, 32, 48, 55]⟩] w (LexGives w [] 2 2) := by
  have := lex_gives (str [97, 32, 48, 55]) w (by rw [str_size]; unfold maxLen; simp)
  rw [str_toList, lexM2] at this; exact this
theorem lex3_any (w : World) : Calls Try.prog 24 #[.string ⟨#[97, 32, 35]⟩] w (LexGives w [] 5 2) := by
  have := lex_gives (str [97, 32, 35]) w (by rw [str_size]; unfold maxLen; simp)
  rw [str_toList, lexM3] at this; exact this
theorem name1_any (w : World) : Calls Try.prog 27 #[.string ⟨#[120, 95, 49]⟩] w fun e w' => e = .returned (.bool true) ∧ w = w' := by
  have := IsName_any (str [120, 95, 49]) w (by rw [str_size]; unfold maxLen; simp)
  rw [str_toList, show nameB [120, 95, 49] = true from by decide +kernel] at this; exact this
theorem name2_any (w : World) : Calls Try.prog 27 #[.string ⟨#[110, 111, 100, 101]⟩] w fun e w' => e = .returned (.bool false) ∧ w = w' := by
  have := IsName_any (str [110, 111, 100, 101]) w (by rw [str_size]; unfold maxLen; simp)
  rw [str_toList, show nameB [110, 111, 100, 101] = false from by decide +kernel] at this; exact this
theorem word1_any (w : World) : Calls Try.prog 29 #[.string ⟨#[110, 111, 100, 101]⟩] w fun e w' => e = .returned (.bool true) ∧ w = w' := by
  have := isWord_any (str [110, 111, 100, 101]) w
  rw [str_toList, show wordB [110, 111, 100, 101] = true from by decide +kernel] at this; exact this
theorem same1_any (u v : Value) (w : World) (hu : Toks w u l1) (hv : Toks w v l1) : Calls Try.prog 26 #[u, v] w fun e w' => e = .returned (.bool true) ∧ ∃ n, w' = w.drewN n := by
  have := same_any u v l1 l1 w hu hv
  rw [show decide (l1 = l1) = true from by simp] at this; exact this
theorem join1_any (v : Value) (w : World) (hv : Toks w v l1) : Calls Try.prog 31 #[v] w fun e w' => e = .returned (.string ⟨#[97, 32, 45, 62, 32, 112, 114, 101, 32, 98, 32, 49, 50]⟩) ∧ Below w.heap.size w w' := by
  have e : joinM l1 = [97, 32, 45, 62, 32, 112, 114, 101, 32, 98, 32, 49, 50] := by decide +kernel
  have := join_any v l1 w hv (by decide) (by rw [e]; simp)
  rw [e] at this; exact this

theorem live_mid {w1 w2 w3 : World} (hb2 : Below (w1.alloc (.cells #[.int .i64 0, .int .i64 0] 35)).heap.size (w1.alloc (.cells #[.int .i64 0, .int .i64 0] 35)) w2)
    (hb3 : Below (w2.alloc (.cells #[.int .i64 2, .int .i64 2] 35)).heap.size (w2.alloc (.cells #[.int .i64 2, .int .i64 2] 35)) w3) :
    w1.heap.size < w2.heap.size ∧ w2.heap.size < w3.heap.size ∧ w1.heap.size < w3.heap.size ∧
    w3.cell? ⟨w1.heap.size, 0, none⟩ = some (.int .i64 0) ∧ w3.cell? ⟨w1.heap.size, 1, none⟩ = some (.int .i64 0) ∧
    w3.cell? ⟨w2.heap.size, 0, none⟩ = some (.int .i64 2) ∧ w3.cell? ⟨w2.heap.size, 1, none⟩ = some (.int .i64 2) ∧ Below w1.heap.size w1 w3 := by
  have z2 := hb2.size
  have z3 := hb3.size
  simp at z2 z3
  have k1 : w1.heap.size < w2.heap.size := by omega
  refine ⟨k1, by omega, by omega, ?_, ?_, ?_, ?_, ?_⟩
  · rw [hb3.cell (by simp; omega), World.cell?_alloc_past _ _ _ k1, hb2.cell (by simp), World.cell?_alloc_at _ _ _ _ rfl]; rfl
  · rw [hb3.cell (by simp; omega), World.cell?_alloc_past _ _ _ k1, hb2.cell (by simp), World.cell?_alloc_at _ _ _ _ rfl]; rfl
  · rw [hb3.cell (by simp), World.cell?_alloc_at _ _ _ _ rfl]; rfl
  · rw [hb3.cell (by simp), World.cell?_alloc_at _ _ _ _ rfl]; rfl
  · exact (((Below.refl _ _).alloc (Nat.le_refl _) _).trans (hb2.mono (by simp))).trans (((Below.refl _ _).alloc (by omega) _).trans (hb3.mono (by simp; omega)))
theorem live_below (w : World) (o o' : Obj) : Below w.heap.size w ((w.alloc o).alloc o') := ((Below.refl _ _).alloc (Nat.le_refl _) _).alloc (by simp) _
theorem live_lit (w : World) (o : Obj) : Toks ((w.alloc o).alloc (.cells #[.int .i64 1, .string ⟨#[97]⟩, .int .i64 0, .int .i64 4, .string ⟨#[45, 62]⟩, .int .i64 1, .int .i64 3,
      .string ⟨#[112, 114, 101]⟩, .int .i64 3, .int .i64 1, .string ⟨#[98]⟩, .int .i64 7, .int .i64 2, .string ⟨#[49, 50]⟩, .int .i64 14] 42)) (.slice (some ⟨w.heap.size + 1, 0, none⟩) 5 5) l1 := by
  have h := World.ownsRow_lit (base := 0) (e := 42) (size := 3) (w.alloc o) #[.int .i64 1, .string ⟨#[97]⟩, .int .i64 0, .int .i64 4, .string ⟨#[45, 62]⟩, .int .i64 1, .int .i64 3,
      .string ⟨#[112, 114, 101]⟩, .int .i64 3, .int .i64 1, .string ⟨#[98]⟩, .int .i64 7, .int .i64 2, .string ⟨#[49, 50]⟩, .int .i64 14] 5 (Nat.zero_le _) (by unfold maxLen; omega) rfl
  rw [show (w.alloc o).heap.size = w.heap.size + 1 from by simp] at h
  exact Toks.of_own (b := 0) h

theorem toks_drewN {w : World} {v : Value} {l : List Tok} (h : Toks w v l) (n : Nat) : Toks (w.drewN n) v l := h
theorem live_end {w1 w3 w5 : World} {o o' : Obj} {n : Nat} (h : Below w1.heap.size w1 w3) (hb5 : Below (((w3.alloc o).alloc o').drewN n).heap.size (((w3.alloc o).alloc o').drewN n) w5) : Below w1.heap.size w1 w5 := by
  have hs := h.size
  refine (below_drewN ((h.alloc hs _).alloc (by simp; omega) _) n).trans (hb5.mono ?_)
  show _ ≤ ((w3.alloc o).alloc o').heap.size
  simp; omega
set_option maxRecDepth 100000 in
set_option maxHeartbeats 1600000 in
theorem live_any (w : World) : Calls Try.prog 23 #[] w fun e w' => e = .returned (.bool true) ∧ Below w.heap.size w w' := by
  go_enter Try.func23, Try.ntmps23
  go_wp2_with fail
  refine (lex1_any _).mono ?_
  rintro e w1 ⟨v1, rfl, ht1, hb1⟩
  go_wp2_with fail
  refine (lex2_any _).mono ?_
  rintro e w2 ⟨v2, rfl, ht2, hb2⟩
  go_wp2_with fail
  refine (lex3_any _).mono ?_
  rintro e w3 ⟨v3, rfl, ht3, hb3⟩
  obtain ⟨k1, k2, k3, c10, c11, c20, c21, B3⟩ := live_mid hb2 hb3
  have HB3 := Lib.hid B3
  have HB1 := Lib.hid hb1
  have HT1 := Lib.hid ht1
  clear B3 hb1 ht1 hb2 hb3 ht2 ht3
  go_wp2_with fail
  refine (same1_any _ _ _ (by exact (HT1.out.below HB3.out (Nat.le_refl _)).below (live_below _ _ _) (Nat.le_refl _)) (by exact live_lit _ _)).mono ?_
  rintro e w4 ⟨rfl, n, rfl⟩
  go_wp2_with fail
  refine (name1_any _).mono ?_
  rintro e w' ⟨rfl, rfl⟩
  go_wp2_with fail
  refine (name2_any _).mono ?_
  rintro e w' ⟨rfl, rfl⟩
  go_wp2_with fail
  refine (word1_any _).mono ?_
  rintro e w' ⟨rfl, rfl⟩
  go_wp2_with fail
  refine (join1_any _ _ (by exact toks_drewN ((HT1.out.below HB3.out (Nat.le_refl _)).below (live_below _ _ _) (Nat.le_refl _)) _)).mono ?_
  rintro e w5 ⟨rfl, hb5⟩
  go_wp2
  go_ret
  exact ⟨rfl, HB1.out.trans ((live_end HB3.out hb5).mono HB1.out.size)⟩
end Go.Proofs.Ytgligmdkikbdoaa.Lx

/- The program's questions on one instruction: what it reads, its number, whether it may stand behind those so far. Conditions: numbers have 64 bits. -/
import Derived.Test.YtcphjehjdhgheaaKcA
import Derived.Test.YtcphjehjdhgheaaKaC
namespace Go.Proofs.Ytcphjehjdhgheaa.Nt
open Go.ChangeShapes Go.WideShapes Go.ChangeAt Go.RowKit Go.Maps Go.WideMaps Go.Proofs.Ytcphjehjdhgheaa.Tr
set_option linter.unusedVariables false
set_option linter.unusedSimpArgs false

theorem below_any (i e : Int) (w : World) : Calls Try.prog 100 #[.int .i64 i, .int .i64 e] w fun r w' => r = .returned (.bool (decide (0 ≤ i) && decide (i < e))) ∧ w' = w := by
  by_cases h0 : 0 ≤ i
  · have d0 : decide ((0 : Int) ≤ i) = true := decide_eq_true h0
    obtain ⟨b, hb⟩ : ∃ b, decide (i < e) = b := ⟨_, rfl⟩
    rw [d0, hb]
    go_enter Try.func100, Try.ntmps100
    go_wp2
    go_ret
    exact ⟨rfl, rfl⟩
  · have d0 : decide ((0 : Int) ≤ i) = false := decide_eq_false h0
    rw [d0]
    go_enter Try.func100, Try.ntmps100
    go_wp2
    go_ret
    exact ⟨rfl, rfl⟩
theorem preads_any (op : Int) (w : World) : Calls Try.prog 101 #[.int .i64 op] w fun e w' => e = .returned (.int .i64 (nrd op)) ∧ w' = w := by
  rcases nrd_cs op with rfl | rfl | rfl | rfl | rfl | rfl | ⟨h1, h2, h3, h4, h5, h6, hr⟩
  case inr.inr.inr.inr.inr.inr =>
    have b1 : (op == 1) = false := by simpa using h1
    have b2 : (op == 2) = false := by simpa using h2
    have b3 : (op == 3) = false := by simpa using h3
    have b4 : (op == 21) = false := by simpa using h4
    have b5 : (op == 30) = false := by simpa using h5
    have b6 : (op == 19) = false := by simpa using h6
    rw [hr]
    have HO := Lib.hid (fun W => operands_any op W)
    clear hr
    go_enter Try.func101, Try.ntmps101
    go_wp2_with (go_at_call 116; with_reducible refine (HO.out _).mono ?_; rintro e w' ⟨rfl, rfl⟩)
    go_ret
    exact ⟨rfl, rfl⟩
  all_goals
    go_enter Try.func101, Try.ntmps101
    go_wp2
    go_ret
    exact ⟨rfl, rfl⟩
/-- A checker: code, the registers written, the slots stored into. -/
abbrev chkV (iv : Value) (r s : Int) (ov pv : Value) (bw bs : Nat) : Value := .agg #[iv, .int .i64 r, .int .i64 s, ov, pv, .map (some bw), .map (some bs)]
structure ChkBox (w : World) (b : Nat) (iv : Value) (r s : Int) (ov pv : Value) (bw bs : Nat) : Prop where
  cell : w.heap[b]? = some (.cells #[iv, .int .i64 r, .int .i64 s, ov, pv, .map (some bw), .map (some bs)] 107 (0, 0))
theorem ChkBox.lt {w : World} {b : Nat} {iv ov pv : Value} {r s : Int} {bw bs : Nat} (h : ChkBox w b iv r s ov pv bw bs) : b < w.heap.size := lt_of_block h.cell
theorem ChkBox.ats {w : World} {b : Nat} {iv ov pv : Value} {r s : Int} {bw bs : Nat} (h : ChkBox w b iv r s ov pv bw bs) : w.cell? ⟨b, 0, none⟩ = some iv ∧ w.cell? ⟨b, 1, none⟩ = some (.int .i64 r) ∧ w.cell? ⟨b, 2, none⟩ = some (.int .i64 s) ∧ w.cell? ⟨b, 3, none⟩ = some ov ∧ w.cell? ⟨b, 4, none⟩ = some pv ∧ w.cell? ⟨b, 5, none⟩ = some (.map (some bw)) ∧ w.cell? ⟨b, 6, none⟩ = some (.map (some bs)) := by
  have := h.cell
  refine ⟨?_, ?_, ?_, ?_, ?_, ?_, ?_⟩ <;> simp [World.cell?, this]
theorem ChkBox.keep {w w' : World} {b : Nat} {iv ov pv : Value} {r s : Int} {bw bs : Nat} (h : ChkBox w b iv r s ov pv bw bs) (hb : w'.heap[b]? = w.heap[b]?) : ChkBox w' b iv r s ov pv bw bs := ⟨hb.trans h.cell⟩
theorem ChkBox.below {w w' : World} {b B : Nat} {iv ov pv : Value} {r s : Int} {bw bs : Nat} (h : ChkBox w b iv r s ov pv bw bs) (hb : Below B w w') (hB : b < B) : ChkBox w' b iv r s ov pv bw bs := h.keep (hb.block b hB)
set_option maxHeartbeats 1600000 in
theorem unwr_any (w : World) (iv ov pv : Value) (r s : Int) (bw bs n : Nat) (l : List Int) (k : Int) (h : SetIs w bw n l) (hk : W64 k) : Calls Try.prog 64 #[chkV iv r s ov pv bw bs, .int .i64 k] w (fun e w' => e = .returned (.bool (!l.contains k)) ∧ Below w.heap.size w w') := by
  obtain ⟨x, hx⟩ : ∃ W, w.alloc (.cells #[iv, .int .i64 r, .int .i64 s, ov, pv, .map (some bw), .map (some bs)] 107) = W := ⟨_, rfl⟩
  have HB : Hid (Below w.heap.size w x) := Lib.hid (by rw [← hx]; exact below_new _ _)
  have HX : Hid (ChkBox x w.heap.size iv r s ov pv bw bs) := Lib.hid (by rw [← hx]; exact ⟨heap_alloc_new _ _⟩)
  obtain ⟨p0, p1, p2, p3, p4, p5, p6⟩ := HX.out.ats
  have HH := Lib.hid (has_any x bw n l k (h.below HB.out h.lt) hk)
  generalize l.contains k = q at HH ⊢
  clear h
  go_enter Try.func64, Try.ntmps64
  go_wp2_with fail
  refine HH.out.mono ?_
  rintro e w1 ⟨rfl, hb1⟩
  go_wp2
  go_ret
  exact ⟨rfl, HB.out.trans (hb1.mono HB.out.size)⟩
theorem may1_any (k : Int) (w : World) : Calls Try.prog 103 #[.int .i64 k] w fun e w' => e = .returned (.bool (k != 0)) ∧ w' = w := by
  go_enter Try.func103, Try.ntmps103
  go_wp2
  go_ret
  exact ⟨rfl, rfl⟩
/-- May its number be, of slots stored into so far? -/
def bearsB (nin : Nat) (slots : Int) (st : List Int) (x : Ins6) : Bool := numB nin slots x && (if x.op = 21 then st.isEmpty else if x.op = 30 then !st.contains x.n else true)
theorem fits_two (n : Int) : (decide (0 ≤ n) && decide (n < 2)) = (decide (0 ≤ n) && decide (n < 2)) := rfl
set_option maxRecDepth 100000 in
set_option maxHeartbeats 4000000 in
theorem cbears_any (w : World) (iv ov pv : Value) (r s : Int) (bw bs n : Nat) (st il : List Int) (x : Ins6) (hs : SetIs w bs n st) (hp : Ints w pv il) (hk : W64 x.n) : Calls Try.prog 102 #[chkV iv r s ov pv bw bs, insV x] w (fun e w' => e = .returned (.bool (bearsB il.length s st x)) ∧ Below w.heap.size w w') := by
  obtain ⟨P, pc, rfl, z1, z2⟩ := ints_form hp
  unfold maxLen at z2
  obtain ⟨y, hy⟩ : ∃ W, (w.alloc (.cells #[iv, .int .i64 r, .int .i64 s, ov, .slice P il.length pc, .map (some bw), .map (some bs)] 107)).alloc (.cells #[.int .i64 x.op, .int .i64 x.d, .int .i64 x.a, .int .i64 x.b, .int .i64 x.c, .int .i64 x.n] 109) = W := ⟨_, rfl⟩
  have HB : Hid (Below w.heap.size w y) := Lib.hid (by rw [← hy]; exact below2 _ _ _)
  have HX : Hid (ChkBox y w.heap.size iv r s ov (.slice P il.length pc) bw bs) := Lib.hid (by
    rw [← hy]
    exact ⟨(Below.heap_alloc _ _ _ (by simp)).trans (heap_alloc_new _ _)⟩)
  have HY : Hid (InsBox y (w.heap.size + 1) 109 x) := Lib.hid (by
    rw [← hy]
    have := insbox_new (w.alloc (.cells #[iv, .int .i64 r, .int .i64 s, ov, .slice P il.length pc, .map (some bw), .map (some bs)] 107)) 109 x
    rw [show (w.alloc (.cells #[iv, .int .i64 r, .int .i64 s, ov, .slice P il.length pc, .map (some bw), .map (some bs)] 107)).heap.size = w.heap.size + 1 by simp] at this
    exact this)
  obtain ⟨p0, p1, p2, p3, p4, p5, p6⟩ := HX.out.ats
  obtain ⟨q0, q1, q2, q3, q4, q5⟩ := HY.out.ats
  have hsy := hs.below HB.out hs.lt
  obtain ⟨ml, hml, hmz⟩ := hsy.len
  have hlen := hml
  have HH := Lib.hid (has_any y bs n st x.n hsy hk)
  have HBE := Lib.hid (fun (i e : Int) W => below_any i e W)
  have HFI := Lib.hid (fun (i : Int) W => Fits_any i W)
  obtain ⟨o, d, a, b, c, m⟩ := x
  unfold insV
  dsimp only at q0 q1 q2 q3 q4 q5 HH hk ⊢
  clear hs hp hsy
  by_cases h3 : o = 3
  · subst h3
    have HE : Hid (bearsB il.length s st ⟨3, d, a, b, c, m⟩ = (decide (0 ≤ m) && decide (m < (il.length : Int)))) := Lib.hid (by unfold bearsB numB; simp)
    go_enter Try.func102, Try.ntmps102
    go_wp2_with (go_at_call 100; with_reducible refine (HBE.out _ _ _).mono ?_; rintro e w' ⟨rfl, rfl⟩)
    go_ret
    exact ⟨ret_bool HE.out.symm, HB.out⟩
  have b3 : (o == 3) = false := by simpa using h3
  by_cases h1 : o = 1
  · subst h1
    have HE : Hid (bearsB il.length s st ⟨1, d, a, b, c, m⟩ = fitsI m) := Lib.hid (by unfold bearsB numB; simp)
    go_enter Try.func102, Try.ntmps102
    go_wp2_with (go_at_call 134; with_reducible refine (HFI.out _ _).mono ?_; rintro e w' ⟨rfl, rfl⟩)
    go_ret
    exact ⟨ret_bool HE.out.symm, HB.out⟩
  have b1 : (o == 1) = false := by simpa using h1
  by_cases h2 : o = 2
  · subst h2
    have HE : Hid (bearsB il.length s st ⟨2, d, a, b, c, m⟩ = (decide (0 ≤ m) && decide (m < 2))) := Lib.hid (by unfold bearsB numB; simp)
    go_enter Try.func102, Try.ntmps102
    go_wp2_with (go_at_call 100; with_reducible refine (HBE.out _ _ _).mono ?_; rintro e w' ⟨rfl, rfl⟩)
    go_ret
    exact ⟨ret_bool HE.out.symm, HB.out⟩
  have b2 : (o == 2) = false := by simpa using h2
  obtain ⟨bb, hbb⟩ : ∃ q, (decide (0 ≤ m) && decide (m < s)) = q := ⟨_, rfl⟩
  by_cases h21 : o = 21
  · subst h21
    have HE : Hid (bearsB il.length s st ⟨21, d, a, b, c, m⟩ = (bb && st.isEmpty)) := Lib.hid (by rw [← hbb]; unfold bearsB numB; simp)
    cases bb with
    | false =>
      go_enter Try.func102, Try.ntmps102
      go_wp2_with (go_at_call 100; with_reducible refine (HBE.out _ _ _).mono ?_; rw [hbb]; rintro e w' ⟨rfl, rfl⟩)
      go_ret
      exact ⟨ret_bool HE.out.symm, HB.out⟩
    | true =>
      have hez : ((ml : Int) == 0) = st.isEmpty := by
        rw [Bool.eq_iff_iff, beq_iff_eq, List.isEmpty_iff, ← hmz]; omega
      have HEZ := Lib.hid hez
      clear hmz hez hml
      go_enter Try.func102, Try.ntmps102
      go_wp2_with (first | (go_at_call 100; with_reducible refine (HBE.out _ _ _).mono ?_; rw [hbb]; rintro e w' ⟨rfl, rfl⟩))
      go_ret
      exact ⟨ret_bool (by rw [HE.out, ← HEZ.out]; rfl), HB.out⟩
  have b21 : (o == 21) = false := by simpa using h21
  by_cases h30 : o = 30
  · subst h30
    have HE : Hid (bearsB il.length s st ⟨30, d, a, b, c, m⟩ = (bb && !st.contains m)) := Lib.hid (by rw [← hbb]; unfold bearsB numB; simp)
    cases bb with
    | false =>
      go_enter Try.func102, Try.ntmps102
      go_wp2_with (go_at_call 100; with_reducible refine (HBE.out _ _ _).mono ?_; rw [hbb]; rintro e w' ⟨rfl, rfl⟩)
      go_ret
      exact ⟨ret_bool HE.out.symm, HB.out⟩
    | true =>
      generalize st.contains m = q at HH HE
      clear hmz hml hlen
      go_enter Try.func102, Try.ntmps102
      go_wp2_with (first | (go_at_call 100; with_reducible refine (HBE.out _ _ _).mono ?_; rw [hbb]; rintro e w' ⟨rfl, rfl⟩) | (go_at_call 105; with_reducible refine HH.out.mono ?_; rintro e w' ⟨rfl, hb'⟩))
      go_ret
      exact ⟨ret_bool HE.out.symm, HB.out.trans (hb'.mono HB.out.size)⟩
  have b30 : (o == 30) = false := by simpa using h30
  have HE : Hid (bearsB il.length s st ⟨o, d, a, b, c, m⟩ = (m == 0)) := Lib.hid (by unfold bearsB numB; simp [h3, h1, h2, h21, h30])
  go_enter Try.func102, Try.ntmps102
  go_wp2
  go_ret
  exact ⟨ret_bool HE.out.symm, HB.out⟩
end Go.Proofs.Ytcphjehjdhgheaa.Nt

/- A row as a line, by the program. Conditions: at most 200 types; the library's table is laid. -/
import Derived.Test.YtgngdkbcndldfaaDoorFaN
import Derived.Test.YtgngdkbcndldfaaDoorFaI
namespace Go.Proofs.YtgngdkbcndldfaaDoor.Fr
open Go.ChangeShapes Go.WideShapes Go.ChangeAt Go.RowKit Go.Proofs.YtgngdkbcndldfaaDoor.Tr
set_option linter.unusedVariables false
set_option linter.unusedSimpArgs false

theorem made_strs (n : Nat) : madeCells #[Value.string ⟨#[]⟩] n = (strsOf (List.replicate n [])).toArray := by
  apply Array.ext'
  rw [toList_madeCells_one]
  simp [strsOf, bs]
theorem strsOf_set (l : List Bs) (k : Nat) (x : Bs) : strsOf (l.set k x) = (strsOf l).set k (.string (bs x)) := by unfold strsOf; rw [List.map_set]
theorem strsOf_get (l : List Bs) (k : Nat) (x : Bs) (h : l[k]? = some x) : (strsOf l)[k]? = some (.string (bs x)) := by unfold strsOf; rw [List.getElem?_map, h]; rfl
/-- A row of texts that is filled from its beginning on. -/
def FillS (W : World) (G : Nat) (R : List Bs) (m : Nat) : Prop := W.heap[G]? = some (.cells (strsOf (R ++ List.replicate (m - R.length) [])).toArray 9 (0, 0))
theorem FillS.cell {W : World} {G m : Nat} {R : List Bs} (h : FillS W G R m) (hk : R.length < m) : W.cell? ⟨G, R.length, none⟩ = some (.string ⟨#[]⟩) ∧ W.frozen? ⟨G, R.length, none⟩ = false := by
  unfold FillS at h
  constructor
  · simp only [World.cell?, h]
    have : (R ++ List.replicate (m - R.length) ([] : Bs))[R.length]? = some [] := by
      rw [List.getElem?_append_right (Nat.le_refl _), Nat.sub_self, List.getElem?_replicate]
      rw [if_pos (by omega)]
    have := strsOf_get _ _ _ this
    rw [show bs [] = (⟨#[]⟩ : ByteArray) from rfl] at this
    simpa using this
  · simp [World.frozen?, h]
theorem fillS_set (R : List Bs) (m : Nat) (n : Bs) (hk : R.length < m) : (R ++ List.replicate (m - R.length) ([] : Bs)).set R.length n = (R ++ [n]) ++ List.replicate (m - (R ++ [n]).length) [] := by
  rw [List.set_append_right _ _ (Nat.le_refl _), Nat.sub_self]
  obtain ⟨q, hq⟩ : ∃ q, m - R.length = q + 1 := ⟨m - R.length - 1, by omega⟩
  have hq2 : m - (R ++ [n]).length = q := by simp; omega
  rw [hq, hq2, List.replicate_succ]
  simp
theorem FillS.set {W : World} {G m : Nat} {R : List Bs} (h : FillS W G R m) (hk : R.length < m) (n : Bs) : FillS (W.setCell ⟨G, R.length, none⟩ (.string (bs n))) G (R ++ [n]) m := by
  unfold FillS at h ⊢
  rw [← fillS_set R m n hk, strsOf_set]
  simp [World.setCell, Array.getElem?_modify, h]
theorem FillS.below {W W' : World} {G m : Nat} {R : List Bs} (h : FillS W G R m) (hb : Below W.heap.size W W') : FillS W' G R m := (hb.block G (lt_of_block h)).trans h
theorem FillS.all {W : World} {G m : Nat} {R : List Bs} (h : FillS W G R m) (hk : R.length = m) (j : Nat) (x : Bs) (hx : R[j]? = some x) : W.cell? ⟨G, j, none⟩ = some (.string (bs x)) := by
  unfold FillS at h
  rw [hk, Nat.sub_self, List.replicate_zero, List.append_nil] at h
  simp only [World.cell?, h]
  have := strsOf_get _ _ _ hx
  simpa using this
/-- The first k words. -/
def wordsTo (ts r : List Int) (k : Nat) : List Bs := List.zipWith textM (ts.take k) (r.take k)
theorem wordsTo_next {ts r : List Int} {k : Nat} {t n : Int} (ht : ts[k]? = some t) (hn : r[k]? = some n) : wordsTo ts r (k + 1) = wordsTo ts r k ++ [textM t n] := by
  unfold wordsTo
  have hk1 := (List.getElem?_eq_some_iff.1 ht).1
  have hk2 := (List.getElem?_eq_some_iff.1 hn).1
  rw [List.take_add_one, List.take_add_one, ht, hn, show (some t).toList = [t] from rfl, show (some n).toList = [n] from rfl, List.zipWith_append (by rw [List.length_take, List.length_take]; omega)]
  rfl
theorem wordsTo_len {ts r : List Int} {k : Nat} (h1 : k ≤ ts.length) (h2 : k ≤ r.length) : (wordsTo ts r k).length = k := by unfold wordsTo; rw [List.length_zipWith, List.length_take, List.length_take]; omega
theorem wordsTo_all {ts r : List Int} {k : Nat} (h1 : ts.length = k) (h2 : r.length = k) : wordsTo ts r k = List.zipWith textM ts r := by unfold wordsTo; rw [List.take_of_length_le (by omega), List.take_of_length_le (by omega)]
theorem join_any (w : World) (G : Nat) (l : List Bs) (m : Nat) (h : FillS w G l m) (hl : l.length = m) (hm : m ≤ 1000) (hj : (Lib.join l [32]).length ≤ 1000000) :
    Calls Tryd.prog 38 #[.slice (some ⟨G, 0, none⟩) m m, .string ⟨#[32]⟩] w (fun e w' => e = .returned (.string (bs (Lib.join l [32]))) ∧ Below w.heap.size w w') := by
  have hmap : (l.map bs).map (fun x : ByteArray => x.data.toList) = l := by
    rw [List.map_map]
    have : (fun x : ByteArray => x.data.toList) ∘ bs = id := by funext x; exact bs_data x
    rw [this, List.map_id]
  have := Tryd.strings_Join G 0 m (l.map bs) ⟨#[32]⟩ w (fun j x hx => by
    rw [List.getElem?_map] at hx
    obtain ⟨y, hy, rfl⟩ := Option.map_eq_some_iff.1 hx
    rw [Nat.zero_add]
    exact h.all hl j y hy) (lt_of_block h) (by rw [List.length_map]; omega) (by rw [List.length_map]; omega) (by rw [hmap]; show (Lib.join l [32]).length ≤ _; omega)
  rw [hmap, List.length_map, hl] at this
  exact this
/-- A row's text, or that there is none. -/
abbrev LinePost (ts r : List Int) (w : World) (e : Ending) (w' : World) : Prop :=
  ∃ s b, e = .returned (.tuple #[.string s, .bool b]) ∧ Below w.heap.size w w' ∧ okRowM ts r = b ∧ (b = true → s = bs (Lib.join (List.zipWith textM ts r) [32]))

set_option maxRecDepth 100000 in
set_option maxHeartbeats 4000000 in
theorem written_any (w : World) (hF : FrAt w) (tv rv : Value) (ts r : List Int) (ht : Ints w tv ts) (hr : Ints w rv r) (h200 : ts.length ≤ 200) :
    Calls Tryd.prog 23 #[tv, rv] w (LinePost ts r w) := by
  obtain ⟨A, c, rfl, z1, z2⟩ := ints_form ht
  obtain ⟨RA, rc, rfl, y1, y2⟩ := ints_form hr
  have HT := Lib.hid ht
  have HR := Lib.hid hr
  have HF := Lib.hid hF
  obtain ⟨n, hn⟩ : ∃ n, ts.length = n := ⟨_, rfl⟩
  obtain ⟨m, hm⟩ : ∃ n, r.length = n := ⟨_, rfl⟩
  rw [hn] at HT z1 h200 ⊢
  rw [hm] at HR y1 ⊢
  have HN := Lib.hid hn
  have HM := Lib.hid hm
  unfold maxLen at z2 y2
  clear ht hr hF hn hm
  by_cases hlen : m = n
  · have hle : ((m : Int) != (n : Int)) = false := by simp [hlen]
    subst hlen
    have hmk := run_make_row' (P := Tryd.prog) 41 9 (.string ⟨#[]⟩) 16 Tryd.underlying41 infoStr rfl .i64 .i64 m (by omega) (by omega)
    obtain ⟨w1, hw1⟩ : ∃ W, w.alloc (.cells (madeCells #[.string ⟨#[]⟩] m) 9) = W := ⟨_, rfl⟩
    have HB1 : Hid (Below w.heap.size w w1) := Lib.hid (by rw [← hw1]; exact below_new _ _)
    have HF1 : Hid (FillS w1 w.heap.size [] m) := Lib.hid (by
      rw [← hw1]; unfold FillS; rw [List.nil_append, List.length_nil, Nat.sub_zero, ← made_strs]; exact heap_alloc_new _ _)
    have hs1 : w1.heap.size = w.heap.size + 1 := by rw [← hw1]; simp
    have HW1 := Lib.hid hw1
    clear hw1
    go_enter Tryd.func23, Tryd.ntmps23
    go_wp2_with fail
    rw [HW1.out]
    go_loopw [19] (fun vi wr => ∃ k : Nat, OkTo ts r k ∧ k ≤ m ∧ vi = .int .i64 (k : Int) ∧ FillS wr w.heap.size (wordsTo ts r k) m ∧ Below w.heap.size w wr) (fun vi _ => m - (intOf vi).toNat)
    case atStart => exact ⟨0, OkTo.start _ _, Nat.zero_le _, rfl, HF1.out, HB1.out⟩
    case round =>
      obtain ⟨k, hok, hk, rfl, hfl, hb⟩ := hrel
      have HOK := Lib.hid hok
      have HO := Lib.hid hfl
      have HBr := Lib.hid hb
      have hwl := hb.size
      have hlk : (wordsTo ts r k).length = k := wordsTo_len (by rw [HN.out]; exact hk) (by rw [HM.out]; exact hk)
      clear hok hfl hb
      by_cases hlt : k < m
      · obtain ⟨t, htk⟩ : ∃ t, ts[k]? = some t := ⟨_, List.getElem?_eq_getElem (by rw [HN.out]; exact hlt)⟩
        obtain ⟨y, hyk⟩ : ∃ y, r[k]? = some y := ⟨_, List.getElem?_eq_getElem (by rw [HM.out]; exact hlt)⟩
        obtain ⟨g, o, rfl, hg, a0⟩ := ints_at (HT.out.below HBr.out (Nat.le_refl _)) htk
        obtain ⟨g', o', rfl, hg', b0⟩ := ints_at (HR.out.below HBr.out (Nat.le_refl _)) hyk
        have HTK := Lib.hid htk
        have HYK := Lib.hid hyk
        obtain ⟨d0, f0⟩ := HO.out.cell (by rw [hlk]; exact hlt)
        rw [hlk] at d0 f0
        have HNX := Lib.hid (wordsTo_next htk hyk)
        have HNO : Hid (mayM t y = false → okRowM ts r = false) := Lib.hid (fun hm => okRow_no (fun h => by have := h.2 k t y htk hyk; rw [hm] at this; cases this))
        have HSET : Hid (∀ W x, FillS W w.heap.size (wordsTo ts r k) m → FillS (W.setCell ⟨w.heap.size, k, none⟩ (.string (bs x))) w.heap.size (wordsTo ts r k ++ [x]) m) := Lib.hid (fun W x h => by have := h.set (by rw [hlk]; exact hlt) x; rw [hlk] at this; exact this)
        clear htk hyk hlk
        by_cases h2 : t = 2
        · subst h2
          have HMAY : Hid (mayM 2 y = fitsM y) := Lib.hid (by unfold mayM; simp)
          have HFI := Lib.hid (Fits_any y wr)
          cases hf : fitsM y with
          | false =>
            rw [hf] at HFI HMAY
            have HP : Hid (LinePost ts r w (.returned (.tuple #[.string ⟨#[]⟩, .bool false])) wr) := Lib.hid ⟨_, _, rfl, HBr.out, HNO.out HMAY.out, fun h => by cases h⟩
            clear hf
            go_wp2_with fail
            refine HFI.out.mono ?_
            rintro e w2 ⟨rfl, rfl⟩
            go_wp2_with fail
            refine bodyPost_ret (v := .tuple #[.string ⟨#[]⟩, .bool false]) (by simp [results, Tryd.results23, go_sem]) rfl HP.out
          | true =>
            rw [hf] at HFI HMAY
            have HIT := Lib.hid (ito_any wr (HF.out.below HBr.out) y hf)
            have HOK2 := Lib.hid (HOK.out.next HTK.out HYK.out HMAY.out)
            have HTX : Hid (textM 2 y = Lib.itoa y) := Lib.hid (by unfold textM; rw [if_neg (by decide)])
            clear hf
            go_wp2_with fail
            refine HFI.out.mono ?_
            rintro e w2 ⟨rfl, rfl⟩
            go_wp2_with fail
            refine HIT.out.mono ?_
            rintro e w3 ⟨rfl, hb3⟩
            have HB3 := Lib.hid hb3
            have d1 : w3.cell? ⟨w.heap.size, k, none⟩ = some (.string ⟨#[]⟩) := cell_up d0 hb3
            have f1 : w3.frozen? ⟨w.heap.size, k, none⟩ = false := by
              have := hb3.block w.heap.size (lt_of_block HO.out)
              unfold World.frozen? at f0 ⊢
              simpa [this] using f0
            have HE : Hid (FillS (w3.setCell ⟨w.heap.size, k, none⟩ (.string (bs (Lib.itoa y)))) w.heap.size (wordsTo ts r (k + 1)) m ∧ Below w.heap.size w (w3.setCell ⟨w.heap.size, k, none⟩ (.string (bs (Lib.itoa y))))) := Lib.hid ⟨by rw [HNX.out, HTX.out]; exact HSET.out _ _ (HO.out.below hb3), (HBr.out.trans (hb3.mono hwl)).setCell (p := ⟨w.heap.size, k, none⟩) (Nat.le_refl _) _⟩
            clear hb3 d0 f0
            go_wp2_with fail
            refine ⟨⟨k + 1, HOK2.out, by omega, by go_num, HE.out.1, HE.out.2⟩, by first | (simp [intOf]; done) | (simp [intOf]; omega)⟩
        · have hb2 : (t == 2) = false := beq_eq_false_iff_ne.2 h2
          by_cases h1 : t = 1
          · subst h1
            by_cases hy0 : y = 0
            · subst hy0
              have HOK2 := Lib.hid (HOK.out.next HTK.out HYK.out (by decide))
              have HE : Hid (FillS (wr.setCell ⟨w.heap.size, k, none⟩ (.string ⟨#[102, 97, 108, 115, 101]⟩)) w.heap.size (wordsTo ts r (k + 1)) m ∧ Below w.heap.size w (wr.setCell ⟨w.heap.size, k, none⟩ (.string ⟨#[102, 97, 108, 115, 101]⟩))) := Lib.hid ⟨by rw [HNX.out]; exact HSET.out wr falseB HO.out, HBr.out.setCell (p := ⟨w.heap.size, k, none⟩) (Nat.le_refl _) _⟩
              go_wp2_with fail
              refine ⟨⟨k + 1, HOK2.out, by omega, by go_num, HE.out.1, HE.out.2⟩, by first | (simp [intOf]; done) | (simp [intOf]; omega)⟩
            · have hyb0 : (y == 0) = false := beq_eq_false_iff_ne.2 hy0
              by_cases hy1 : y = 1
              · subst hy1
                have HOK2 := Lib.hid (HOK.out.next HTK.out HYK.out (by decide))
                have HE : Hid (FillS (wr.setCell ⟨w.heap.size, k, none⟩ (.string ⟨#[116, 114, 117, 101]⟩)) w.heap.size (wordsTo ts r (k + 1)) m ∧ Below w.heap.size w (wr.setCell ⟨w.heap.size, k, none⟩ (.string ⟨#[116, 114, 117, 101]⟩))) := Lib.hid ⟨by rw [HNX.out]; exact HSET.out wr trueB HO.out, HBr.out.setCell (p := ⟨w.heap.size, k, none⟩) (Nat.le_refl _) _⟩
                go_wp2_with fail
                refine ⟨⟨k + 1, HOK2.out, by omega, by go_num, HE.out.1, HE.out.2⟩, by first | (simp [intOf]; done) | (simp [intOf]; omega)⟩
              · have hyb1 : (y == 1) = false := beq_eq_false_iff_ne.2 hy1
                have HP : Hid (LinePost ts r w (.returned (.tuple #[.string ⟨#[]⟩, .bool false])) wr) := Lib.hid ⟨_, _, rfl, HBr.out, HNO.out (by unfold mayM; simp [hy0, hy1]), fun h => by cases h⟩
                clear hy0 hy1
                go_wp2_with fail
                refine bodyPost_ret (v := .tuple #[.string ⟨#[]⟩, .bool false]) (by simp [results, Tryd.results23, go_sem]) rfl HP.out
          · have hb1 : (t == 1) = false := beq_eq_false_iff_ne.2 h1
            have HP : Hid (LinePost ts r w (.returned (.tuple #[.string ⟨#[]⟩, .bool false])) wr) := Lib.hid ⟨_, _, rfl, HBr.out, HNO.out (by unfold mayM; simp [h1, h2]), fun h => by cases h⟩
            clear h1 h2
            go_wp2_with fail
            refine bodyPost_ret (v := .tuple #[.string ⟨#[]⟩, .bool false]) (by simp [results, Tryd.results23, go_sem]) rfl HP.out
      · obtain rfl : k = m := by omega
        have hrow := HOK.out.row HN.out HM.out
        have hall := wordsTo_all HN.out HM.out
        have hjl : (Lib.join (List.zipWith textM ts r) [32]).length ≤ 1000000 := by
          have := line_len ts r hrow
          unfold lineM at this
          rw [HN.out, List.length_append] at this
          omega
        have HJ : Hid (Calls Tryd.prog 38 #[.slice (some ⟨w.heap.size, 0, none⟩) k k, .string ⟨#[32]⟩] wr (fun e w' => e = .returned (.string (bs (Lib.join (List.zipWith textM ts r) [32]))) ∧ Below wr.heap.size wr w')) := Lib.hid (join_any wr w.heap.size _ k (by have := HO.out; rw [hall] at this; exact this) (by rw [← hall]; exact hlk) (by omega) hjl)
        have HROW := Lib.hid hrow
        clear hrow hall hjl hlk
        go_wp2_with fail
        refine HJ.out.mono ?_
        rintro e w2 ⟨rfl, hb2⟩
        have HP : Hid (LinePost ts r w (.returned (.tuple #[.string (bs (Lib.join (List.zipWith textM ts r) [32])), .bool true])) w2) := Lib.hid ⟨_, _, rfl, HBr.out.trans (hb2.mono hwl), HROW.out, fun _ => rfl⟩
        clear hb2
        go_wp2_with fail
        refine bodyPost_ret (v := .tuple #[.string (bs (Lib.join (List.zipWith textM ts r) [32])), .bool true]) (by simp [results, Tryd.results23, go_sem]) rfl HP.out
  · have hle : ((m : Int) != (n : Int)) = true := by rw [bne_iff_ne]; omega
    have HP : Hid (LinePost ts r w (.returned (.tuple #[.string ⟨#[]⟩, .bool false])) w) := Lib.hid ⟨_, _, rfl, Below.refl _ _, okRow_no (fun h => hlen (by have := h.1; have q1 := HN.out; have q2 := HM.out; omega)), fun h => by cases h⟩
    go_enter Tryd.func23, Tryd.ntmps23
    go_wp2_with fail
    refine bodyPost_ret (v := .tuple #[.string ⟨#[]⟩, .bool false]) (by simp [results, Tryd.results23, go_sem]) rfl HP.out
end Go.Proofs.YtgngdkbcndldfaaDoor.Fr

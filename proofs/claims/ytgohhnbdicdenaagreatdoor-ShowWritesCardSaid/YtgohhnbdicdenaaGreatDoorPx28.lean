/- The document's text of a call with operands. Conditions: the slice reads as a list of nodes; the operands' texts are written. -/
import Derived.Test.YtgohhnbdicdenaaGreatDoorPx27
import Derived.Test.YtgohhnbdicdenaaGreatDoorPq16
import Derived.Test.YtgohhnbdicdenaaGreatDoorPx25
import Derived.Test.YtgohhnbdicdenaaGreatDoorPx26
import Derived.Test.YtgohhnbdicdenaaGreatDoorPq17
namespace Go.Proofs.YtgohhnbdicdenaaGreatDoor.Sh
open Go.ChangeShapes Go.WideShapes Go.ChangeAt Go.RowKit
open Go.Proofs.YtgohhnbdicdenaaGreatDoor.Tr (str ret_bool ret_int Bytes Nd T Nodes May tree kidsM mkL mkT fitsB argsL unaryB binaryB ndCells strsOf Strs)
set_option linter.unusedVariables false
set_option linter.unusedSimpArgs false

theorem callF_cnt (s : Bytes) : ∀ A : List Bytes, A.length ≤ (callF s A).length
  | [] => by simp
  | [a] => by simp [callF]; omega
  | a :: b :: r => by
    have := callF_cnt s (b :: r)
    simp only [callF, List.length_append, List.length_cons] at this ⊢; omega
/-- The first loop's relation. -/
structure TxRel (N : Nat) (w : World) (e : List Nd) (A : List Bytes) (wr : World) (tv : Value) (iv : Int) (dn : List Bytes) : Prop where
  all : dn ++ restT e iv = A
  row : wr.ownsRow w.heap.size 9 1 tv dn.length (strsOf dn)
  below : Below w.heap.size w wr
  at_ : iv = -1 ∨ ∃ q : Nat, q < N ∧ iv = (q : Int) ∧ (tree e q).lab.op = 28
theorem acc_len (s : Bytes) (A : List Bytes) (h : A ≠ []) : ∀ n : Nat, n ≤ A.length → (accF s A n).length ≤ (callF s A).length
  | 0, _ => by rw [acc_zero s A h]; exact Nat.le_refl _
  | n + 1, hn => by
    have ih := acc_len s A h n (by omega)
    rw [acc_step s A (List.getElem?_eq_getElem (by omega))] at ih
    simp only [List.length_append] at ih
    omega
theorem ret_call (P : Bytes) : Ending.returned (.string (str P ++ (⟨#[32, 41]⟩ : ByteArray))) = .returned (.string (str (P ++ [32, 41]))) := by
  rw [← app_str]; rfl
theorem acc_at (s : Bytes) (A : List Bytes) {m : Nat} {a : Bytes} (h : A[m]? = some a) (hm : 0 < m) : str (accF s A (m + 1)) ++ (⟨#[32]⟩ : ByteArray) ++ str a ++ (⟨#[32, 44]⟩ : ByteArray) = str (accF s A m) := by
  rw [acc_step s A h, if_pos hm, ← app_str, ← app_str, ← app_str]; rfl
theorem acc_at0 (s : Bytes) (A : List Bytes) {a : Bytes} (h : A[0]? = some a) : str (accF s A (0 + 1)) ++ (⟨#[32]⟩ : ByteArray) ++ str a = str (accF s A 0) := by
  rw [acc_step s A h, if_neg (by omega), List.append_nil, ← app_str, ← app_str]; rfl
set_option maxRecDepth 100000 in
set_option maxHeartbeats 1600000 in
theorem rcall_some {W0 : World} {G O C : Nat} {e : List Nd} (cx : Cx W0 G O C e) {i j : Nat} {x : Nd} (hx : e[i]? = some x) (h1 : x.op = 27) (ha : x.a = (j : Int)) (hj : j < i) (ht : tree e i = .l1 x.lab (tree e j)) (hj28 : (tree e j).lab.op = 28)
    (hn : ∀ k : Nat, k < i → (tree e k).lab.op ≠ 28 → NodeR W0 (.slice (some ⟨G, O, none⟩) e.length C) e k) (hl : (textT (tree e i)).length ≤ 100000) : CallR W0 (.slice (some ⟨G, O, none⟩) e.length C) e i := by
  intro w hw
  have hi := (List.getElem?_eq_some_iff.1 hx).1
  have hen := cx.may.le
  have hok : (tree e j).okB = true := cx.may.ok j (by omega)
  have hK : textT (tree e i) = callF (x.name ++ [32, 40]) (argTs (tree e j)) ++ [32, 41] := by rw [ht]; exact text_call h1 hok hj28
  obtain ⟨hA0, -⟩ := callF_args x.name (tree e j) hok hj28
  rw [hK] at hl ⊢
  obtain ⟨A, hA⟩ : ∃ A, argTs (tree e j) = A := ⟨_, rfl⟩
  rw [hA] at hl hA0 ⊢
  simp only [List.length_append, List.length_cons, List.length_nil] at hl
  have hcnt := callF_cnt (x.name ++ [32, 40]) A
  obtain ⟨hcl, hcs⟩ := callF_len (x.name ++ [32, 40]) A
  simp only [List.length_append, List.length_cons, List.length_nil] at hcs
  have HN := Lib.hid hn
  have CX := Lib.hid cx
  have HW := Lib.hid hw
  have HR0 : Hid (TxRel i w e A w (.slice none 0 0) (j : Int) []) := Lib.hid ⟨by
      rw [← hA]; unfold restT; rw [if_neg (by omega)]; rfl, World.ownsRow_nil _ _ _ _, Below.refl _ _, .inr ⟨j, hj, rfl, hj28⟩⟩
  obtain ⟨c0, c1, c2, c3, c4, c5⟩ := cx.cells hw hx
  obtain ⟨op, na, nb, nc, nn, nm⟩ := x
  simp only at h1 ha c0 c1 c2 c3 c4 c5 hl hcnt hcl hcs ⊢
  subst h1; subst ha
  have HX := Lib.hid hx
  have HL := Lib.hid hl
  have HCL := Lib.hid hcl
  have HA0 := Lib.hid hA0
  have HCNT := Lib.hid hcnt
  obtain ⟨i1, hi', hz0', hz1', hz2'⟩ := info_parts Lx.info9
  clear hK ht hx cx hw hl hn hA hcl hA0 hcnt hcs hok hj28
  go_enter Tryz.func44, Tryz.ntmps44
  go_wp2
  go_loopw [5, 6] (fun s5 s6 wr => ∃ (dn : List Bytes) (tv : Value) (iv : Int), tv = s5 ∧ s6 = .int .i64 iv ∧ TxRel i w e A wr tv iv dn) (fun _ s6 _ => (intOf s6 + 1).toNat)
  case atStart => exact ⟨[], _, _, rfl, rfl, HR0.out⟩
  case round =>
    obtain ⟨dn, tv, iv, rfl, rfl, hrel⟩ := hrel
    have HREL := Lib.hid hrel
    rcases hrel.at_ with rfl | ⟨q, hq, rfl, hq28⟩
    · have hdA : dn = A := by have := hrel.all; simpa [restT] using this
      subst hdA
      obtain ⟨-, -, -, -, -, b5⟩ := CX.out.cells (bt HW.out hrel.below) HX.out
      simp only at b5
      obtain ⟨A1, cc, hv, y1, y2, hS⟩ := Tr.Strs.of_own hrel.row
      subst hv
      have HS := Lib.hid hS
      unfold maxLen at y2
      have hll := HL.out
      have hlen := HCNT.out
      have hpos : 0 < dn.length := List.length_pos_iff.2 HA0.out
      have s1 : (str nm).size + 2 ≤ 9223372036854775807 := by rw [Tr.str_size]; have := (callF_len (nm ++ [32, 40]) dn).2; simp at this; omega
      have HAC := Lib.hid (acc_len (nm ++ [32, 40]) dn HA0.out)
      have hst : (Value.string (str nm ++ (⟨#[32, 40]⟩ : ByteArray))) = .string (str (accF (nm ++ [32, 40]) dn dn.length)) := by
        rw [acc_end, ← app_str]; rfl
      have HST := Lib.hid hst
      clear hrel c0 c1 c2 c3 c4 c5 hS hst
      go_wp2
      go_loopw [7, 8] (fun s7 s8 w5 => ∃ (n : Nat) (v : Int), n ≤ dn.length ∧ s7 = .string (str (accF (nm ++ [32, 40]) dn n)) ∧ s8 = .int .i64 v ∧ v + 1 = (n : Int) ∧ w5 = wr) (fun _ s8 _ => (intOf s8 + 1).toNat)
      case atStart => exact ⟨dn.length, _, Nat.le_refl _, HST.out, rfl, by omega, rfl⟩
      case round =>
        obtain ⟨n, v, hn, rfl, rfl, hv, rfl⟩ := hrel
        have hacn := HAC.out n hn
        cases n with
        | zero =>
          have hv1 : v = -1 := by omega
          subst hv1
          rw [acc_zero _ _ HA0.out]
          obtain ⟨F, hF⟩ : ∃ F, callF (nm ++ [32, 40]) dn = F := ⟨_, rfl⟩
          rw [hF] at hll ⊢
          have HF := Lib.hid hF
          have s2 : (str F).size + 2 ≤ 9223372036854775807 := by rw [Tr.str_size]; omega
          clear hF
          go_wp2
          go_ret
          exact ⟨(ret_call F).trans (by rw [HF.out]), HREL.out.below⟩
        | succ m =>
          obtain ⟨a, hat⟩ : ∃ a, dn[m]? = some a := ⟨_, List.getElem?_eq_getElem (by omega)⟩
          obtain ⟨g, o, rfl, hg, hcell⟩ := HS.out m a hat
          have hal : a.length ≤ 100000 := by have := HCL.out a (List.mem_of_getElem? hat); omega
          obtain ⟨F, hF⟩ : ∃ F, accF (nm ++ [32, 40]) dn (m + 1) = F := ⟨_, rfl⟩
          rw [hF] at hacn ⊢
          have s2 : (str F).size + 1 ≤ 9223372036854775807 := by rw [Tr.str_size]; omega
          have s3 : (str F).size + 1 + (str a).size ≤ 9223372036854775807 := by rw [Tr.str_size, Tr.str_size]; omega
          have s4 : (str F).size + 1 + (str a).size + 2 ≤ 9223372036854775807 := by rw [Tr.str_size, Tr.str_size]; omega
          by_cases hm : m = 0
          · subst hm
            have hv1 : v = 0 := by omega
            subst hv1
            have hcell0 : wr.cell? ⟨g, o, none⟩ = some (.string (str a)) := hcell
            have HE := Lib.hid (acc_at0 (nm ++ [32, 40]) dn hat)
            rw [hF] at HE
            clear hat hF hcell
            go_wp2
            exact ⟨⟨0, _, by omega, congrArg Value.string HE.out, rfl, by simp, trivial⟩, by simp [intOf]⟩
          · have hm0 : 0 < m := by omega
            have hv1 : v = (m : Int) := by omega
            subst hv1
            have HE := Lib.hid (acc_at (nm ++ [32, 40]) dn hat hm0)
            rw [hF] at HE
            have hd : decide ((0 : Int) < (m : Int)) = true := by simpa using hm0
            clear hat hF hm hv
            go_wp2
            exact ⟨⟨m, _, by omega, congrArg Value.string HE.out, rfl, by omega, trivial⟩, by simp [intOf]⟩
    · obtain ⟨y, hy⟩ : ∃ y, e[q]? = some y := ⟨_, List.getElem?_eq_getElem (Nat.lt_trans hq hi)⟩
      have hy28 : y.op = 28 := by
        have := hq28; rw [Tr.tree_lab CX.out.may.ahead hy] at this; exact this
      obtain ⟨k, hk, hya, hk28, hst, hnx⟩ := args_step CX.out.may hy hy28
      have hal := hrel.all
      unfold restT at hal
      rw [if_neg (by omega), Int.toNat_natCast, hst] at hal
      have hdn : dn.length + 1 + (restT e y.b).length = A.length := by rw [← hal]; simp; omega
      have htl : (textT (tree e k)).length ≤ 100000 := by
        have := HCL.out (textT (tree e k)) (by rw [← hal]; simp)
        have := HL.out; omega
      have HND := Lib.hid (HN.out k (Nat.lt_trans hk hq) hk28 htl)
      have HNX := Lib.hid hnx
      have HAL := Lib.hid (show (dn ++ [textT (tree e k)]) ++ restT e y.b = A by rw [← hal]; simp)
      obtain ⟨b0, b1, b2, b3, b4, b5⟩ := CX.out.cells (bt HW.out hrel.below) hy
      obtain ⟨tx, htx⟩ : ∃ t, textT (tree e k) = t := ⟨_, rfl⟩
      rw [htx] at HND HAL
      have HB := Lib.hid hrel.below
      have hcn := HCNT.out
      have hll := HL.out
      clear hrel hst hnx hal htl htx hq28 hk28 c0 c1 c2 c3 c4 c5
      obtain ⟨yo, ya, yb, yc, yn, ym⟩ := y
      simp only at hy28 hya b0 b1 b2 b3 b4 b5 HNX HAL hdn
      subst hya
      go_wp2_with fail
      refine (HND.out _ (bt HW.out HB.out)).mono ?_
      rintro r w3 ⟨rfl, hb3⟩
      have HB3 := Lib.hid hb3
      have HO3 := Lib.hid (Tr.own_below HREL.out.row hb3)
      obtain ⟨-, -, d2, -, -, -⟩ := CX.out.cells (bt HW.out (bt HB.out hb3)) hy
      clear hb3 b0 b1 b2 b3 b4 b5
      go_wp2_with (at_builtin; refine wpList_append_lies _ rfl (.tmp 33) (.tmp 41) 66 rfl w.heap.size 9 i1 _ 1 16 Tryz.underlying66 hi' hz0' hz1' hz2' rfl (by decide) tv dn.length _ rfl (HO3.out.alloc _) ⟨w3.heap.size, 0, none⟩ 1 1 [.string (str tx)] rfl rfl ?a2 ?b2 (by omega) ?c2 ?d2 ?e2 (w3.heap.size + 1) ?f2 ?_)
      case a2 => exact World.news_of_block (t := 9) (fr := (0, 0)) (heap_alloc_new _ _)
      case b2 => simp [Value.oneCell']
      case c2 => unfold maxLen; omega
      case d2 => omega
      case e2 => have := HB.out.size; have := HB3.out.size; simp; omega
      case f2 => simp
      intro gg cap w4 hown4 hg4 hat _
      have hb4 : Below w.heap.size w w4 := by
        have z1 := HB.out.size
        have z3 := HB3.out.size
        exact ((bt HB.out HB3.out).alloc (by omega) _).grown hg4 (by simp; omega) (fun j hj => (HREL.out.row.lt j hj).1)
      have HB4 := Lib.hid hb4
      obtain ⟨-, -, d2', -, -, -⟩ := CX.out.cells (bt HW.out hb4) hy
      simp only at d2'
      have HO4 := Lib.hid (show w4.ownsRow w.heap.size 9 1 _ (dn ++ [tx]).length (strsOf (dn ++ [tx])) by
        rw [Tr.strs_snoc, List.length_append]; exact hown4)
      clear hown4 hg4 hat hb4 d2
      have hms : (yb + 1).toNat < ((q : Int) + 1).toNat := by
        rcases HNX.out with h | ⟨j', h1, h2, h3⟩ <;> omega
      go_wp2
      refine ⟨⟨dn ++ [tx], _, yb, rfl, rfl, ⟨HAL.out, HO4.out, HB4.out, ?_⟩⟩, hms⟩
      rcases HNX.out with h | ⟨j', h1, h2, h3⟩
      · exact .inl h
      · exact .inr ⟨j', Nat.lt_trans h1 hq, h2, h3⟩
end Go.Proofs.YtgohhnbdicdenaaGreatDoor.Sh

/- The document's text of every node; of an expression. Conditions: the slice reads as a list of nodes. -/
namespace Go.Proofs.YtgohhnbdicdenaaGreatDoor.Sh
open Go.ChangeShapes Go.WideShapes Go.ChangeAt Go.RowKit
open Go.Proofs.YtgohhnbdicdenaaGreatDoor.Tr (str ret_bool ret_int Bytes Nd T Nodes May tree kidsM mkL mkT fitsB argsL unaryB binaryB ndCells mayB Short root)
set_option linter.unusedVariables false
set_option linter.unusedSimpArgs false

/-- All nodes' texts are what the document writes. -/
theorem all_rok {W0 : World} {G O C : Nat} {e : List Nd} (cx : Cx W0 G O C e) : ∀ (i : Nat) (x : Nd), e[i]? = some x → x.op ≠ 28 → NodeR W0 (.slice (some ⟨G, O, none⟩) e.length C) e i := by
  intro i
  induction i using Nat.strongRecOn with
  | ind i ih =>
    intro x hx n28
    have hi := (List.getElem?_eq_some_iff.1 hx).1
    have kid : ∀ j : Nat, j < i → (tree e j).lab.op ≠ 28 → NodeR W0 (.slice (some ⟨G, O, none⟩) e.length C) e j := fun j hj h => by
      have hg := Tr.of_getD (e := e) (i := j) (by omega)
      refine ih j hj _ hg ?_
      rw [Tr.tree_op cx.may.ahead (by omega)] at h
      exact h
    have part : ∀ j : Nat, j < i → (tree e j).lab.op ≠ 28 → PartR W0 (.slice (some ⟨G, O, none⟩) e.length C) e j := fun j hj h =>
      rpart_of cx (Tr.of_getD (e := e) (i := j) (by omega)) (kid j hj h)
    rcases shape cx.may hx with ⟨ha, hb, hc, ht, ho⟩ | ⟨j, hj, ha, hb, hc, ht, ho⟩ | ⟨j, k, hj, hk, hbn, ha, hb, hc, ht, h1, h2⟩ | ⟨j, k, hj, hk, h28, hb, ha, hc, ht, h1, h2⟩ | ⟨j, k, m, hj, hk, hm, h26, ha, hb, hc, ht, h1, h2, h3⟩
    · rcases ho with ho | ho | ho | ho
      · exact rnode_num cx hx ho ht
      · exact rnode_bool cx hx ho ht
      · exact rnode_var cx hx ho ht
      · exact rnode_call cx hx ho (fun hl => rcall_none cx hx ho ha ht hl)
    · rcases ho with ⟨hu, hj28⟩ | ⟨h27, hj28⟩ | ⟨h28, hj28⟩
      · by_cases h25 : x.op = 25
        · exact rnode_within cx hx h25 ha ht (part j hj hj28)
        · exact rnode_un cx hx hu h25 ha ht (part j hj hj28)
      · exact rnode_call cx hx h27 (fun hl => rcall_some cx hx h27 ha hj ht hj28 kid hl)
      · exact absurd h28 n28
    · exact rnode_bin cx hx hbn ha hb ht (part j hj h1) (part k hk h2)
    · exact absurd h28 n28
    · exact rnode_if cx hx h26 ha hb hc ht (kid j hj h1) (kid k hk h2) (kid m hm h3)
end Go.Proofs.YtgohhnbdicdenaaGreatDoor.Sh

/- The document's Show writes the text of an expression that can be written. Conditions: the slice reads as a list of at most 2000 nodes; the tables lie in memory. -/
namespace Go.Proofs.YtgohhnbdicdenaaGreatDoor.Sh
open Go.ChangeShapes Go.WideShapes Go.ChangeAt Go.RowKit
open Go.Proofs.YtgohhnbdicdenaaGreatDoor.Tr (str ret_bool ret_int Bytes Nd T Nodes May tree kidsM mkL mkT fitsB argsL unaryB binaryB ndCells mayB Short root)
set_option linter.unusedVariables false
set_option linter.unusedSimpArgs false

set_option maxRecDepth 100000 in
set_option maxHeartbeats 1600000 in
theorem rshow_any (v : Value) (e : List Nd) (w : World) (hv : Nodes w v e) (hs : Short e) (hw : ShAt w) (hl2 : e.length ≤ 2000) :
    Calls Tryz.prog 11 #[v] w fun r w' => r = .returned (.string (str (showM e))) ∧ Below w.heap.size w w' := by
  have HM := Lib.hid (rsmay_any v e w hv hs)
  cases hm : smayB e with
  | false =>
    have HE := Lib.hid (show_no hm)
    rw [hm] at HM
    rw [HE.out]
    obtain ⟨A, c, rfl, h1, h2, hA⟩ := hv
    unfold maxLen at h2
    clear hA hs hw hm
    go_enter Tryz.func11, Tryz.ntmps11
    go_wp2_with fail
    refine HM.out.mono ?_
    rintro r w1 ⟨rfl, hb1⟩
    have HB1 := Lib.hid hb1
    clear hb1
    go_wp2
    go_ret
    exact ⟨rfl, HB1.out⟩
  | true =>
    obtain ⟨hmay, hnm⟩ := smay_may hm
    have hE : showM e = textT (root e) := by unfold showM; rw [if_pos hm]
    rw [hm] at HM
    have hsz : (root e).size = e.length := hmay.size
    have hpos := hmay.pos
    have hcost := (toks_good _ (okT_root hmay).1 hnm).2
    have hjl : (textT (root e)).length ≤ 100000 := by have := join_cost (toks (root e)); unfold textT; omega
    obtain ⟨G, O, C, rfl⟩ : ∃ G O C, v = .slice (some ⟨G, O, none⟩) e.length C := by
      obtain ⟨A, c, rfl, h1, h2, hA⟩ := hv
      obtain ⟨g, o, rfl, _⟩ := hA 0 _ (List.getElem?_eq_getElem hpos)
      exact ⟨g, o, c, rfl⟩
    have hc : C ≤ maxLen ∧ e.length ≤ C := by
      obtain ⟨A, c, hh, h1, h2, hA⟩ := hv
      simp at hh
      obtain ⟨rfl, rfl⟩ := hh
      exact ⟨h2, h1⟩
    have hg := Tr.of_getD (e := e) (i := e.length - 1) (by omega)
    have hP := all_rok (W0 := w) ⟨hv, hw.sg, hw.tab, hmay⟩ (e.length - 1) _ hg (by
      have h := hmay.last
      first
        | exact h
        | (rw [Tr.tree_op hmay.ahead (by omega)] at h; exact h))
    have HP := Lib.hid (hP hjl)
    rw [hE]
    have htr : textT (tree e (e.length - 1)) = textT (root e) := rfl
    rw [htr] at HP
    generalize textT (root e) = K at *
    have hi : (e.length : Int) - 1 = ((e.length - 1 : Nat) : Int) := by omega
    have HI := Lib.hid hi
    have hc1 := hc.1
    have hc2 := hc.2
    unfold maxLen at hc1
    clear hE hm hmay hnm hsz hcost hjl hP hv hs hw hi hc hg htr
    go_enter Tryz.func11, Tryz.ntmps11
    go_wp2_with fail
    refine HM.out.mono ?_
    rintro r w1 ⟨rfl, hb1⟩
    have HB1 := Lib.hid hb1
    have HPQ := Lib.hid (HP.out w1 hb1)
    rw [← HI.out] at HPQ
    clear hb1
    go_wp2_with fail
    refine HPQ.out.mono ?_
    rintro r w2 ⟨rfl, hb2⟩
    have HB2 := Lib.hid hb2
    clear hb2
    go_wp2
    go_ret
    exact ⟨rfl, bt HB1.out HB2.out⟩
end Go.Proofs.YtgohhnbdicdenaaGreatDoor.Sh


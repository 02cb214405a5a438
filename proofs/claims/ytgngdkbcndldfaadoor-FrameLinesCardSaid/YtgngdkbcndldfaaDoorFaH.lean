/- A line's words as numbers, by the program and by the document. Conditions: lengths within a machine's; the library's variables read as they are laid. -/
import Derived.Test.YtgngdkbcndldfaaDoorFaG
namespace Go.Proofs.YtgngdkbcndldfaaDoor.Fr
open Go.ChangeShapes Go.WideShapes Go.ChangeAt Go.RowKit Go.Proofs.YtgngdkbcndldfaaDoor.Tr
set_option linter.unusedVariables false
set_option linter.unusedSimpArgs false

/-- What a line's row is: numbers of one's own, or that there is none. -/
def RowPost (o : Option (List Int)) (w : World) (e : Ending) (w' : World) : Prop :=
  Below w.heap.size w w' ∧ ((o = none ∧ e = .returned (.tuple #[.slice none 0 0, .bool false])) ∨ ∃ r A c, o = some r ∧ e = .returned (.tuple #[.slice A r.length c, .bool true]) ∧ w'.ownsRow w.heap.size 3 1 (.slice A r.length c) r.length (intsOf r))
/-- The first k numbers. -/
structure RwAt (ts : List Int) (ws : List Bs) (R : List Int) (k : Nat) : Prop where
  len : R.length = k
  each : ∀ (i : Nat) (t : Int) (w : Bs) (n : Int), i < k → ts[i]? = some t → ws[i]? = some w → R[i]? = some n → numberM t w = some n
theorem RwAt.start (ts : List Int) (ws : List Bs) : RwAt ts ws [] 0 := ⟨rfl, fun i t w n h => by omega⟩
theorem RwAt.snoc {ts : List Int} {ws : List Bs} {R : List Int} {k : Nat} {t n : Int} {w : Bs} (h : RwAt ts ws R k) (ht : ts[k]? = some t) (hw : ws[k]? = some w) (hn : numberM t w = some n) : RwAt ts ws (R ++ [n]) (k + 1) := by
  refine ⟨by simp [h.len], fun i t' w' n' hi h1 h2 h3 => ?_⟩
  by_cases e : i = k
  · subst e
    rw [ht] at h1; rw [hw] at h2
    rw [List.getElem?_append_right (by rw [h.len]; exact Nat.le_refl _), h.len] at h3
    simp at h3
    cases h1; cases h2; cases h3
    exact hn
  · rw [List.getElem?_append_left (by rw [h.len]; omega)] at h3
    exact h.each i t' w' n' (by omega) h1 h2 h3
theorem RwAt.row {ts : List Int} {ws : List Bs} {R : List Int} {k : Nat} (h : RwAt ts ws R k) (h1 : ts.length = k) (h2 : ws.length = k) : rowM ts ws = some R :=
  (rowM_iff ts ws R).2 ⟨by omega, by rw [h.len]; exact h1.symm, fun i t w n a b c => h.each i t w n (by have := (List.getElem?_eq_some_iff.1 a).1; omega) a b c⟩

theorem words_small (S : Bs) : (∀ x ∈ wordsM S, x.length ≤ S.length) ∧ (wordsM S).length ≤ S.length + 1 := by
  have h2 : ∀ (s p : Bs), (∀ x ∈ wordsG p s, x.length ≤ p.length + s.length) ∧ (wordsG p s).length ≤ s.length + 1 := by
    intro s
    induction s with
    | nil =>
      intro p
      rw [wordsG_end]
      split <;> simp
    | cons c r ih =>
      intro p
      simp only [wordsG]
      split
      · split
        · have := ih []
          exact ⟨fun x hx => by have := this.1 x hx; simp at this ⊢; omega, by have := this.2; simp; omega⟩
        · have := ih []
          refine ⟨fun x hx => ?_, by have := this.2; simp; omega⟩
          simp only [List.mem_cons] at hx
          rcases hx with rfl | hx
          · simp
          · have := this.1 x hx; simp at this ⊢; omega
      · have := ih (p ++ [c])
        exact ⟨fun x hx => by have := this.1 x hx; simp at this ⊢; omega, by have := this.2; simp; omega⟩
  have := h2 S []
  exact ⟨fun x hx => by have := this.1 x hx; simpa using this, this.2⟩

set_option maxRecDepth 100000 in
set_option maxHeartbeats 2000000 in
theorem drow_any (w : World) (tv : Value) (ts : List Int) (S : Bs) (ht : Ints w tv ts) (hS : S.length ≤ 1000000) :
    Calls Tryd.prog 19 #[tv, .string (bs S)] w (RowPost (rowM ts (wordsM S)) w) := by
  obtain ⟨i0, hi0, hz0, hz1, hz3⟩ := info_parts info3
  obtain ⟨A, c, rfl, z1, z2⟩ := ints_form ht
  have HT := Lib.hid ht
  have HW := Lib.hid (dwords_any w S hS)
  obtain ⟨hws1, hws2⟩ := words_small S
  obtain ⟨ws, hws⟩ : ∃ ws, wordsM S = ws := ⟨_, rfl⟩
  have HWS : Hid (∀ x ∈ ws, x.length ≤ 1000000) := Lib.hid (fun x hx => by have := hws1 x (by rw [hws]; exact hx); omega)
  have hm6 : ws.length ≤ 1000001 := by rw [← hws]; omega
  rw [hws] at HW ⊢
  clear hws hws1 hws2
  obtain ⟨n, hn⟩ : ∃ n, ts.length = n := ⟨_, rfl⟩
  rw [hn] at HT z1 ⊢
  have HN := Lib.hid hn
  unfold maxLen at z2
  clear ht hn hS
  go_enter Tryd.func19, Tryd.ntmps19
  go_wp2_with fail
  refine HW.out.mono ?_
  rintro e w1 ⟨v, rfl, hs, hb⟩
  obtain ⟨WA, wc, rfl, y1, y2⟩ := hs.form
  have HST := Lib.hid hs
  have HB := Lib.hid hb
  have HT1 := Lib.hid (HT.out.below hb (Nat.le_refl _))
  have hw01 := hb.size
  clear hs hb
  obtain ⟨m, hm⟩ : ∃ m, ws.length = m := ⟨_, rfl⟩
  rw [hm] at HST y1 hm6 ⊢
  have HM := Lib.hid hm
  unfold maxLen at y2
  clear hm
  by_cases hlen : m = n
  · have hle : ((m : Int) != (n : Int)) = false := by simp [hlen]
    subst hlen
    go_wp2_with fail
    go_loopw [7, 8] (fun v vi wr => ∃ (k : Nat) (R : List Int), RwAt ts ws R k ∧ k ≤ m ∧ vi = .int .i64 (k : Int) ∧ wr.ownsRow w1.heap.size 3 1 v k (intsOf R) ∧ Below w1.heap.size w1 wr) (fun _ vi _ => m - (intOf vi).toNat)
    case atStart => exact ⟨0, [], RwAt.start ts ws, Nat.zero_le _, rfl, World.ownsRow_nil _ _ _ _, Below.refl _ _⟩
    case round =>
      obtain ⟨k, R, hR, hk, rfl, hr, hb⟩ := hrel
      have HR := Lib.hid hR
      have HO := Lib.hid hr
      have HBr := Lib.hid hb
      have hw1 := hb.size
      clear hR hr hb
      by_cases hlt : k < m
      · obtain ⟨t, htk⟩ : ∃ t, ts[k]? = some t := ⟨_, List.getElem?_eq_getElem (by rw [HN.out]; exact hlt)⟩
        obtain ⟨x, hxk⟩ : ∃ x, ws[k]? = some x := ⟨_, List.getElem?_eq_getElem (by rw [HM.out]; exact hlt)⟩
        obtain ⟨g, o, rfl, hg, a0⟩ := ints_at (HT1.out.below HBr.out (Nat.le_refl _)) htk
        obtain ⟨g', o', rfl, hg', b0⟩ := (HST.out.below HBr.out (Nat.le_refl _)).at hxk
        have HXL := Lib.hid (HWS.out x (List.mem_of_getElem? hxk))
        have HTK := Lib.hid htk
        have HXK := Lib.hid hxk
        have HKS : Hid (∀ W, Below wr.heap.size wr W → W.cell? ⟨g, o + k, none⟩ = some (.int .i64 t) ∧ W.cell? ⟨g', o' + k, none⟩ = some (.string (bs x))) := Lib.hid (fun W hW => ⟨(hW.cell hg).trans a0, (hW.cell hg').trans b0⟩)
        have HBcur : Hid (Below wr.heap.size wr wr.drew) := Lib.hid (Below.refl _ _).drew
        clear htk hxk a0 b0
        go_wp2_with fail
        go_region_held3 (fun W => W.cell? ⟨g, o + k, none⟩ = some (.int .i64 t) ∧ W.cell? ⟨g', o' + k, none⟩ = some (.string (bs x)))
          (exact HKS.out _ HBcur.out)
          (first | (go_at_call 34; with_reducible refine (dword_any _ t x HXL.out).mono ?_; rintro e z1 ⟨nn, b, rfl, hnum, hbz⟩; have HBcur := Lib.hid (HBcur.out.trans (hbz.mono HBcur.out.size)); have HNUM := Lib.hid hnum; clear hbz hnum))
        all_goals
          have HOz := Lib.hid (own_below HO.out HBcur.out)
          have HBz : Hid (Below w1.heap.size w1 z1) := Lib.hid (HBr.out.trans (HBcur.out.mono hw1))
          have hwz := HBz.out.size
          cases b with
          | false =>
            have HRN : Hid (rowM ts ws = none) := Lib.hid (rowM_bad ts ws k t x HTK.out HXK.out (by have := HNUM.out; simpa using this))
            have HP : Hid (RowPost (rowM ts ws) w (.returned (.tuple #[.slice none 0 0, .bool false])) z1) := Lib.hid ⟨HB.out.trans (HBz.out.mono hw01), .inl ⟨HRN.out, rfl⟩⟩
            clear HNUM
            go_wp2_with fail
            refine bodyPost_ret (v := .tuple #[.slice none 0 0, .bool false]) (by simp [results, Tryd.results19, go_sem]) rfl HP.out
          | true =>
            have HRS := Lib.hid (HR.out.snoc HTK.out HXK.out (by have := HNUM.out; simpa using this))
            have HSN := Lib.hid (ints_snoc R nn)
            clear HNUM
            go_wp2_with (at_builtin; refine wpList_append_lies _ rfl (.tmp 38) (.tmp 40) 22 rfl w1.heap.size 3 i0 _ 1 8 Tryd.underlying22 hi0 hz0 hz1 hz3 rfl (by decide) u7 k _ rfl (HOz.out.alloc _) ⟨z1.heap.size, 0, none⟩ 1 1 [.int .i64 nn] rfl rfl ?a2 ?b2 (by omega) ?c2 ?d2 ?e2 (z1.heap.size + 1) ?f2 ?_)
            case a2 => exact World.news_of_block (t := 3) (fr := (0, 0)) (heap_alloc_new _ _)
            case b2 => simp [Value.oneCell']
            case c2 => unfold maxLen; omega
            case d2 => omega
            case e2 => simp; omega
            case f2 => simp
            intro gg cap w4 hown4 hg4 hat _
            rw [← HSN.out] at hown4
            have HE : Hid (w4.ownsRow w1.heap.size 3 1 (.slice (some ⟨gg, 0, none⟩) (k + 1) cap) (k + 1) (intsOf (R ++ [nn])) ∧ Below w1.heap.size w1 w4) := Lib.hid ⟨hown4, (HBz.out.trans ((below_new z1 _).mono hwz)).grown hg4 (by simp; omega) (fun g e => (HOz.out.lt g e).1)⟩
            clear hown4 hg4 hat
            go_wp2
            refine ⟨⟨k + 1, R ++ [nn], HRS.out, by omega, by go_num, HE.out.1, HE.out.2⟩, by first | (simp [intOf]; done) | (simp [intOf]; omega)⟩
      · obtain rfl : k = m := by omega
        have HRW := Lib.hid (HR.out.row HN.out HM.out)
        have hlenR := HR.out.len
        obtain ⟨RA, rc, rfl⟩ : ∃ RA rc, u7 = .slice RA k rc := by
          rcases HO.out.2 with ⟨h1, h2⟩ | ⟨gg, cap, cur, h1, _⟩
          · exact ⟨none, 0, by rw [h1, h2]⟩
          · exact ⟨_, _, h1⟩
        have HP : Hid (RowPost (rowM ts ws) w (.returned (.tuple #[.slice RA k rc, .bool true])) wr) := Lib.hid ⟨HB.out.trans (HBr.out.mono hw01), .inr ⟨R, RA, rc, HRW.out, by rw [hlenR], by rw [hlenR]; exact own_base HO.out hw01⟩⟩
        clear hlenR
        go_wp2_with fail
        refine bodyPost_ret (v := .tuple #[.slice RA k rc, .bool true]) (by simp [results, Tryd.results19, go_sem]) rfl HP.out
  · have hle : ((m : Int) != (n : Int)) = true := by rw [bne_iff_ne]; omega
    have HP : Hid (RowPost (rowM ts ws) w (.returned (.tuple #[.slice none 0 0, .bool false])) w1) := Lib.hid ⟨HB.out, .inl ⟨rowM_none_len ts ws (by rw [HM.out, HN.out]; exact hlen), rfl⟩⟩
    go_wp2_with fail
    refine bodyPost_ret (v := .tuple #[.slice none 0 0, .bool false]) (by simp [results, Tryd.results19, go_sem]) rfl HP.out
end Go.Proofs.YtgngdkbcndldfaaDoor.Fr

/- How often a text stands among some; the map of the first places of names; the closure of Put. Conditions: slices are read as lists. -/
import Derived.Test.YtmggedjolocgdaaTreeXa
import Derived.Test.YtmggedjolocgdaaTreeJe
namespace Go.Proofs.Ytmggedjolocgdaa.Tr
open Go.ChangeShapes Go.WideShapes Go.ChangeAt Go.RowKit Go.Maps Go.WideMaps
set_option linter.unusedVariables false
set_option linter.unusedSimpArgs false

theorem count_next (l : List Bytes) (k : Nat) (x s : Bytes) (h : l[k]? = some x) : (l.take (k + 1)).count s = (l.take k).count s + if x == s then 1 else 0 := by
  rw [List.take_add_one, h, show (some x).toList = [x] from rfl, List.count_append, List.count_singleton]
theorem count_le (l : List Bytes) (k : Nat) (s : Bytes) : (l.take k).count s ≤ k := Nat.le_trans List.count_le_length (List.length_take_le _ _)
set_option maxHeartbeats 800000 in
theorem count_any (v : Value) (l : List Bytes) (s : Bytes) (w : World) (hv : Strs w v l) : Calls Try.prog 31 #[v, .string (str s)] w fun e w' => e = .returned (.int .i64 ((l.count s : Nat) : Int)) ∧ w = w' := by
  obtain ⟨A, c, rfl, h1, h2, hA⟩ := hv
  unfold maxLen at h2
  have HA := Lib.hid hA
  clear hA
  go_enter Try.func31, Try.ntmps31
  go_wp2
  go_loop [5, 6] (fun n i => ∃ k m : Nat, k ≤ l.length ∧ m ≤ k ∧ i = .int .i64 k ∧ n = .int .i64 m ∧ Hid ((l.take k).count s = m)) (fun _ i => l.length - (intOf i).toNat)
  case atStart => exact ⟨0, 0, Nat.zero_le _, Nat.le_refl _, rfl, rfl, by rw [List.take_zero]; rfl⟩
  case round =>
    obtain ⟨k, m, hk, hmk, rfl, rfl, hn⟩ := hrel
    by_cases hlt : k < l.length
    · obtain ⟨x, hx⟩ : ∃ x, l[k]? = some x := ⟨_, List.getElem?_eq_getElem hlt⟩
      obtain ⟨g, o, rfl, hg, a0⟩ := HA.out k x hx
      have HX := Lib.hid (count_next l k x s hx)
      clear hx
      rcases Bool.eq_false_or_eq_true (x == s) with hq | hq
      · have HR := Lib.hid (show (l.take (k + 1)).count s = m + 1 by rw [HX.out, hq, hn.out]; rfl)
        have hb : ((str x).toList == (str s).toList) = true := by rw [str_beq]; exact hq
        go_wp2
        refine ⟨⟨k + 1, m + 1, by omega, by omega, by go_num, by go_num, HR.out⟩, by simp [intOf]; omega⟩
      · have HR := Lib.hid (show (l.take (k + 1)).count s = m by rw [HX.out, hq, hn.out]; simp)
        have hb : ((str x).toList == (str s).toList) = false := by rw [str_beq]; exact hq
        go_wp2
        refine ⟨⟨k + 1, m, by omega, by omega, by go_num, rfl, HR.out⟩, by simp [intOf]; omega⟩
    · have HR := Lib.hid (show l.count s = m by have := hn.out; rwa [List.take_of_length_le (by omega)] at this)
      go_wp2
      go_ret
      exact ⟨by rw [HR.out]; rfl, rfl⟩

/-- The map tells the first places of names. -/
structure First (D : DataW Unit) (l : List Bytes) : Prop where
  has : ∀ s, Maps.has D (.string s) = (placeM l s).isSome
  at_ : ∀ s k, placeM l s = some k → D.atKey (.string s) (.lit (.int .i64 0)) = .lit (.int .i64 (k : Int))
theorem place_snoc (a s : Bytes) : ∀ l : List Bytes, placeM (l ++ [a]) s = match placeM l s with | some k => some k | none => if a == s then some l.length else none := by
  intro l
  induction l with
  | nil => simp [placeM]
  | cons b r ih =>
    simp only [List.cons_append, placeM]
    by_cases hb : (b == s) = true
    · rw [if_pos hb, if_pos hb]
    · rw [if_neg hb, if_neg hb, ih]
      cases placeM r s with
      | some k => rfl
      | none => by_cases ha : (a == s) = true <;> simp [ha]
theorem First.old {D : DataW Unit} {l : List Bytes} {a : Bytes} (h : First D l) (ha : (placeM l a).isSome = true) : First D (l ++ [a]) := by
  have e : ∀ s, placeM (l ++ [a]) s = placeM l s := fun s => by
    rw [place_snoc]
    cases hs : placeM l s with
    | some k => rfl
    | none =>
      by_cases hq : (a == s) = true
      · rw [beq_iff_eq] at hq; subst hq; rw [hs] at ha; simp at ha
      · simp [hq]
  exact ⟨fun s => by rw [e]; exact h.has s, fun s k hk => h.at_ s k (by rw [← e]; exact hk)⟩
theorem First.new {D : DataW Unit} {l : List Bytes} {a : Bytes} (h : First D l) (ht : Tidy D) (ha : (placeM l a).isSome = false) : First (D.put (.string a) (.lit (.int .i64 (l.length : Int)))) (l ++ [a]) := by
  have hm : IsMap D := by obtain ⟨es, rfl, _⟩ := ht; exact ⟨es, rfl⟩
  have hn : placeM l a = none := by cases hs : placeM l a with
    | none => rfl
    | some k => rw [hs] at ha; simp at ha
  refine ⟨fun s => ?_, fun s k hk => ?_⟩
  · rw [place_snoc]
    by_cases hq : s = a
    · subst hq
      rw [has_put_same hm (by trivial), hn]; simp
    · have hq' : (a == s) = false := by rw [beq_eq_false_iff_ne]; exact fun h => hq h.symm
      rw [has_put_other (by intro h; injection h with h; exact hq h), h.has]
      cases placeM l s <;> simp [hq']
  · rw [place_snoc] at hk
    by_cases hq : s = a
    · subst hq
      rw [hn] at hk
      simp at hk
      subst hk
      exact atKey_put_same hm (by trivial) _ _
    · have hq' : (a == s) = false := by rw [beq_eq_false_iff_ne]; exact fun h => hq h.symm
      rw [atKey_put_other (by intro h; injection h with h; exact hq h)]
      cases hs : placeM l s with
      | some j => rw [hs] at hk; simp at hk; subst hk; exact h.at_ s j hs
      | none => rw [hs] at hk; simp [hq'] at hk

/-- What is put in a node's place. -/
def putP (names : List Bytes) (ps : List (List Nd)) (x : Nd) : List Nd := if x.op = 3 then (match placeM names x.name with | some k => ps.getD k [] | none => []) else []
theorem zero3 (w : World) : (zeroValue 3).run Try.prog w = .ok (.int .i64 0) w := by kernel_rfl
/-- What a call of the closure leaves. -/
def PutPost (w : World) (b : Nat) (l : List Nd) (r : Ending) (w' : World) : Prop :=
  ∃ u, r = .returned u ∧ Nodes w' u l ∧ (0 < l.length → ∀ g o n c, u = .slice (some ⟨g, o, none⟩) n c → g < b) ∧ Below w.heap.size w w'
theorem put_none (w w' : World) (b : Nat) (h : Below w.heap.size w w') : PutPost w b [] (.returned (.slice none 0 0)) w' := ⟨_, rfl, ⟨none, 0, rfl, by simp, by unfold maxLen; omega, fun i t h => by simp at h⟩, fun h => by simp at h, h⟩

set_option maxRecDepth 100000 in
set_option maxHeartbeats 1000000 in
theorem put1_any (x : Nd) (p1 p2 : Addr) (B m b : Nat) (D : DataW Unit) (names : List Bytes) (pv : Value) (ps : List (List Nd)) (w : World) (h1 : w.cell? p1 = some (.map (some B))) (h2 : w.cell? p2 = some pv)
    (hp : Parts w b pv ps) (hm : w.ownsMap Try.prog 9 (plainElem Try.prog 3) B m D) (hD : First D names) (hlen : names.length = ps.length) (hx : x.name.length ≤ maxLen) :
    Calls Try.prog 51 #[.agg #[.int .i64 x.op, .int .i64 x.a, .int .i64 x.b, .int .i64 x.c, .int .i64 x.n, .string (str x.name)], .pointer (some p1), .pointer (some p2)] w (PutPost w b (putP names ps x)) := by
  have hkey := key_name x.name hx
  have hB := Lib.hid (hm.alloc (.cells #[.int .i64 x.op, .int .i64 x.a, .int .i64 x.b, .int .i64 x.c, .int .i64 x.n, .string (str x.name)] 30))
  have hb1 := World.block_lt_of_cell? w _ h1
  have hb2 := World.block_lt_of_cell? w _ h2
  have q1 : p1.block ≠ w.heap.size := by omega
  have q2 : p2.block ≠ w.heap.size := by omega
  obtain ⟨A, c, rfl, y1, y2, hA⟩ := hp
  unfold maxLen at y2
  have HA := Lib.hid hA
  have HH := Lib.hid (hD.has x.name)
  have HAT := Lib.hid (hD.at_ x.name)
  clear hA hm
  cases hpl : placeM names x.name with
  | none =>
    have hh : Maps.has D (.string x.name) = false := by rw [HH.out, hpl]; rfl
    have HP := Lib.hid (show putP names ps x = [] by unfold putP; rw [hpl]; split <;> rfl)
    rw [HP.out]
    clear hpl hD
    go_enter Try.func51, Try.ntmps51
    go_wp2_with (at_lookup; refine wpList_lookup_own_ok_int _ rfl _ _ 64 rfl 9 3 .i64 law9 Try.underlying64 Try.underlying3 (zero3 _) B m _ rfl hB.out _ _ rfl hkey ?_; intro c hat hwc)
    go_ret
    exact put_none _ _ _ ((Below.refl _ _).alloc (Nat.le_refl _) _)
  | some k =>
    have hh : Maps.has D (.string x.name) = true := by rw [HH.out, hpl]; rfl
    have hk := (List.getElem?_eq_some_iff.1 (place_some _ _ _ hpl)).1
    obtain ⟨l, hl⟩ : ∃ l, ps[k]? = some l := ⟨_, List.getElem?_eq_getElem (by omega)⟩
    obtain ⟨g, o, u, rfl, hgb, hg, c0, hu, hul⟩ := HA.out k l hl
    have q3 : g ≠ w.heap.size := by omega
    have HPL := Lib.hid hpl
    have HL := Lib.hid hl
    have hkc : k < ps.length := by omega
    have HU := Lib.hid hu
    have HUL := Lib.hid hul
    clear hpl hD hl hu hul
    by_cases ho : x.op = 3
    · have ho' : (x.op == 3) = true := by simp [ho]
      have HP := Lib.hid (show putP names ps x = l by unfold putP; rw [if_pos ho, HPL.out]; simp [List.getD, HL.out])
      rw [HP.out]
      clear ho
      go_enter Try.func51, Try.ntmps51
      go_wp2_with (at_lookup; refine wpList_lookup_own_ok_int _ rfl _ _ 64 rfl 9 3 .i64 law9 Try.underlying64 Try.underlying3 (zero3 _) B m _ rfl hB.out _ _ rfl hkey ?_; intro c hat hwc; have hck : c = (k : Int) := (by have := (hat.symm.trans (HAT.out k HPL.out)); injection this with this; injection this); clear hat hwc; subst hck)
      go_ret
      exact ⟨_, rfl, HU.out.below (below_new w _) (Nat.le_refl _), HUL.out, below_new w _⟩
    · have ho' : (x.op == 3) = false := by simp [ho]
      have HP := Lib.hid (show putP names ps x = [] by unfold putP; rw [if_neg ho])
      rw [HP.out]
      clear ho
      go_enter Try.func51, Try.ntmps51
      go_wp2_with (at_lookup; refine wpList_lookup_own_ok_int _ rfl _ _ 64 rfl 9 3 .i64 law9 Try.underlying64 Try.underlying3 (zero3 _) B m _ rfl hB.out _ _ rfl hkey ?_; intro c hat hwc)
      go_ret
      exact put_none _ _ _ ((Below.refl _ _).alloc (Nat.le_refl _) _)
end Go.Proofs.Ytmggedjolocgdaa.Tr

/- The document's tables: a row's values. Conditions: at most 62 variables. The document's tables: the first row at which one is true. Conditions: at most 20 variables. -/
import Derived.Test.YtfohjlepknnleaaBdOc
import Derived.Deep.AppendLies
namespace Go.Proofs.Ytfohjlepknnleaa.Bd
open Go.ChangeShapes Go.WideShapes Go.ChangeAt Go.RowKit Go.IntWalk
set_option linter.unusedVariables false
set_option linter.unusedSimpArgs false

theorem own_bools {W : World} {b n : Nat} {v : Value} {l : List Bool} (h : W.ownsRow b 4 1 v n (l.map Value.bool)) (hn : l.length = n) : BoolsAt W v l := by
  subst hn
  rcases h.2 with ⟨rfl, h0⟩ | ⟨g, cap, cur, rfl, h2, h3, h4, h5, h6, h7⟩
  · exact ⟨none, 0, by rw [h0], fun i x hx => by have := (List.getElem?_eq_some_iff.mp hx).1; omega⟩
  · refine ⟨_, _, rfl, fun i x hx => ⟨g, 0, rfl, ?_⟩⟩
    have hi := (List.getElem?_eq_some_iff.mp hx).1
    have h8 : (l.map Value.bool)[i]? = some (.bool x) := by rw [List.getElem?_map, hx]; rfl
    rw [← h7, List.getElem?_take_of_lt (by omega)] at h8
    unfold World.cell?
    simp only [h3, Nat.zero_add]
    rw [← Array.getElem?_toList] at *
    simpa using h8
theorem map_snoc (g : Nat → Bool) (i : Nat) : List.map (Value.bool ∘ g) (List.range i) ++ [.bool (g i)] = List.map Value.bool ((List.range (i + 1)).map g) := by
  rw [List.range_succ, List.map_append, List.map_append, List.map_map]
  rfl

set_option maxRecDepth 100000 in
set_option maxHeartbeats 1600000 in
theorem rrow_any (w : World) (k vars : Nat) (hv : vars ≤ 62) (hk : k < 2 ^ vars) :
    Calls Try.prog 29 #[.int .i64 (k : Int), .int .i64 (vars : Int)] w (fun e w' => ∃ v, e = .returned v ∧ BoolsAt w' v ((List.range vars).map (rowF vars k)) ∧ Below w.heap.size w w') := by
  have HDG : Hid (∀ W i, i < vars → Calls Try.prog 44 #[.int .i64 (k : Int), .int .i64 (i : Int), .int .i64 (vars : Int)] W (fun e w' => e = .returned (.bool (rowF vars k i)) ∧ w' = W)) := Lib.hid (fun W i hi => digit_any W vars k i hv hi hk)
  obtain ⟨i0, hi0, hz0⟩ := Option.map_eq_some_iff.1 infoB
  simp only [Prod.mk.injEq] at hz0
  obtain ⟨hz0, hz1, hz3⟩ := hz0
  clear hk
  go_enter Try.func29, Try.ntmps29
  go_wp2_with fail
  go_loopw [5, 6] (fun v vi wr => ∃ i : Nat, i ≤ vars ∧ vi = .int .i64 (i : Int) ∧ wr.ownsRow w.heap.size 4 1 v i (List.map Value.bool ((List.range i).map (rowF vars k))) ∧ Below w.heap.size w wr) (fun _ vi _ => vars - intV vi)
  case atStart => exact ⟨0, Nat.zero_le _, rfl, World.ownsRow_nil _ _ _ _, Below.refl _ _⟩
  case round =>
    obtain ⟨i, hi, rfl, hr, hb⟩ := hrel
    by_cases hin : i < vars
    · have HO := Lib.hid hr
      have HB := Lib.hid hb
      have HC := Lib.hid (HDG.out wr i hin)
      have hsz := hb.size
      clear hr hb
      go_wp2_with fail
      refine HC.out.mono ?_
      rintro e w' ⟨rfl, hw'⟩
      subst hw'
      go_wp2_with (at_builtin; refine wpList_append_lies _ rfl (.tmp 12) (.tmp 17) 28 rfl w.heap.size 4 i0 _ 1 1 Try.underlying28 hi0 hz0 hz1 hz3 rfl (by decide) u5 i _ rfl (HO.out.alloc _) ⟨w'.heap.size, 0, none⟩ 1 1 [.bool (rowF vars k i)] rfl rfl ?a2 ?b2 (by omega) ?c2 ?d2 ?e2 (w'.heap.size + 1) ?f2 ?_)
      case a2 => exact World.news_of_block (t := 4) (fr := (0, 0)) (heap_alloc_new _ _)
      case b2 => simp [Value.oneCell']
      case c2 => unfold maxLen; omega
      case d2 => omega
      case e2 => simp; omega
      case f2 => simp
      intro gg cap w4 hown4 hg4 hat _
      rw [map_snoc] at hown4
      have HE : Hid (w4.ownsRow w.heap.size 4 1 (.slice (some ⟨gg, 0, none⟩) (i + 1) cap) (i + 1) (List.map Value.bool ((List.range (i + 1)).map (rowF vars k))) ∧ Below w.heap.size w w4) := Lib.hid ⟨hown4, (HB.out.trans ((below_new w' _).mono hsz)).grown hg4 (by simp; omega) (fun g e => (HO.out.lt g e).1)⟩
      clear hown4 hg4 hat
      go_wp2
      refine ⟨⟨i + 1, by omega, by go_num, HE.out.1, HE.out.2⟩, by simp [intV]; omega⟩
    · obtain rfl : i = vars := by omega
      have HE : Hid (BoolsAt wr u5 ((List.range i).map (rowF i k)) ∧ Below w.heap.size w wr) := Lib.hid ⟨own_bools hr (by simp), hb⟩
      clear hr hb
      go_wp2_with fail
      refine bodyPost_ret (v := u5) (by simp [results, Try.results29, go_sem]) rfl ⟨_, rfl, HE.out.1, HE.out.2⟩
end Go.Proofs.Ytfohjlepknnleaa.Bd

namespace Go.Proofs.Ytfohjlepknnleaa.Bd
open Go.ChangeShapes Go.WideShapes Go.ChangeAt Go.RowKit Go.IntWalk
set_option linter.unusedVariables false
set_option linter.unusedSimpArgs false

/-- What the first true row of a table is. -/
def FirstPost (w : World) (l : List Bool) (vars : Nat) (e : Ending) (w' : World) : Prop :=
  (∃ k v, k < l.length ∧ l.getD k false = true ∧ (∀ j, j < k → l.getD j false = false) ∧ e = .returned (.tuple #[v, .bool true]) ∧ BoolsAt w' v ((List.range vars).map (rowF vars k)) ∧ Below w.heap.size w w') ∨
  ((∀ j, j < l.length → l.getD j false = false) ∧ e = .returned (.tuple #[.slice none 0 0, .bool false]) ∧ w' = w)

set_option maxRecDepth 100000 in
set_option maxHeartbeats 1600000 in
theorem rwit_any (w : World) (v : Value) (l : List Bool) (n vars : Nat) (hv : vars ≤ 20) (hn : 2 ^ vars = n) (a : BoolsAt w v l) (e1 : l.length = n) :
    Calls Try.prog 30 #[v, .int .i64 (vars : Int)] w (FirstPost w l vars) := by
  have hn20 : n ≤ 1048576 := by rw [← hn]; exact Nat.pow_le_pow_right (by omega) hv
  have HDG : Hid (∀ W k i, k < n → i < vars → Calls Try.prog 44 #[.int .i64 (k : Int), .int .i64 (i : Int), .int .i64 (vars : Int)] W (fun e w' => e = .returned (.bool (rowF vars k i)) ∧ w' = W)) := Lib.hid (fun W k i hk hi => digit_any W vars k i (by omega) hi (by rw [hn]; exact hk))
  obtain ⟨i0, hi0, hz0⟩ := Option.map_eq_some_iff.1 infoB
  simp only [Prod.mk.injEq] at hz0
  obtain ⟨hz0, hz1, hz3⟩ := hz0
  have HA := Lib.hid a
  obtain ⟨A, c, rfl⟩ := a.form
  have HL := Lib.hid e1
  rw [e1] at HA ⊢
  clear a e1 hn
  go_enter Try.func30, Try.ntmps30
  go_wp2_with fail
  go_loopw [6] (fun vi wr => ∃ k : Nat, k ≤ n ∧ vi = .int .i64 (k : Int) ∧ w = wr ∧ ∀ j, j < k → l.getD j false = false) (fun vi _ => n - intV vi)
  case atStart => exact ⟨0, Nat.zero_le _, rfl, rfl, fun j h => by omega⟩
  case round =>
    obtain ⟨k, hk, rfl, hww, hno⟩ := hrel
    subst hww
    have HNO := Lib.hid hno
    clear hno
    by_cases hkn : k < n
    · obtain ⟨g, o, rfl, q1⟩ := HA.out.cell HL.out hkn
      obtain ⟨x, hx⟩ : ∃ x, l.getD k false = x := ⟨_, rfl⟩
      rw [hx] at q1
      have HX := Lib.hid hx
      clear hx
      cases x
      · have HN2 : Hid (∀ j, j < k + 1 → l.getD j false = false) := Lib.hid (fun j hj => by
          by_cases e : j = k
          · rw [e]; exact HX.out
          · exact HNO.out j (by omega))
        go_wp2_with fail
        go_roundw
        case rel => exact ⟨k + 1, by omega, by go_num, trivial, HN2.out⟩
        case measure => simp [intV]; omega
      · go_wp2_with fail
        go_loopw [7, 8] (fun v vi wq => ∃ i : Nat, i ≤ vars ∧ vi = .int .i64 (i : Int) ∧ wq.ownsRow w.heap.size 4 1 v i (List.map Value.bool ((List.range i).map (rowF vars k))) ∧ Below w.heap.size w wq) (fun _ vi _ => vars - intV vi)
        case atStart => exact ⟨0, Nat.zero_le _, rfl, World.ownsRow_nil _ _ _ _, Below.refl _ _⟩
        case round =>
          obtain ⟨i, hi, rfl, hr, hb⟩ := hrel
          by_cases hin : i < vars
          · have HO := Lib.hid hr
            have HB := Lib.hid hb
            have HC := Lib.hid (HDG.out wr k i hkn hin)
            have hsz := hb.size
            clear hr hb
            go_wp2_with fail
            refine HC.out.mono ?_
            rintro e w' ⟨rfl, hw'⟩
            subst hw'
            go_wp2_with (at_builtin; refine wpList_append_lies _ rfl (.tmp 24) (.tmp 29) 28 rfl w.heap.size 4 i0 _ 1 1 Try.underlying28 hi0 hz0 hz1 hz3 rfl (by decide) u7 i _ rfl (HO.out.alloc _) ⟨w'.heap.size, 0, none⟩ 1 1 [.bool (rowF vars k i)] rfl rfl ?a2 ?b2 (by omega) ?c2 ?d2 ?e2 (w'.heap.size + 1) ?f2 ?_)
            case a2 => exact World.news_of_block (t := 4) (fr := (0, 0)) (heap_alloc_new _ _)
            case b2 => simp [Value.oneCell']
            case c2 => unfold maxLen; omega
            case d2 => omega
            case e2 => simp; omega
            case f2 => simp
            intro gg cap w4 hown4 hg4 hat _
            rw [map_snoc] at hown4
            have HE : Hid (w4.ownsRow w.heap.size 4 1 (.slice (some ⟨gg, 0, none⟩) (i + 1) cap) (i + 1) (List.map Value.bool ((List.range (i + 1)).map (rowF vars k))) ∧ Below w.heap.size w w4) := Lib.hid ⟨hown4, (HB.out.trans ((below_new w' _).mono hsz)).grown hg4 (by simp; omega) (fun g e => (HO.out.lt g e).1)⟩
            clear hown4 hg4 hat
            go_wp2
            refine ⟨⟨i + 1, by omega, by go_num, HE.out.1, HE.out.2⟩, by simp [intV]; omega⟩
          · obtain rfl : i = vars := by omega
            have HE : Hid (FirstPost w l i (.returned (.tuple #[u7, .bool true])) wr) := Lib.hid (.inl ⟨k, u7, by rw [HL.out]; exact hkn, HX.out, HNO.out, rfl, own_bools hr (by simp), hb⟩)
            clear hr hb
            go_wp2_with fail
            refine bodyPost_ret (v := .tuple #[u7, .bool true]) (by simp [results, Try.results30, go_sem]) rfl HE.out
    · obtain rfl : k = n := by omega
      have HE : Hid (∀ j, j < l.length → l.getD j false = false) := Lib.hid (fun j hj => HNO.out j (by rw [HL.out] at hj; exact hj))
      go_wp2_with fail
      refine bodyPost_ret (v := .tuple #[.slice none 0 0, .bool false]) (by simp [results, Try.results30, go_sem]) rfl (.inr ⟨HE.out, rfl, rfl⟩)
end Go.Proofs.Ytfohjlepknnleaa.Bd

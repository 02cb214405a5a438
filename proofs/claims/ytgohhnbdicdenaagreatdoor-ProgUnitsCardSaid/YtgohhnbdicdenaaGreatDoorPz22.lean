/- The document's comparison of programs that are the same. Conditions: slices are read as lists. -/
import Derived.Test.YtgohhnbdicdenaaGreatDoorPz19
import Derived.Test.YtgohhnbdicdenaaGreatDoorPz18
import Derived.Test.YtgohhnbdicdenaaGreatDoorPz01
import Derived.Test.YtgohhnbdicdenaaGreatDoorPz21
namespace Go.Proofs.YtgohhnbdicdenaaGreatDoor.Pg
open Go.ChangeShapes Go.WideShapes Go.ChangeAt Go.RowKit
open Go.Proofs.YtgohhnbdicdenaaGreatDoor.Ex
open Go.Proofs.YtgohhnbdicdenaaGreatDoor.Tr (str ret_bool ret_int Bytes Nd)
set_option linter.unusedVariables false
set_option linter.unusedSimpArgs false

structure PAt (w wr : World) (a b : Array Value) : Prop where
  low : Below w.heap.size w wr
  one : wr.heap[w.heap.size]? = some (.cells a 38 (0, 0))
  two : wr.heap[w.heap.size + 1]? = some (.cells b 38 (0, 0))
theorem PAt.start (w : World) (a b : Array Value) : PAt w ((w.alloc (.cells a 38)).alloc (.cells b 38)) a b := ⟨below_twice w _ _, (blocks_two w _ _).1, (blocks_two w _ _).2⟩
theorem PAt.below {w wr w2 : World} {a b : Array Value} (h : PAt w wr a b) (k : Below wr.heap.size wr w2) : PAt w w2 a b :=
  ⟨h.low.trans (k.mono h.low.size), (k.block _ (lt_of_block h.one)).trans h.one, (k.block _ (lt_of_block h.two)).trans h.two⟩
theorem UntV.below {w w' : World} (h : Below w.heap.size w w') (u : Unt) (x : List Value) (k : UntV w u x) : UntV w' u x :=
  UntV.stay (P := fun _ => False) (Stay.below h) ⟨fun h => h, fun h => h, fun h => h, fun h => h, fun h => h⟩ u x k
theorem UntV.drew {w : World} {u : Unt} {x : List Value} (k : UntV w u x) : UntV w.drew u x :=
  UntV.stay (P := fun _ => False) (w' := w.drew) ⟨Nat.le_refl _, fun _ _ _ _ _ _ => rfl⟩ ⟨fun h => h, fun h => h, fun h => h, fun h => h, fun h => h⟩ u x k
theorem unit_eqv {u : Unt} {w : World} {i1 v1 q1 l1 i2 v2 q2 l2 : Value} (h1 : UntV w u [.bool u.contract, .string (str u.name), i1, .string (str u.out.name), .int .i64 u.out.ty, v1, q1, l1]) (h2 : UntV w u [.bool u.contract, .string (str u.name), i2, .string (str u.out.name), .int .i64 u.out.ty, v2, q2, l2]) :
    Calls Tryz.prog 23 #[.agg #[.bool u.contract, .string (str u.name), i1, .string (str u.out.name), .int .i64 u.out.ty, v1, q1, l1], .agg #[.bool u.contract, .string (str u.name), i2, .string (str u.out.name), .int .i64 u.out.ty, v2, q2, l2]] w fun e w' => e = .returned (.bool true) ∧ Below w.heap.size w w' := by
  obtain ⟨a, b, c, d, e, f1, f2, f3, f4⟩ := h1
  obtain ⟨a', b', c', d', e', g1, g2, g3, g4⟩ := h2
  simp only [List.cons.injEq] at e e'
  obtain ⟨-, -, rfl, -, -, rfl, rfl, rfl, -⟩ := e
  obtain ⟨-, -, rfl, -, -, rfl, rfl, rfl, -⟩ := e'
  exact unit_eq _ _ _ _ _ _ _ _ _ _ _ _ _ _ _ _ w f1 f2 f3 f4 g1 g2 g3 g4
set_option maxRecDepth 100000 in
set_option maxHeartbeats 8000000 in
theorem prog_eq (us : List Unt) (m k : Bytes) (u1 u2 : Value) (w : World) (a1 : RowR 50 8 UntV w us u1) (b1 : RowR 50 8 UntV w us u2) :
    Calls Tryz.prog 22 #[.agg #[u1, .string (str m), .string (str k)], .agg #[u2, .string (str m), .string (str k)]] w fun e w' => e = .returned (.bool true) ∧ Below w.heap.size w w' := by
  obtain ⟨A, c, rfl, x1, y1, hA⟩ := a1
  obtain ⟨B, d, rfl, x2, y2, hB⟩ := b1
  have KA := Lib.hid hA
  have KB := Lib.hid hB
  unfold maxLen at y1 y2
  clear hA hB
  have e1 : (!(str m).toList == (str m).toList) = false := by simp
  have e2 : (!(str k).toList == (str k).toList) = false := by simp
  have e3 : ((us.length : Int) != (us.length : Int)) = false := by simp
  go_enter Tryz.func22, Tryz.ntmps22
  go_wp2
  go_loopw [5] (fun i wr => ∃ n : Nat, n ≤ us.length ∧ i = .int .i64 n ∧ PAt w wr #[.slice A us.length c, .string (str m), .string (str k)] #[.slice B us.length d, .string (str m), .string (str k)]) (fun i _ => us.length - (intOf i).toNat)
  case atStart => exact ⟨0, Nat.zero_le _, rfl, PAt.start w _ _⟩
  case round =>
    obtain ⟨n, hn, rfl, hu⟩ := hrel
    have HU := Lib.hid hu
    have la := lt_of_block hu.one
    have lb := lt_of_block hu.two
    have ca : wr.cell? ⟨w.heap.size, 0, none⟩ = some (.slice A us.length c) := (at_cell hu.one 0).trans rfl
    have cb : wr.cell? ⟨w.heap.size + 1, 0, none⟩ = some (.slice B us.length d) := (at_cell hu.two 0).trans rfl
    clear hu
    by_cases hlt : n < us.length
    · obtain ⟨p, hp⟩ : ∃ p, us[n]? = some p := ⟨_, List.getElem?_eq_getElem hlt⟩
      obtain ⟨g, x, cs, f, rfl, g1, hx, -, g3⟩ := KA.out n p hp
      obtain ⟨g', x', cs', f', rfl, k1, hx', -, k3⟩ := KB.out n p hp
      have HX := Lib.hid (UntV.below HU.out.low p x hx)
      have HX' := Lib.hid (UntV.below HU.out.low p x' hx')
      obtain ⟨i1, v1, q1, l1, rfl, r1, r2, r3, r4⟩ := hx
      obtain ⟨i2, v2, q2, l2, rfl, s1, s2, s3, s4⟩ := hx'
      obtain ⟨E1, m1, j1, rfl, -, -⟩ := row_form r1
      obtain ⟨E2, m2, j2, rfl, -, -⟩ := row_form r2
      obtain ⟨E3, m3, j3, rfl, -, -⟩ := row_form r3
      obtain ⟨E4, m4, j4, rfl, -, -⟩ := row_form r4
      obtain ⟨F1, o1, h1, rfl, -, -⟩ := row_form s1
      obtain ⟨F2, o2, h2, rfl, -, -⟩ := row_form s2
      obtain ⟨F3, o3, h3, rfl, -, -⟩ := row_form s3
      obtain ⟨F4, o4, h4, rfl, -, -⟩ := row_form s4
      have hwg := (HU.out.low.block g (lt_of_block g1)).trans g1
      have hwg' := (HU.out.low.block g' (lt_of_block k1)).trans k1
      have hg := lt_of_block hwg
      have hg' := lt_of_block hwg'
      have u0 : wr.cell? ⟨g, n * 8, none⟩ = some (.bool p.contract) := (at_cell hwg _).trans (g3 0 (by decide))
      have t0 : wr.cell? ⟨g', n * 8, none⟩ = some (.bool p.contract) := (at_cell hwg' _).trans (k3 0 (by decide))
      have u1 : wr.cell? ⟨g, n * 8 + 1, none⟩ = some (.string (str p.name)) := (at_cell hwg _).trans (g3 1 (by decide))
      have t1 : wr.cell? ⟨g', n * 8 + 1, none⟩ = some (.string (str p.name)) := (at_cell hwg' _).trans (k3 1 (by decide))
      have u2 : wr.cell? ⟨g, n * 8 + 2, none⟩ = some (.slice E1 m1 j1) := (at_cell hwg _).trans (g3 2 (by decide))
      have t2 : wr.cell? ⟨g', n * 8 + 2, none⟩ = some (.slice F1 o1 h1) := (at_cell hwg' _).trans (k3 2 (by decide))
      have u3 : wr.cell? ⟨g, n * 8 + 3, none⟩ = some (.string (str p.out.name)) := (at_cell hwg _).trans (g3 3 (by decide))
      have t3 : wr.cell? ⟨g', n * 8 + 3, none⟩ = some (.string (str p.out.name)) := (at_cell hwg' _).trans (k3 3 (by decide))
      have u4 : wr.cell? ⟨g, n * 8 + 4, none⟩ = some (.int .i64 p.out.ty) := (at_cell hwg _).trans (g3 4 (by decide))
      have t4 : wr.cell? ⟨g', n * 8 + 4, none⟩ = some (.int .i64 p.out.ty) := (at_cell hwg' _).trans (k3 4 (by decide))
      have u5 : wr.cell? ⟨g, n * 8 + 5, none⟩ = some (.slice E2 m2 j2) := (at_cell hwg _).trans (g3 5 (by decide))
      have t5 : wr.cell? ⟨g', n * 8 + 5, none⟩ = some (.slice F2 o2 h2) := (at_cell hwg' _).trans (k3 5 (by decide))
      have u6 : wr.cell? ⟨g, n * 8 + 6, none⟩ = some (.slice E3 m3 j3) := (at_cell hwg _).trans (g3 6 (by decide))
      have t6 : wr.cell? ⟨g', n * 8 + 6, none⟩ = some (.slice F3 o3 h3) := (at_cell hwg' _).trans (k3 6 (by decide))
      have u7 : wr.cell? ⟨g, n * 8 + 7, none⟩ = some (.slice E4 m4 j4) := (at_cell hwg _).trans (g3 7 (by decide))
      have t7 : wr.cell? ⟨g', n * 8 + 7, none⟩ = some (.slice F4 o4 h4) := (at_cell hwg' _).trans (k3 7 (by decide))
      clear g1 g3 k1 k3 hp r1 r2 r3 r4 s1 s2 s3 s4 hwg hwg'
      go_wp2
      go_region_with ((go_at_call 23; refine (unit_eqv (by first | exact HX.out | exact HX.out.drew) (by first | exact HX'.out | exact HX'.out.drew)).mono ?_; rintro e w2 ⟨rfl, hb2⟩; have HB2 := Lib.hid ((show Below wr.heap.size wr wr.drew from Tr.below_drewN (n := 1) (Below.refl _ _)).trans hb2); clear hb2))
      all_goals go_wp2
      all_goals go_roundw
      all_goals first | exact ⟨n + 1, by omega, by go_num, HU.out.below HB2.out⟩ | (simp [intOf]; omega)
    · go_wp2
      go_ret
      exact ⟨rfl, HU.out.low⟩
end Go.Proofs.YtgohhnbdicdenaaGreatDoor.Pg

/- The document's answer 'Join' of layer lex returns the tokens' texts, a blank between any two. Conditions: the slice reads as a list of tokens; no row of first texts is too long. -/
namespace Go.Proofs.YtgohhnbdicdenaaGreatDoor.Lx
open Go.ChangeShapes Go.WideShapes Go.ChangeAt Go.RowKit
set_option linter.unusedVariables false

theorem joinM_snoc (L : List Tok) (t : Tok) (h : L ≠ []) : joinM (L ++ [t]) = joinM L ++ 32 :: t.text := by
  induction L with
  | nil => exact absurd rfl h
  | cons a r ih =>
    cases r with
    | nil => show joinM [a, t] = _; rw [joinM_more, joinM_one, joinM_one]
    | cons b r =>
      rw [List.cons_append, List.cons_append, joinM_more, ← List.cons_append, ih (by simp), joinM_more, List.append_assoc]; rfl
theorem str_app (a b : Bytes) : str a ++ str b = str (a ++ b) := ext_toList (by rw [app_toList, str_toList, str_toList, str_toList])
theorem chain_take {l : Bytes} {p : Nat} {r : List Tok} (h : Chain l p r) (k : Nat) : Chain l p (r.take k) := by
  induction r generalizing p k with
  | nil => rw [List.take_nil]; trivial
  | cons t r ih =>
    cases k with
    | zero => trivial
    | succ k => exact ⟨h.1, h.2.1, h.2.2.1, h.2.2.2.1, ih h.2.2.2.2 k⟩

set_option maxHeartbeats 1600000 in
theorem refJoin_any (v : Value) (l : List Tok) (w : World) (hv : Toks w v l) (hn : l.length ≤ 1000000) (hj : ∀ k, (joinM (l.take k)).length ≤ 1000000) :
    Calls Tryz.prog 21 #[v] w fun e w' => e = .returned (.string (str (joinM l))) ∧ w = w' := by
  obtain ⟨A, c, rfl, h1, h2, hA⟩ := hv
  unfold maxLen at h2
  have HA := Lib.hid hA
  have HJ := Lib.hid hj
  clear hA hj
  go_enter Tryz.func21, Tryz.ntmps21
  go_wp2
  go_loop [3, 4] (fun s i => ∃ k : Nat, k ≤ l.length ∧ i = .int .i64 k ∧ s = .string (str (joinM (l.take k)))) (fun _ i => l.length - (intOf i).toNat)
  case atStart => exact ⟨0, Nat.zero_le _, rfl, rfl⟩
  case round =>
    obtain ⟨k, hk, rfl, rfl⟩ := hrel
    by_cases hlt : k < l.length
    · obtain ⟨t, ht⟩ : ∃ t, l[k]? = some t := ⟨_, List.getElem?_eq_getElem hlt⟩
      have hsn : l.take (k + 1) = l.take k ++ [t] := by rw [List.take_add_one, ht]; rfl
      obtain ⟨g, rfl, hg, a0, a1, a2⟩ := HA.out k t ht
      have b1 := HJ.out k
      have b2 := HJ.out (k + 1)
      rw [hsn] at b2
      rcases Nat.eq_zero_or_pos k with rfl | hk0
      · have HS := Lib.hid (show joinM (l.take (0 + 1)) = t.text from by rw [hsn]; exact joinM_one t)
        have e0 : joinM (l.take 0) = [] := rfl
        rw [List.take_zero, List.nil_append, joinM_one] at b2
        rw [e0]
        have e1 := str_size t.text
        have e2 := str_size []
        have HX := Lib.hid (str_app [] t.text)
        rw [Nat.zero_mul] at a0 a1 a2
        clear ht hsn b1 e0
        go_wp2
        go_round
        case rel => exact ⟨1, by omega, by go_num, by rw [HX.out, HS.out]; rfl⟩
        case measure => simp [intOf]; omega
      · have hne : l.take k ≠ [] := by intro e; have := congrArg List.length e; rw [List.length_take, List.length_nil] at this; omega
        have HS := Lib.hid (show joinM (l.take (k + 1)) = joinM (l.take k) ++ 32 :: t.text from by rw [hsn]; exact joinM_snoc _ _ hne)
        rw [joinM_snoc _ _ hne, List.length_append, List.length_cons] at b2
        obtain ⟨X, hX⟩ : ∃ X, joinM (l.take k) = X := ⟨_, rfl⟩
        rw [hX] at b1 b2
        rw [hX]
        rw [hX] at HS
        have HXX := Lib.hid hX
        have e1 := str_size t.text
        have e2 := str_size X
        have e3 : (ByteArray.mk #[32]).size = 1 := rfl
        have HX := Lib.hid (show str X ++ ⟨#[32]⟩ ++ str t.text = str (X ++ 32 :: t.text) from by
          rw [show (ByteArray.mk #[32]) = str [32] from rfl, str_app, str_app]; simp)
        have hk0' : decide ((0 : Int) < k) = true := by simp; omega
        clear ht hsn hX hne
        go_wp2
        refine ⟨⟨k + 1, by omega, by go_num, ?_⟩, by simp [intOf]; omega⟩
        rw [HX.out, HS.out]
    · have e : l.take k = l := List.take_of_length_le (by omega)
      rw [e]
      clear e
      go_wp2
      go_ret
      exact ⟨rfl, rfl⟩
end Go.Proofs.YtgohhnbdicdenaaGreatDoor.Lx

/- What the statements of layer prog say of sources that are joined or cut, without a program. Conditions: as each says. -/
namespace Go.Proofs.YtgohhnbdicdenaaGreatDoor.Pg
open Go.Proofs.YtgohhnbdicdenaaGreatDoor.Tr Go.Proofs.YtgohhnbdicdenaaGreatDoor.Ex
set_option linter.unusedVariables false
set_option linter.unusedSimpArgs false

theorem alike_like {L M : List Tok} (h : Lx.Alike L M) : Like L M :=
  ⟨h.1.symm, fun i t ht => by
    have hi : i < M.length := by rw [← h.1]; exact (List.getElem?_eq_some_iff.1 ht).1
    obtain ⟨u, hu⟩ : ∃ u, M[i]? = some u := ⟨_, List.getElem?_eq_getElem hi⟩
    obtain ⟨h1, h2⟩ := h.2 i t u ht hu
    exact ⟨u, hu, h1.symm, h2.symm⟩⟩
theorem good_of {s : Bytes} {L : List Tok} (hs : s.length ≤ 100000) (hl : Lx.lexM s = .ok L) : ∀ t ∈ L, Lx.Good t.kind t.text := by
  have hg := Lx.lexM_good s hs
  rw [hl] at hg
  exact hg
theorem join_short {s : Bytes} {L : List Tok} (hs : s.length ≤ 20000) (hl : Lx.lexM s = .ok L) (k : Nat) : (Lx.joinM (L.take k)).length ≤ 40000 ∧ L.length ≤ 20000 := by
  have hc := (Lx.lexM_chain s (by omega)).1
  rw [hl] at hc
  have hc2 : Lx.Chain s 0 (L.take k) := Lx.chain_take hc k
  have h1 := Lx.joinM_len s 0 _ hc2 (Nat.zero_le _)
  have h2 := Lx.joinM_len s 0 _ hc (Nat.zero_le _)
  have e : (Lx.Res.ok L).toks = L := rfl
  rw [e] at h2
  omega
theorem join_lex {L : List Tok} (hg : ∀ t ∈ L, Lx.Good t.kind t.text) (hn : (Lx.joinM L).length ≤ 40000) : ∃ M, Lx.lexM (Lx.joinM L) = .ok M ∧ Like L M := by
  obtain ⟨M, hM, hA⟩ := Lx.join_back L 0 hg
  exact ⟨M, by rw [Lx.lexM_eq _ (by omega), Lx.join_skip _ hg, List.drop_zero]; exact hM, alike_like hA⟩
theorem blank_prog {s : Bytes} {L : List Tok} (hs : s.length ≤ 1500) (hl : Lx.lexM s = .ok L) {P Q : Prg} {C A D B : Int} (hp : progM s = (P, C, A)) (hq : progM (Lx.joinM L) = (Q, D, B)) : P = Q ∧ C = D ∧ ((A == -1) == (B == -1)) = true := by
  have h1 := join_short (by omega) hl L.length
  rw [List.take_length] at h1
  obtain ⟨M, hM, hk⟩ := join_lex (good_of (by omega) hl) h1.1
  obtain ⟨h2, h3, h4⟩ := prog_like hl hM hk
  rw [hp, hq] at h2 h3 h4
  simp only at h2 h3 h4
  refine ⟨h2, h3, ?_⟩
  by_cases ha : A = -1
  · have hb := h4.1 ha
    rw [ha, hb]; rfl
  · have hb : ¬ B = -1 := fun h => ha (h4.2 h)
    have e1 : (A == -1) = false := by rw [beq_eq_false_iff_ne]; exact ha
    have e2 : (B == -1) = false := by rw [beq_eq_false_iff_ne]; exact hb
    rw [e1, e2]; rfl
theorem semi_lex : Lx.lexM [59] = .ok [⟨4, [59], 0⟩] := by decide +kernel
theorem semi_prog {s : Bytes} {L : List Tok} {P : Prg} {A : Int} (hs : s.length ≤ 1500) (hl : Lx.lexM s = .ok L) (h : progM s = (P, 0, A)) : progM (s ++ 10 :: [59]) = (.none, 5, (s.length : Int) + 1) := by
  obtain ⟨h1, h2, -⟩ := prog_tok hl h rfl
  have hlen : (s ++ 10 :: [59]).length ≤ 100000 := by simp; omega
  have hx := Lx.lines s [59] hlen
  rw [hl, semi_lex] at hx
  have hx2 : Lx.lexM (s ++ 10 :: [59]) = .ok (L ++ [⟨4, [59], 0 + (s.length + 1)⟩]) := by rw [hx]; rfl
  have ha : ((0 + (s.length + 1) : Nat) : Int) = (s.length : Int) + 1 := by omega
  generalize h41 : 0 + (s.length + 1) = a1 at hx2 ha
  clear hx hlen
  obtain ⟨k1, k2⟩ := short_two h1 (like_self L) (show (⟨4, [59], a1⟩ : Tok).text = sSemi from rfl)
  generalize s ++ 10 :: [59] = T at hx2 ⊢
  generalize L ++ [(⟨4, [59], a1⟩ : Tok)] = M at hx2 k1 k2
  exact bad_fin hx2 k1 (k2.trans ha) (by decide)
theorem cut_prog {s : Bytes} {L : List Tok} {P : Prg} {A : Int} (hs : s.length ≤ 1500) (hl : Lx.lexM s = .ok L) (h : progM s = (P, 0, A)) : 0 < L.length ∧ progM (Lx.joinM (L.take (L.length - 1))) = (.none, 5, -1) := by
  obtain ⟨h1, h2, -⟩ := prog_tok hl h rfl
  have h3 := join_short (by omega) hl (L.length - 1)
  obtain ⟨M, hM, hk⟩ := join_lex (L := L.take (L.length - 1)) (fun t ht => good_of (by omega) hl t (List.mem_of_mem_take ht)) h3.1
  obtain ⟨h4, h5, h6⟩ := short_one h1 hk
  refine ⟨h4, ?_⟩
  generalize Lx.joinM (L.take (L.length - 1)) = T at hM ⊢
  exact bad_fin hM h5 h6 (by decide)
theorem head_main {f : PM (List Unt)} {r : Rd} {us : List Unt} {m : Bytes} {r1 : Rd} {L : List Tok} (h : headG f r = ((us, m), r1)) (hc : r1.code = 0) (hI : Inv L (f r).2) (hne : ∀ t ∈ L, t.kind = 1 → t.text ≠ []) : m ≠ [] := by
  rw [headG_eq] at h
  simp only [Prod.mk.injEq] at h
  obtain ⟨⟨-, h2⟩, h3⟩ := h
  have hI2 := (ok_need wMain).inv L _ hI
  generalize (needP wMain (f r).2).2 = q at h2 h3 hI2
  unfold nameP at h2 h3
  by_cases hn : atNameB q = true
  · rw [if_pos hn] at h2 h3
    simp only at h2 h3
    have hq : q.code = 0 := by rw [← h3] at hc; exact hc
    have hl := list_of hI2 hq
    unfold atNameB at hn
    simp only [Bool.and_eq_true, decide_eq_true_eq, beq_iff_eq] at hn
    rw [← h2]
    unfold txt Rd.cur
    obtain ⟨t, ht⟩ : ∃ t, q.l[q.next]? = some t := ⟨_, List.getElem?_eq_getElem hn.1⟩
    have hk := hn.2
    unfold Rd.cur at hk
    rw [ht] at hk ⊢
    exact hne t (by rw [← hl]; exact List.mem_of_getElem? ht) hk
  · rw [if_neg hn] at h3
    simp only at h3
    rw [← h3] at hc
    exact absurd hc (fail_code 5 (by decide) q)
theorem main_ne {s : Bytes} {P : Prg} {A : Int} (hs : s.length ≤ 1500) (h : progM s = (P, 0, A)) : P.main ≠ [] := by
  obtain ⟨L, hl⟩ := prog_lex (by omega) h rfl
  obtain ⟨h1, h2, -⟩ := prog_tok hl h rfl
  have hne := name_text (by omega) hl
  obtain ⟨us, m, r1, k1, k2, -, -, k3⟩ := prog_ok h1
  have hI : Inv L (rowP atUnitB unitP (rd0P L)).2 := (ok_row fu_unit ok_unit).inv L _ (.inl ⟨rfl, rfl⟩)
  have k4 : headG (rowP atUnitB unitP) (rd0P L) = ((us, m), r1) := k1
  have hm := head_main k4 k2 hI hne
  have hP : P.main = m := by
    rw [← h2]
    rcases k3 with ⟨-, -, e⟩ | ⟨-, -, -, -, e⟩
    · rw [e]
    · rw [e]
  rw [hP]; exact hm
end Go.Proofs.YtgohhnbdicdenaaGreatDoor.Pg

/- What the statements of layer prog say of sources put one behind the other, without a program. Conditions: as each says. -/
namespace Go.Proofs.YtgohhnbdicdenaaGreatDoor.Pg
open Go.Proofs.YtgohhnbdicdenaaGreatDoor.Tr Go.Proofs.YtgohhnbdicdenaaGreatDoor.Ex
set_option linter.unusedVariables false
set_option linter.unusedSimpArgs false

theorem head_at {f : PM (List Unt)} {r : Rd} {us : List Unt} {m : Bytes} {r1 : Rd} (h : headG f r = ((us, m), r1)) (hc : r1.code = 0) : ∃ q : Rd, m = txt q ∧ q.adv = r1 := by
  rw [headG_eq] at h
  simp only [Prod.mk.injEq] at h
  obtain ⟨⟨-, h2⟩, h3⟩ := h
  generalize (needP wMain (f r).2).2 = q at h2 h3
  unfold nameP at h2 h3
  by_cases hn : atNameB q = true
  · rw [if_pos hn] at h2 h3
    exact ⟨q, h2.symm, h3⟩
  · rw [if_neg hn] at h3
    simp only at h3
    rw [← h3] at hc
    exact absurd hc (fail_code 5 (by decide) q)
theorem txt_at {r : Rd} {L : List Tok} {n : Nat} {t : Tok} (hl : r.l = L) (hn : r.next = n) (h : L[n]? = some t) : txt r = t.text := by
  unfold txt Rd.cur
  rw [hl, hn, h]; rfl
theorem main_back {L : List Tok} {n : Nat} {t1 t2 : Tok} (hn : L.length = n + 3) (e1 : L[n]? = some t1) (e2 : L[n + 1]? = some t2) (h : (progP (rd0P L)).2.code = 0) (h1 : t1.text = wMain) : (progP (rd0P L)).1.back = [] ∧ (progP (rd0P L)).1.main = t2.text := by
  obtain ⟨us, m, r1, k1, k2, k3, -, k5⟩ := prog_ok h
  have k4 : headG (rowP atUnitB unitP) (rd0P L) = ((us, m), r1) := k1
  obtain ⟨q, hm, hq⟩ := head_at k4 k2
  rcases k5 with ⟨-, k6, e⟩ | ⟨k6, -, -, k7, e⟩
  · rw [e]
    refine ⟨rfl, ?_⟩
    show m = t2.text
    rw [hm]
    have hql : q.l = L := by rw [← k3, ← hq]; rfl
    have hqn : q.next + 1 = r1.next := by rw [← hq]; rfl
    exact txt_at hql (by omega) e2
  · exfalso
    have : txt r1.adv = t1.text := txt_at (r := r1.adv) (show r1.l = L from k3) (show r1.next + 1 = n by omega) e1
    rw [this, h1] at k6
    exact absurd k6 (by decide)
theorem like_shift (L : List Tok) (k : Nat) : Like L (L.map (Lx.Tok.shift k)) :=
  ⟨by simp, fun i t h => ⟨Lx.Tok.shift k t, by rw [List.getElem?_map, h]; rfl, rfl, rfl⟩⟩
def mainT : Bytes := [109, 97, 105, 110, 32, 102, 59]
theorem main_lex : Lx.lexM mainT = .ok [⟨3, wMain, 0⟩, ⟨1, [102], 5⟩, ⟨4, [59], 6⟩] := by decide +kernel
theorem units_prog {a b : Bytes} (ha : a.length ≤ 700) (hb : b.length ≤ 700) {P Q : Prg} {A B : Int} (hp : progM (a ++ 10 :: mainT) = (P, 0, A)) (hq : progM b = (Q, 0, B)) (hn : P.units.length + Q.units.length ≤ 200) :
    P.main = [102] ∧ P.back = [] ∧ progM (a ++ 10 :: b) = (⟨P.units ++ Q.units, Q.main, Q.back⟩, 0, 0) := by
  have hlen : (a ++ 10 :: mainT).length ≤ 100000 := by simp [mainT]; omega
  have hlen2 : (a ++ 10 :: b).length ≤ 100000 := by simp; omega
  obtain ⟨Lp, hLp⟩ := prog_lex hlen hp rfl
  obtain ⟨Lb, hLb⟩ := prog_lex (by omega) hq rfl
  have hx := Lx.lines a mainT hlen
  have hy := Lx.lines a b hlen2
  cases hla : Lx.lexM a with
  | bad c x =>
    rw [hla] at hx
    rw [hLp] at hx
    cases hx
  | ok La =>
    rw [hla, main_lex] at hx
    rw [hla, hLb] at hy
    have hx2 : Lx.lexM (a ++ 10 :: mainT) = .ok (La ++ [⟨3, wMain, 0 + (a.length + 1)⟩, ⟨1, [102], 5 + (a.length + 1)⟩, ⟨4, [59], 6 + (a.length + 1)⟩]) := by rw [hx]; rfl
    have hy2 : Lx.lexM (a ++ 10 :: b) = .ok (La ++ Lb.map (Lx.Tok.shift (a.length + 1))) := by rw [hy]; rfl
    have hne := name_text hlen hx2
    generalize h41 : 0 + (a.length + 1) = a1 at hx2 hne
    generalize h42 : 5 + (a.length + 1) = a2 at hx2 hne
    generalize h43 : 6 + (a.length + 1) = a3 at hx2 hne
    obtain ⟨p1, p2, -⟩ := prog_tok hx2 hp rfl
    obtain ⟨q1, q2, -⟩ := prog_tok hLb hq rfl
    have f0 : (La ++ [(⟨3, wMain, a1⟩ : Tok), ⟨1, [102], a2⟩, ⟨4, [59], a3⟩]).length = La.length + 3 := by simp
    have f1 : (La ++ [(⟨3, wMain, a1⟩ : Tok), ⟨1, [102], a2⟩, ⟨4, [59], a3⟩])[La.length]? = some ⟨3, wMain, a1⟩ := by simp
    have f2 : (La ++ [(⟨3, wMain, a1⟩ : Tok), ⟨1, [102], a2⟩, ⟨4, [59], a3⟩])[La.length + 1]? = some ⟨1, [102], a2⟩ := by simp
    have fl := units_law (La := La) (Lb := Lb) (Ma := La) (Mb := Lb.map (Lx.Tok.shift (a.length + 1))) (t1 := ⟨3, wMain, a1⟩) (t2 := ⟨1, [102], a2⟩) (t3 := ⟨4, [59], a3⟩)
    generalize La ++ [(⟨3, wMain, a1⟩ : Tok), ⟨1, [102], a2⟩, ⟨4, [59], a3⟩] = Lm at f0 f1 f2 p1 p2 hne fl hx2
    obtain ⟨m1, m2⟩ := main_back f0 f1 f2 p1 rfl
    have hlk := like_shift Lb (a.length + 1)
    clear hx hy hlen hlen2
    generalize Lb.map (Lx.Tok.shift (a.length + 1)) = Mb at hy2 hlk fl
    obtain ⟨u1, u2⟩ := fl p1 m1 hne q1 (like_self La) hlk (by rw [p2, q2]; exact hn)
    rw [p2, q2] at u2
    rw [p2] at m1 m2
    refine ⟨m2, m1, ?_⟩
    generalize a ++ 10 :: b = T at hy2 ⊢
    generalize La ++ Mb = M at hy2 u1 u2
    exact back_fin hy2 u1 u2
end Go.Proofs.YtgohhnbdicdenaaGreatDoor.Pg


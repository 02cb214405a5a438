/- The function that remembers, by the one that reckons. Conditions: none. -/
import Derived.Test.YtfohjlepknnleaaBdS
namespace Go.Proofs.Ytfohjlepknnleaa.Bd
open Go.ChangeShapes Go.WideShapes Go.ChangeAt Go.RowKit
set_option linter.unusedVariables false
set_option linter.unusedSimpArgs false

/-- What lies beside a draft and what it remembers stays. -/
theorem Fr.stay {P : Dp} {E : Nat} {ns : List Nd} {ok : Prop} {w w' : World} {fv fv' : Value} {F : List Nd} (hF : Fr P.dd P.kb (E + 4) w w' fv fv') (hD : Dr P w fv F) (hC : Ch P E ns ok w) {g : Nat} {cs : Array Value} {T : TypeId} (hg : w.heap[g]? = some (.cells cs T (0, 0))) (h1 : T ≠ 86) (h2 : T ≠ 59) :
    w'.heap[g]? = some (.cells cs T (0, 0)) := by
  obtain ⟨f, k1, _⟩ := hD.known
  obtain ⟨n, f2, k2, _, _⟩ := hC.c4
  rw [hF.keep g (block_lt hg) (fun e => ?_) (map_ne k1 hg) (map_ne k2 hg) (own_ne hD.row hg h2)]
  · exact hg
  · rw [e, hD.box] at hg
    injection hg with hg
    injection hg with _ h3 _
    exact h1 h3.symm
theorem Dr.mapped {P : Dp} {E : Nat} {ns : List Nd} {ok : Prop} {w w' : World} {fv : Value} {F : List Nd} (hD : Dr P w fv F) (hC : Ch P E ns ok w) (hg : w.grownBy w' (some (E + 4))) : Dr P w' fv F := by
  obtain ⟨f, k1, k3⟩ := hD.known
  obtain ⟨n, f2, k2, _, _⟩ := hC.c4
  have hE := hC.hE
  have hk := hC.hk
  have K : ∀ g, g < w.heap.size → g ≠ E + 4 → w'.heap[g]? = w.heap[g]? := fun g h1 h2 => hg.block g h1 (fun e => h2 (by injection e))
  refine ⟨hD.st, hD.below.grown hg hD.below.size (fun k e => by injection e with e; omega), ?_, ?_, ⟨f, k1.keep (K _ k1.lt (by omega)), k3⟩, hD.good, hD.dd, hD.kb, hD.room, hD.lim⟩
  · rw [K _ (block_lt hD.box) (map_ne k2 hD.box)]; exact hD.box
  · exact own_keep hD.row (fun g h1 => by
      obtain ⟨cs, h2⟩ := own_type hD.row h1
      exact K g (block_lt h2) (map_ne k2 h2))
/-- One answer more is remembered. -/
theorem Ch.put {P : Dp} {E f g h n4 : Nat} {ns : List Nd} {ok : Prop} {w w' : World} {v : Value} {f2 f4 : Nd → Option Value} (hC : Ch P E ns ok w) (hg : w.grownBy w' (some (E + 4))) (hm : MapK Try.prog 91 okN litN w' (E + 4) n4 f4) (hn : n4 ≤ 1048576)
    (h2 : ok → ∀ a b c v, f2 (a, b, c) = some v → ∃ x : Nat, v = .int .i64 (x : Int) ∧ IteV P.vars ns a b c x) (h4 : ∀ s u, f4 s = some u → (s = (f, g, h) ∧ u = v) ∨ f2 s = some u) (hv : ok → ∃ x : Nat, v = .int .i64 (x : Int) ∧ IteV P.vars ns f g h x) : Ch P E ns ok w' := by
  have K : ∀ k, k < w.heap.size → k ≠ E + 4 → w'.heap[k]? = w.heap[k]? := fun k h1 h2 => hg.block k h1 (fun e => h2 (by injection e))
  refine ⟨(K _ (block_lt hC.c0) (by omega)).trans hC.c0, (K _ (block_lt hC.c1) (by omega)).trans hC.c1, (K _ (block_lt hC.c2) (by omega)).trans hC.c2, (K _ (block_lt hC.c3) (by omega)).trans hC.c3, (K _ (block_lt hC.c5) (by omega)).trans hC.c5, ⟨n4, f4, hm, hn, fun ho a b c u hu => ?_⟩, hC.hE, hC.hk⟩
  rcases h4 (a, b, c) u hu with ⟨e, rfl⟩ | e
  · obtain ⟨rfl, rfl, rfl⟩ : a = f ∧ b = g ∧ c = h := by simpa using e
    exact hv ho
  · exact h2 ho a b c u e
theorem IteTo.iteV {vars : Nat} {ns ns' : List Nd} {f g h x : Nat} (G : Good vars ns) (lf : f < ns.length) (lg : g < ns.length) (lh : h < ns.length) (t : IteTo vars ns f g h (mn ns f g h) ns' x) : IteV vars ns' f g h x := by
  obtain ⟨m, rfl⟩ := t.more
  have hl : ns.length ≤ (ns ++ m).length := by rw [List.length_append]; omega
  refine ⟨by omega, by omega, by omega, ⟨⟨[], (List.append_nil _).symm⟩, t.good, t.lt, fun r => ?_, ?_⟩⟩
  · rw [den_app G r lf, den_app G r lg, den_app G r lh]; exact t.val r
  · rw [mn_app (vars := vars) lf lg lh]; exact t.ge
theorem grow_fr {dd kb mm : Nat} {w w' : World} {fv : Value} (h : w.grownBy w' (some mm)) : Fr dd kb mm w w' fv fv :=
  ⟨h.size, fun g hg _ _ h3 _ => h.block g hg (fun e => h3 (by injection e)), fun g hg => .inl hg⟩

set_option maxRecDepth 100000 in
set_option maxHeartbeats 1600000 in
theorem down_of (P : Dp) (E : Nat) (w : World) (fv : Value) (F : List Nd) (hD : Dr P w fv F) (hC : Ch P E (P.S ++ F) True w) (f g h N : Nat) (lf : f < (P.S ++ F).length) (lg : g < (P.S ++ F).length) (lh : h < (P.S ++ F).length)
    (hrk : ∀ W, Below w.heap.size w W → Calls Try.prog 49 #[.agg #[.int .i64 (f : Int), .int .i64 (g : Int), .int .i64 (h : Int)], .pointer (some ⟨E, 0, none⟩), .pointer (some ⟨E + 2, 0, none⟩)] W (ChPost P E W fv F f g h N)) :
    Calls Try.prog 58 #[.agg #[.int .i64 (f : Int), .int .i64 (g : Int), .int .i64 (h : Int)], .pointer (some ⟨E + 5, 0, none⟩), .pointer (some ⟨E + 3, 0, none⟩)] w (ChPost P E w fv F f g h N) := by
  have HD := Lib.hid hD
  have HC := Lib.hid hC
  have HRK := Lib.hid hrk
  have hroom := hD.room
  rw [List.length_append] at lf lg lh
  have hok : okN (f, g, h) := by unfold okN; dsimp only; omega
  have HOK := Lib.hid hok
  obtain ⟨n, mf, hm, hn, hs⟩ := hC.c4
  have HM := Lib.hid hm
  have HS := Lib.hid hs
  have HLF : Hid (f < (P.S ++ F).length ∧ g < (P.S ++ F).length ∧ h < (P.S ++ F).length) := Lib.hid (by rw [List.length_append]; exact ⟨lf, lg, lh⟩)
  obtain ⟨w1, hw1⟩ : ∃ W, w.alloc (.cells #[.int .i64 (f : Int), .int .i64 (g : Int), .int .i64 (h : Int)] 91) = W := ⟨_, rfl⟩
  obtain ⟨hn1, ⟨z0, z1, z2⟩, hb1, hs1⟩ := three_new _ _ _ _ _ _ hw1
  have HN := Lib.hid hn1
  have HB := Lib.hid hb1
  have HC1 := Lib.hid (hC.kept hb1)
  obtain ⟨c0, c1, c2, c3, c5⟩ := HC1.out.ats
  have hlook := (hm.below hb1 hm.lt).look keysA Try.underlying104 (zero_int _) (f, g, h) hok
  clear hD hC hrk hroom lf lg lh hok hm hs hn1 hb1 hs1
  cases hx : mf (f, g, h) with
  | some v =>
    obtain ⟨x, rfl, hv⟩ := HS.out trivial f g h v hx
    have HR := Lib.hid (ch_same (N := N) HD.out HC.out HB.out hv.tox)
    have hlk : (Instr.lookup 104 (.map (some (E + 4))) (.agg #[.int .i64 (f : Int), .int .i64 (g : Int), .int .i64 (h : Int)]) true).run Try.prog w1 = .ok (.tuple #[.int .i64 (x : Int), .bool true]) w1 := by
      rw [hx] at hlook; exact hlook
    clear hlook hv
    go_enter Try.func58, Try.ntmps58
    go_wp2_with fail
    refine bodyPost_ret (v := .int .i64 (x : Int)) (by simp [results, Try.results58, go_sem]) rfl HR.out
  | none =>
    have hlk : (Instr.lookup 104 (.map (some (E + 4))) (.agg #[.int .i64 (f : Int), .int .i64 (g : Int), .int .i64 (h : Int)]) true).run Try.prog w1 = .ok (.tuple #[.int .i64 0, .bool false]) w1 := by
      rw [hx] at hlook; exact hlook
    have HK := Lib.hid (HRK.out w1 HB.out)
    clear hlook
    go_enter Try.func58, Try.ntmps58
    go_wp2_with fail
    refine HK.out.mono ?_
    rintro e w2 hp
    obtain ⟨v, rfl⟩ := hp.int
    have HP := Lib.hid hp
    obtain ⟨fv', F', hD2, hF2, hN2, hM2, hR2⟩ := hp
    obtain ⟨ok, hC2, hR3⟩ : ∃ ok : Prop, Ch P E (P.S ++ F') ok w2 ∧ ((v = -1 ∧ P.limit ≤ P.S.length + F'.length ∧ ok = False) ∨ ∃ x : Nat, v = (x : Int) ∧ IteTo P.vars (P.S ++ F) f g h (mn (P.S ++ F) f g h) (P.S ++ F') x ∧ ok = True) := by
      rcases hR2 with ⟨e, a, b⟩ | ⟨x, e, a, b⟩
      · exact ⟨False, b, .inl ⟨by simpa using e, a, rfl⟩⟩
      · exact ⟨True, b, .inr ⟨x, by simpa using e, a, rfl⟩⟩
    obtain ⟨n2, f2, hm2, hn2, hs2⟩ := hC2.c4
    obtain ⟨k, hk, hmk, hlen⟩ := hm2.len Try.underlying104
    have hv : ok → ∃ x : Nat, (Value.int .i64 v) = .int .i64 (x : Int) ∧ IteV P.vars (P.S ++ F') f g h x := fun ho => by
      rcases hR3 with ⟨_, _, e⟩ | ⟨x, rfl, a, _⟩
      · rw [e] at ho; exact ho.elim
      · exact ⟨x, rfl, a.iteV HD.out.good HLF.out.1 HLF.out.2.1 HLF.out.2.2⟩
    have HE : Hid (∀ w4 n4 f4, w2.grownBy w4 (some (E + 4)) → MapK Try.prog 91 okN litN w4 (E + 4) n4 f4 → n4 ≤ 1048576 → (∀ s u, f4 s = some u → (s = (f, g, h) ∧ u = .int .i64 v) ∨ f2 s = some u) → ChPost P E w fv F f g h N (.returned (.int .i64 v)) w4) := Lib.hid (fun w4 n4 f4 a1 a2 a3 a4 => by
      have hC4 := hC2.put a1 a2 a3 hs2 a4 hv
      refine ⟨fv', F', hD2.mapped hC2 a1, (Fr.of HB.out).trans (hF2.trans (grow_fr a1)), hN2, hM2, ?_⟩
      rcases hR3 with ⟨rfl, a, b⟩ | ⟨x, rfl, a, b⟩
      · exact .inl ⟨rfl, a, by rw [b] at hC4; exact hC4⟩
      · exact .inr ⟨x, rfl, a, by rw [b] at hC4; exact hC4⟩)
    have hkey := hF2.stay (HD.out.kept HB.out) HC1.out HN.out (by decide) (by decide)
    obtain ⟨d0, d1, d2, d3, d5⟩ := hC2.ats
    have x0 : w2.cell? ⟨w.heap.size, 0, none⟩ = some (.int .i64 (f : Int)) := by unfold World.cell?; rw [hkey]; rfl
    have x1 : w2.cell? ⟨w.heap.size, 1, none⟩ = some (.int .i64 (g : Int)) := by unfold World.cell?; rw [hkey]; rfl
    have x2 : w2.cell? ⟨w.heap.size, 2, none⟩ = some (.int .i64 (h : Int)) := by unfold World.cell?; rw [hkey]; rfl
    have HMK := Lib.hid hmk
    have HKEY := Lib.hid hkey
    have HC2 := Lib.hid hC2
    clear hm2 hs2 hD2 hF2 hN2 hM2 hR2 hR3 hv hkey hmk hC2
    by_cases hfull : 1048576 ≤ k
    · have hd : decide ((1048576 : Int) ≤ (k : Int)) = true := decide_eq_true (by omega)
      obtain ⟨w3, hclear, hm3, hg3⟩ := HMK.out.wiped Try.underlying104
      obtain ⟨w4, hput, hm4, hg4⟩ := hm3.put keysA Try.underlying104 (by unfold maxLen; omega) (f, g, h) HOK.out (.int .i64 v)
      have hput : (Instr.mapUpdate 104 (.map (some (E + 4))) (.agg #[.int .i64 (f : Int), .int .i64 (g : Int), .int .i64 (h : Int)]) (.int .i64 v)).run Try.prog w3 = .ok () w4 := hput
      have HR := Lib.hid (HE.out w4 _ _ (hg3.trans hg4) hm4 (by omega) (fun s u hu => by
        by_cases c : s = (f, g, h)
        · rw [if_pos c] at hu; exact .inl ⟨c, by injection hu with hu; exact hu.symm⟩
        · rw [if_neg c] at hu; cases hu))
      have hkey3 : w3.heap[w.heap.size]? = some (.cells #[.int .i64 (f : Int), .int .i64 (g : Int), .int .i64 (h : Int)] 91 (0, 0)) := (hg3.block _ (block_lt HKEY.out) (fun e => map_ne HMK.out HKEY.out (by injection e))).trans HKEY.out
      have h53 := (hg3.block _ (block_lt HC2.out.c5) (fun e => map_ne HMK.out HC2.out.c5 (by injection e))).trans HC2.out.c5
      have v5 : w3.cell? ⟨E + 5, 0, none⟩ = some (.map (some (E + 4))) := by unfold World.cell?; rw [h53]; rfl
      have v0 : w3.cell? ⟨w.heap.size, 0, none⟩ = some (.int .i64 (f : Int)) := by unfold World.cell?; rw [hkey3]; rfl
      have v1 : w3.cell? ⟨w.heap.size, 1, none⟩ = some (.int .i64 (g : Int)) := by unfold World.cell?; rw [hkey3]; rfl
      have v2 : w3.cell? ⟨w.heap.size, 2, none⟩ = some (.int .i64 (h : Int)) := by unfold World.cell?; rw [hkey3]; rfl
      clear hm3 hg3 hm4 hg4 hkey3 h53
      go_wp2
      refine bodyPost_ret (v := .int .i64 v) (by simp [results, Try.results58, go_sem]) rfl HR.out
    · have hd : decide ((1048576 : Int) ≤ (k : Int)) = false := decide_eq_false (by omega)
      obtain ⟨w4, hput, hm4, hg4⟩ := HMK.out.put keysA Try.underlying104 (by unfold maxLen; omega) (f, g, h) HOK.out (.int .i64 v)
      have hput : (Instr.mapUpdate 104 (.map (some (E + 4))) (.agg #[.int .i64 (f : Int), .int .i64 (g : Int), .int .i64 (h : Int)]) (.int .i64 v)).run Try.prog w2 = .ok () w4 := hput
      have HR := Lib.hid (HE.out w4 _ _ hg4 hm4 (by omega) (fun s u hu => by
        by_cases c : s = (f, g, h)
        · rw [if_pos c] at hu; exact .inl ⟨c, by injection hu with hu; exact hu.symm⟩
        · rw [if_neg c] at hu; exact .inr hu))
      clear hm4 hg4
      go_wp2
      refine bodyPost_ret (v := .int .i64 v) (by simp [results, Try.results58, go_sem]) rfl HR.out
end Go.Proofs.Ytfohjlepknnleaa.Bd

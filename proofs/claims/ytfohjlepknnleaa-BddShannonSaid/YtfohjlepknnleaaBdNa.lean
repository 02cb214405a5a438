/- Functions of one number that remember. Conditions: none. -/
import Derived.Test.YtfohjlepknnleaaBdF
import Derived.Test.YtfohjlepknnleaaBdP
import Derived.Laws.EntriesVeiled
namespace Go.Proofs.Ytfohjlepknnleaa.Bd
open Go.ChangeShapes Go.WideShapes Go.ChangeAt Go.RowKit
set_option linter.unusedVariables false
set_option linter.unusedSimpArgs false

theorem zero_int2 (w : World) : (zeroValue 3).run Try.prog w = .ok (.int .i64 0) w := by kernel_rfl
set_option maxRecDepth 100000 in
set_option maxHeartbeats 1600000 in
/-- A function that remembers is made. -/
theorem remI_any (w : World) (fn : Nat) (cap : Array Value) (rk : Value) (hrk : rk = .func (.func fn) #[] cap) :
    Calls Try.prog 42 #[rk] w (fun e w' => Below w.heap.size w w' ∧ w'.heap.size = w.heap.size + 3 ∧ e = .returned (.func (.func 54) #[] #[.pointer (some ⟨w.heap.size + 2, 0, none⟩), .pointer (some ⟨w.heap.size, 0, none⟩)]) ∧
      w'.heap[w.heap.size]? = some (.cells #[rk] 81 (0, 0)) ∧ w'.heap[w.heap.size + 2]? = some (.cells #[.map (some (w.heap.size + 1))] 98 (0, 0)) ∧ MapK Try.prog 3 okI litI w' (w.heap.size + 1) 0 (fun _ => none)) := by
  have hmm := @run_makeMap Try.prog
  obtain ⟨w1, hw1⟩ : ∃ W, w.alloc (.cells #[rk] 81) = W := ⟨_, rfl⟩
  obtain ⟨w2, hw2⟩ : ∃ W, w1.alloc (.map #[] 0) = W := ⟨_, rfl⟩
  obtain ⟨w3, hw3⟩ : ∃ W, w2.alloc (.cells #[.map (some w1.heap.size)] 98) = W := ⟨_, rfl⟩
  obtain ⟨a1, -, -, b1, s1⟩ := one_new _ _ _ _ hw1
  have b2 : Below w1.heap.size w1 w2 := by rw [← hw2]; exact below_new _ _
  have s2 : w2.heap.size = w1.heap.size + 1 := by rw [← hw2]; simp
  have m2 : MapK Try.prog 3 okI litI w2 w1.heap.size 0 (fun _ => none) := by rw [← hw2]; exact MapK.made w1
  obtain ⟨a3, -, -, b3, s3⟩ := one_new _ _ _ _ hw3
  have HP : Hid (Below w.heap.size w w3 ∧ w3.heap.size = w.heap.size + 3 ∧ w3.heap[w.heap.size]? = some (.cells #[rk] 81 (0, 0)) ∧ w3.heap[w.heap.size + 2]? = some (.cells #[.map (some (w.heap.size + 1))] 98 (0, 0)) ∧ MapK Try.prog 3 okI litI w3 (w.heap.size + 1) 0 (fun _ => none)) := Lib.hid (by
    refine ⟨b1.trans ((b2.trans (b3.mono (by omega))).mono (by omega)), by omega, ?_, ?_, ?_⟩
    · rw [b3.block _ (by omega), b2.block _ (by omega)]; exact a1
    · rw [s2, s1] at a3; exact a3
    · have := m2.below b3 m2.lt
      rw [s1] at this; exact this)
  have HW : Hid (((w.alloc (.cells #[rk] 81)).alloc (.map #[] 0)).alloc (.cells #[.map (some (w.heap.size + 1))] 98) = w3) := Lib.hid (by rw [hw1, hw2, ← s1, hw3])
  clear hw1 hw2 hw3 a1 b1 s1 b2 s2 m2 a3 b3 s3
  subst hrk
  go_enter Try.func42, Try.ntmps42
  go_wp2_with fail
  rw [HW.out]
  obtain ⟨p1, p2, p3, p4, p5⟩ := HP.out
  refine bodyPost_ret (v := .func (.func 54) #[] #[.pointer (some ⟨w.heap.size + 2, 0, none⟩), .pointer (some ⟨w.heap.size, 0, none⟩)]) (by simp [results, Try.results42, go_sem]) rfl ⟨p1, p2, rfl, p3, p4, p5⟩

theorem map_neI {w : World} {α : Type} {KT : TypeId} {okk : α → Prop} {lt : α → Lit} {g g' m : Nat} {f : α → Option Value} (hm : MapK Try.prog KT okk lt w g m f) {cs : Array Value} {T : TypeId} {lk : Nat × Nat} (hg : w.heap[g']? = some (.cells cs T lk)) : g' ≠ g := fun hh => by
  obtain ⟨D, ⟨es, clock, h3, _⟩, _⟩ := hm
  rw [hh, h3] at hg
  cases hg

set_option maxRecDepth 100000 in
set_option maxHeartbeats 1600000 in
theorem rem_count (w : World) (a c mm n x p q : Nat) (hx : x < 4294967296) (mf : Nat → Option Value) (hm : MapK Try.prog 3 okI litI w mm n mf) (hn : n ≤ 1048576)
    (ha : w.cell? ⟨a, 0, none⟩ = some (.map (some mm))) (hc : w.cell? ⟨c, 0, none⟩ = some (.func (.func 43) #[] #[.pointer (some ⟨p, 0, none⟩), .pointer (some ⟨q, 0, none⟩)])) (R : Ending → World → Prop)
    (hit : ∀ v, mf x = some v → ∃ z : Int, v = .int .i64 z ∧ R (.returned (.int .i64 z)) w)
    (miss : mf x = none → Calls Try.prog 43 #[.int .i64 (x : Int), .pointer (some ⟨p, 0, none⟩), .pointer (some ⟨q, 0, none⟩)] w (fun e w2 => ∃ z : Int, e = .returned (.int .i64 z) ∧ w2.cell? ⟨a, 0, none⟩ = some (.map (some mm)) ∧ ∃ n2 f2, MapK Try.prog 3 okI litI w2 mm n2 f2 ∧ n2 ≤ 1048576 ∧
      ∀ w4 n4 f4, w2.grownBy w4 (some mm) → MapK Try.prog 3 okI litI w4 mm n4 f4 → n4 ≤ 1048576 → (∀ s u, f4 s = some u → (s = x ∧ u = .int .i64 z) ∨ f2 s = some u) → R (.returned (.int .i64 z)) w4)) :
    Calls Try.prog 54 #[.int .i64 (x : Int), .pointer (some ⟨a, 0, none⟩), .pointer (some ⟨c, 0, none⟩)] w R := by
  have hok : okI x := hx
  have HOK := Lib.hid hok
  have hlook := hm.look keysI Try.underlying98 (zero_int2 _) x hok
  cases hmx : mf x with
  | some v =>
    obtain ⟨z, rfl, hz⟩ := hit v hmx
    have hlk : (Instr.lookup 98 (.map (some mm)) (.int .i64 (x : Int)) true).run Try.prog w = .ok (.tuple #[.int .i64 z, .bool true]) w := by
      rw [hmx] at hlook; exact hlook
    have HR := Lib.hid hz
    clear hlook hz hit miss hm hok hx
    go_enter Try.func54, Try.ntmps54
    go_wp2_with fail
    exact HR.out
  | none =>
    have hlk : (Instr.lookup 98 (.map (some mm)) (.int .i64 (x : Int)) true).run Try.prog w = .ok (.tuple #[.int .i64 0, .bool false]) w := by
      rw [hmx] at hlook; exact hlook
    have HK := Lib.hid (miss hmx)
    clear hlook hit miss hm hok hx
    go_enter Try.func54, Try.ntmps54
    go_wp2_with fail
    refine HK.out.mono ?_
    rintro e w2 ⟨z, rfl, ha2, n2, f2, hm2, hn2, hend⟩
    obtain ⟨k, hk, hmk, hlen⟩ := hm2.len Try.underlying98
    have HE := Lib.hid hend
    have HMK := Lib.hid hmk
    clear hm2 hend hmk
    by_cases hfull : 1048576 ≤ k
    · have hd : decide ((1048576 : Int) ≤ (k : Int)) = true := decide_eq_true (by omega)
      obtain ⟨w3, hclear, hm3, hg3⟩ := HMK.out.wiped Try.underlying98
      obtain ⟨w4, hput, hm4, hg4⟩ := hm3.put keysI Try.underlying98 (by unfold maxLen; omega) x HOK.out (.int .i64 z)
      have hput : (Instr.mapUpdate 98 (.map (some mm)) (.int .i64 (x : Int)) (.int .i64 z)).run Try.prog w3 = .ok () w4 := hput
      have HR := Lib.hid (HE.out w4 _ _ (hg3.trans hg4) hm4 (by omega) (fun s u hu => by
        by_cases c0 : s = x
        · rw [if_pos c0] at hu; exact .inl ⟨c0, by injection hu with hu; exact hu.symm⟩
        · rw [if_neg c0] at hu; cases hu))
      have ha3 : w3.cell? ⟨a, 0, none⟩ = some (.map (some mm)) := by
        have hb : ∃ cs T lk, w2.heap[a]? = some (.cells cs T lk) := by
          unfold World.cell? at ha2
          split at ha2
          · rename_i h1; exact ⟨_, _, _, h1⟩
          · cases ha2
        obtain ⟨cs, T, lk, hb⟩ := hb
        exact (World.cell?_of_block (w := w2) (a := ⟨a, 0, none⟩) (hg3.block _ (block_lt hb) (fun e => map_neI HMK.out hb (by injection e)))).trans ha2
      clear hm3 hg3 hm4 hg4
      go_wp2
      exact HR.out
    · have hd : decide ((1048576 : Int) ≤ (k : Int)) = false := decide_eq_false (by omega)
      obtain ⟨w4, hput, hm4, hg4⟩ := HMK.out.put keysI Try.underlying98 (by unfold maxLen; omega) x HOK.out (.int .i64 z)
      have hput : (Instr.mapUpdate 98 (.map (some mm)) (.int .i64 (x : Int)) (.int .i64 z)).run Try.prog w2 = .ok () w4 := hput
      have HR := Lib.hid (HE.out w4 _ _ hg4 hm4 (by omega) (fun s u hu => by
        by_cases c0 : s = x
        · rw [if_pos c0] at hu; exact .inl ⟨c0, by injection hu with hu; exact hu.symm⟩
        · rw [if_neg c0] at hu; exact .inr hu))
      clear hm4 hg4
      go_wp2
      exact HR.out

set_option maxRecDepth 100000 in
set_option maxHeartbeats 1600000 in
theorem rem_set (w : World) (a c mm n x E : Nat) (hx : x < 4294967296) (mf : Nat → Option Value) (hm : MapK Try.prog 3 okI litI w mm n mf) (hn : n ≤ 1048576)
    (ha : w.cell? ⟨a, 0, none⟩ = some (.map (some mm))) (hc : w.cell? ⟨c, 0, none⟩ = some (.func (.func 53) #[] #[.pointer (some ⟨E, 0, none⟩), .pointer (some ⟨E + 1, 0, none⟩), .pointer (some ⟨E + 3, 0, none⟩), .pointer (some ⟨E + 2, 0, none⟩)])) (R : Ending → World → Prop)
    (hit : ∀ v, mf x = some v → ∃ z : Int, v = .int .i64 z ∧ R (.returned (.int .i64 z)) w)
    (miss : mf x = none → Calls Try.prog 53 #[.int .i64 (x : Int), .pointer (some ⟨E, 0, none⟩), .pointer (some ⟨E + 1, 0, none⟩), .pointer (some ⟨E + 3, 0, none⟩), .pointer (some ⟨E + 2, 0, none⟩)] w (fun e w2 => ∃ z : Int, e = .returned (.int .i64 z) ∧ w2.cell? ⟨a, 0, none⟩ = some (.map (some mm)) ∧ ∃ n2 f2, MapK Try.prog 3 okI litI w2 mm n2 f2 ∧ n2 ≤ 1048576 ∧
      ∀ w4 n4 f4, w2.grownBy w4 (some mm) → MapK Try.prog 3 okI litI w4 mm n4 f4 → n4 ≤ 1048576 → (∀ s u, f4 s = some u → (s = x ∧ u = .int .i64 z) ∨ f2 s = some u) → R (.returned (.int .i64 z)) w4)) :
    Calls Try.prog 54 #[.int .i64 (x : Int), .pointer (some ⟨a, 0, none⟩), .pointer (some ⟨c, 0, none⟩)] w R := by
  have hok : okI x := hx
  have HOK := Lib.hid hok
  have hlook := hm.look keysI Try.underlying98 (zero_int2 _) x hok
  cases hmx : mf x with
  | some v =>
    obtain ⟨z, rfl, hz⟩ := hit v hmx
    have hlk : (Instr.lookup 98 (.map (some mm)) (.int .i64 (x : Int)) true).run Try.prog w = .ok (.tuple #[.int .i64 z, .bool true]) w := by
      rw [hmx] at hlook; exact hlook
    have HR := Lib.hid hz
    clear hlook hz hit miss hm hok hx
    go_enter Try.func54, Try.ntmps54
    go_wp2_with fail
    exact HR.out
  | none =>
    have hlk : (Instr.lookup 98 (.map (some mm)) (.int .i64 (x : Int)) true).run Try.prog w = .ok (.tuple #[.int .i64 0, .bool false]) w := by
      rw [hmx] at hlook; exact hlook
    have HK := Lib.hid (miss hmx)
    clear hlook hit miss hm hok hx
    go_enter Try.func54, Try.ntmps54
    go_wp2_with fail
    refine HK.out.mono ?_
    rintro e w2 ⟨z, rfl, ha2, n2, f2, hm2, hn2, hend⟩
    obtain ⟨k, hk, hmk, hlen⟩ := hm2.len Try.underlying98
    have HE := Lib.hid hend
    have HMK := Lib.hid hmk
    clear hm2 hend hmk
    by_cases hfull : 1048576 ≤ k
    · have hd : decide ((1048576 : Int) ≤ (k : Int)) = true := decide_eq_true (by omega)
      obtain ⟨w3, hclear, hm3, hg3⟩ := HMK.out.wiped Try.underlying98
      obtain ⟨w4, hput, hm4, hg4⟩ := hm3.put keysI Try.underlying98 (by unfold maxLen; omega) x HOK.out (.int .i64 z)
      have hput : (Instr.mapUpdate 98 (.map (some mm)) (.int .i64 (x : Int)) (.int .i64 z)).run Try.prog w3 = .ok () w4 := hput
      have HR := Lib.hid (HE.out w4 _ _ (hg3.trans hg4) hm4 (by omega) (fun s u hu => by
        by_cases c0 : s = x
        · rw [if_pos c0] at hu; exact .inl ⟨c0, by injection hu with hu; exact hu.symm⟩
        · rw [if_neg c0] at hu; cases hu))
      have ha3 : w3.cell? ⟨a, 0, none⟩ = some (.map (some mm)) := by
        have hb : ∃ cs T lk, w2.heap[a]? = some (.cells cs T lk) := by
          unfold World.cell? at ha2
          split at ha2
          · rename_i h1; exact ⟨_, _, _, h1⟩
          · cases ha2
        obtain ⟨cs, T, lk, hb⟩ := hb
        exact (World.cell?_of_block (w := w2) (a := ⟨a, 0, none⟩) (hg3.block _ (block_lt hb) (fun e => map_neI HMK.out hb (by injection e)))).trans ha2
      clear hm3 hg3 hm4 hg4
      go_wp2
      exact HR.out
    · have hd : decide ((1048576 : Int) ≤ (k : Int)) = false := decide_eq_false (by omega)
      obtain ⟨w4, hput, hm4, hg4⟩ := HMK.out.put keysI Try.underlying98 (by unfold maxLen; omega) x HOK.out (.int .i64 z)
      have hput : (Instr.mapUpdate 98 (.map (some mm)) (.int .i64 (x : Int)) (.int .i64 z)).run Try.prog w2 = .ok () w4 := hput
      have HR := Lib.hid (HE.out w4 _ _ hg4 hm4 (by omega) (fun s u hu => by
        by_cases c0 : s = x
        · rw [if_pos c0] at hu; exact .inl ⟨c0, by injection hu with hu; exact hu.symm⟩
        · rw [if_neg c0] at hu; exact .inr hu))
      clear hm4 hg4
      go_wp2
      exact HR.out
end Go.Proofs.Ytfohjlepknnleaa.Bd

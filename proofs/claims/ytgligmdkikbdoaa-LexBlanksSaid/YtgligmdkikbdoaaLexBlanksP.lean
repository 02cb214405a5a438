/- The statement LexBlanks holds for every input: blanks ahead and behind change where tokens stand, and nothing else. Conditions: none. -/
import Derived.Test.YtgligmdkikbdoaaRows
import Derived.WalkKit
import Derived.ProofKit
import Derived.OpenShut
import Derived.Below
import Derived.ChangeSame
import Derived.Test.YtgligmdkikbdoaaLexI
import Derived.Test.YtgligmdkikbdoaaLexJ
import Derived.Test.YtgligmdkikbdoaaLexQ
namespace Go.Proofs.Ytgligmdkikbdoaa.lexBlanks
open Go.ChangeShapes Go.WideShapes Go.ChangeAt Go.RowKit
set_option linter.unusedVariables false

theorem own : ownKnob Try.prog.godebug = none := by kernel_rfl

open Lx

theorem three_mid {w w1 w2 w3 : World} {c1 p1 c2 p2 : Int} {v1 v2 : Value} {L M : List Tok} (hb1 : Below w.heap.size w w1)
    (hb2 : Below (w1.alloc (.cells #[.int .i64 c1, .int .i64 p1] 35)).heap.size (w1.alloc (.cells #[.int .i64 c1, .int .i64 p1] 35)) w2)
    (hb3 : Below (w2.alloc (.cells #[.int .i64 c2, .int .i64 p2] 35)).heap.size (w2.alloc (.cells #[.int .i64 c2, .int .i64 p2] 35)) w3) (ht1 : Toks w1 v1 L) (ht2 : Toks w2 v2 M) :
    w1.heap.size < w3.heap.size ∧ w2.heap.size < w3.heap.size ∧
    w3.cell? ⟨w1.heap.size, 0, none⟩ = some (.int .i64 c1) ∧ w3.cell? ⟨w1.heap.size, 1, none⟩ = some (.int .i64 p1) ∧
    w3.cell? ⟨w2.heap.size, 0, none⟩ = some (.int .i64 c2) ∧ w3.cell? ⟨w2.heap.size, 1, none⟩ = some (.int .i64 p2) ∧ Below w.heap.size w w3 ∧ Toks w3 v1 L ∧ Toks w3 v2 M := by
  have z1 := hb1.size
  have z2 := hb2.size
  have z3 := hb3.size
  simp at z2 z3
  have k1 : w1.heap.size < w2.heap.size := by omega
  refine ⟨by omega, by omega, ?_, ?_, ?_, ?_, ?_, ?_, ?_⟩
  · rw [hb3.cell (by simp; omega), World.cell?_alloc_past _ _ _ k1, hb2.cell (by simp), World.cell?_alloc_at _ _ _ _ rfl]; rfl
  · rw [hb3.cell (by simp; omega), World.cell?_alloc_past _ _ _ k1, hb2.cell (by simp), World.cell?_alloc_at _ _ _ _ rfl]; rfl
  · rw [hb3.cell (by simp), World.cell?_alloc_at _ _ _ _ rfl]; rfl
  · rw [hb3.cell (by simp), World.cell?_alloc_at _ _ _ _ rfl]; rfl
  · exact ((hb1.alloc z1 _).trans (hb2.mono (by simp; omega))).trans (((Below.refl _ _).alloc (by omega) _).trans (hb3.mono (by simp; omega)))
  · exact ((((ht1.below (below_new _ _) (Nat.le_refl _)).below hb2 (Nat.le_refl _)).below (below_new _ _) (Nat.le_refl _)).below hb3 (Nat.le_refl _))
  · exact (ht2.below (below_new _ _) (Nat.le_refl _)).below hb3 (Nat.le_refl _)
theorem three_end {w w3 w5 : World} {o : Obj} (hb : Below w.heap.size w w3) (hb5 : Below (w3.alloc o).heap.size (w3.alloc o) w5) : Below w.heap.size w w5 :=
  (hb.alloc hb.size o).trans (hb5.mono (by have := hb.size; simp; omega))
theorem same_yes (u v : Value) (l : List Tok) (w : World) (hu : Toks w u l) (hv : Toks w v l) : Calls Try.prog 26 #[u, v] w fun e w' => e = .returned (.bool true) ∧ ∃ n, w' = w.drewN n := by
  have := same_any u v l l w hu hv
  rw [show decide (l = l) = true from by simp] at this; exact this
theorem lines_end {w w3 wr w5 : World} {o : Obj} {n : Nat} (hb : Below w.heap.size w w3) (hbr : Below (w3.heap.size + 1) ((w3.alloc o).drewN n) wr) (hb5 : Below wr.heap.size wr w5) : Below w.heap.size w w5 := by
  have z := hb.size
  have z2 := hbr.size
  simp at z2
  exact ((below_drewN (hb.alloc hb.size o) n).trans (hbr.mono (by omega))).trans (hb5.mono (by omega))
theorem toks_head {w : World} {A : Option Addr} {n c : Nat} {L M : List Tok} (h : Toks w (.slice A n c) (L ++ M)) : Toks w (.slice A L.length c) L := by
  obtain ⟨A', c', he, h1, h2, h3⟩ := h
  injection he with e1 e2 e3
  subst e1 e3
  refine ⟨_, _, rfl, by rw [List.length_append] at h1; omega, h2, fun i t hi => ?_⟩
  exact h3 i t (by rw [List.getElem?_append_left (List.getElem?_eq_some_iff.1 hi).1]; exact hi)

theorem own_below {w w2 : World} {b : Nat} {v : Value} {n : Nat} {e : TypeId} {sz : Nat} {xs : List Value} (h : w.ownsRow b e sz v n xs) (hb : Below w.heap.size w w2) : w2.ownsRow b e sz v n xs := by
  refine ⟨h.1, ?_⟩
  rcases h.2 with h0 | ⟨g, cap, cur, h1, h2, h3, h4⟩
  · exact .inl h0
  · exact .inr ⟨g, cap, cur, h1, h2, (hb.block g (lt_of_block h3)).trans h3, h4⟩
theorem two_mid {w w1 w2 w3 : World} {c2 p2 : Int} {v2 : Value} {M : List Tok} (hb1 : Below w.heap.size w w1) (hb2 : Below w1.heap.size w1 w2)
    (hb3 : Below (w2.alloc (.cells #[.int .i64 c2, .int .i64 p2] 35)).heap.size (w2.alloc (.cells #[.int .i64 c2, .int .i64 p2] 35)) w3) (ht2 : Toks w2 v2 M) :
    w2.heap.size < w3.heap.size ∧ w3.cell? ⟨w2.heap.size, 0, none⟩ = some (.int .i64 c2) ∧ w3.cell? ⟨w2.heap.size, 1, none⟩ = some (.int .i64 p2) ∧ Below w.heap.size w w3 ∧ Toks w3 v2 M := by
  have z1 := hb1.size
  have z2 := hb2.size
  have z3 := hb3.size
  simp at z3
  refine ⟨by omega, ?_, ?_, ?_, ?_⟩
  · rw [hb3.cell (by simp), World.cell?_alloc_at _ _ _ _ rfl]; rfl
  · rw [hb3.cell (by simp), World.cell?_alloc_at _ _ _ _ rfl]; rfl
  · exact (hb1.trans (hb2.mono z1)).trans (((Below.refl _ _).alloc (by omega) _).trans (hb3.mono (by simp; omega)))
  · exact (ht2.below (below_new _ _) (Nat.le_refl _)).below hb3 (Nat.le_refl _)
attribute [local go_sem ↓] neq_tok eql_tok guard_tok eql_fault guard_fault
theorem faultB_yes (c p : Int) : faultB c c p p = true := by simp [faultB]

theorem info5 : (Try.prog.info? 5).map (fun i => (i.zero, i.size, i.bytes)) = some (some (.int .u8 0), 1, 1) := by kernel_rfl
def bl (n : Nat) : Bytes := (List.range n).map fun i => [32, 9, 10, 13].getD (i % 4) 0
theorem bl_len (n : Nat) : (bl n).length = n := by simp [bl]
theorem bl_succ (n : Nat) : bl (n + 1) = bl n ++ [[32, 9, 10, 13].getD (n % 4) 0] := by simp [bl, List.range_succ]
theorem bl_blank (n : Nat) : (bl n).all blankB = true := by
  rw [List.all_eq_true]
  intro x hx
  simp only [bl, List.mem_map, List.mem_range] at hx
  obtain ⟨i, _, rfl⟩ := hx
  have : i % 4 = 0 ∨ i % 4 = 1 ∨ i % 4 = 2 ∨ i % 4 = 3 := by omega
  rcases this with h | h | h | h <;> rw [h] <;> decide
def laidB (n k : Nat) : List Value := (bl k).map (fun b => Value.int .u8 (b.toNat : Int)) ++ List.replicate (n - k) (.int .u8 0)
theorem laidB_zero (n : Nat) : laidB n 0 = List.replicate n (.int .u8 0) := by simp [laidB, bl]
theorem laidB_set (n k : Nat) (h : k < n) : (laidB n k).set k (.int .u8 (([32, 9, 10, 13].getD (k % 4) 0 : UInt8).toNat : Int)) = laidB n (k + 1) := by
  have e1 : n - k = (n - (k + 1)) + 1 := by omega
  have e2 : ((bl k).map (fun b => Value.int .u8 (b.toNat : Int))).length = k := by rw [List.length_map, bl_len]
  unfold laidB
  rw [e1, List.replicate_succ, List.set_append_right _ _ (by rw [e2]; exact Nat.le_refl _), e2, Nat.sub_self, List.set_cons_zero, bl_succ, List.map_append, List.append_assoc]
  rfl
theorem conv_any {w : World} {b g n : Nat} (h : w.ownsRow b 5 1 (.slice (some ⟨g, 0, none⟩) n n) n (laidB n n)) : (convert 44 9 (.slice (some ⟨g, 0, none⟩) n n)).run Try.prog w = .ok (.string (str (bl n))) w := by
  have := run_convert_bytes_back (P := Try.prog) w 44 9 5 ⟨g, 0, none⟩ n (bl n) Try.underlying44 Try.underlying5 Try.underlying9 (fun j hj => by
    rw [bl_len] at hj
    have e : (⟨g, 0, none⟩ : Addr).add j = ⟨g, j, none⟩ := by unfold Addr.add; split <;> simp_all
    rw [e, h.cellAt j (by omega)]
    unfold laidB
    rw [List.getElem?_append_left (by rw [List.length_map, bl_len]; exact hj), List.getElem?_map, List.getElem?_eq_getElem (by rw [bl_len]; exact hj)]; rfl)
  rw [bl_len] at this
  exact this

set_option maxRecDepth 100000 in
set_option maxHeartbeats 8000000 in
theorem walk (s : ByteArray) (n : Int) (hs : s.size ≤ maxLen) (wn : (Lit.int .i64 n).wf = true) (w : World) : Calls Try.prog 13 #[.string s, .int .i64 n] w fun e w' => e = .returned (.bool true) ∧ Below w.heap.size w w' := by
  clear wn
  by_cases hbig : s.size ≤ 1000 ∧ 0 ≤ n ∧ n ≤ 100
  · obtain ⟨hs5, hn0, hn1⟩ := hbig
    obtain ⟨N, rfl⟩ := Int.eq_ofNat_of_zero_le hn0
    obtain ⟨i0, hi, hz0, hz1, hz2⟩ := info_parts info5
    unfold maxLen at hs
    go_enter Try.func13, Try.ntmps13
    go_wp2_with (at_make; refine wpList_make_full _ rfl _ _ 44 rfl w.heap.size 5 i0 _ 1 Try.underlying44 hi hz0 hz1 _ _ _ _ N rfl rfl rfl rfl (by rw [hz2]; omega) (by unfold maxLen; omega) (Nat.le_refl _) ?_)
    intro w1 hown hgrow
    have hb1 : Below w.heap.size w w1 := (Below.refl _ _).grown hgrow (Nat.le_refl _) (fun k hk => by simp at hk)
    have hown0 : w1.ownsRow w.heap.size 5 1 (.slice (some ⟨w.heap.size, 0, none⟩) N N) N (laidB N 0) := by
      rw [laidB_zero, ← toList_madeCells_one]; exact hown
    clear hown hgrow
    go_wp2
    go_loopw [6] (fun i wr => ∃ k : Nat, k ≤ N ∧ i = .int .i64 k ∧ wr.ownsRow w.heap.size 5 1 (.slice (some ⟨w.heap.size, 0, none⟩) N N) N (laidB N k) ∧ Below w.heap.size w wr) (fun i _ => N - (intOf i).toNat)
    case atStart => exact ⟨0, Nat.zero_le _, rfl, hown0, hb1⟩
    case round =>
      obtain ⟨k, hk, rfl, hown, hb⟩ := hrel
      clear hown0 hb1
      by_cases hlt : k < N
      · have hset := Lib.hid ((hown.stored k (.int .u8 (([32, 9, 10, 13].getD (k % 4) 0 : UInt8).toNat : Int))).1)
        have hwz2 : w.heap.size < wr.heap.size := (hown.lt _ rfl).2
        have hsc : (laidB N k)[k]? = some (.int .u8 0) := by
          unfold laidB
          rw [List.getElem?_append_right (by rw [List.length_map, bl_len]; exact Nat.le_refl _), List.getElem?_replicate]
          simp [bl_len]; omega
        have c0 := (hown.cellAt k (by omega)).trans hsc
        have f0 := hown.frozenAt k
        have HLS := Lib.hid (laidB_set N k hlt)
        have HB := Lib.hid hb
        clear hown hb hsc
        have h4 : k % 4 = 0 ∨ k % 4 = 1 ∨ k % 4 = 2 ∨ k % 4 = 3 := by omega
        rcases h4 with h4 | h4 | h4 | h4
        · have h5 : (k : Int) % 4 = 0 := by omega
          have HS2 := Lib.hid (show (wr.setCell ⟨w.heap.size, k, none⟩ (.int .u8 (([32, 9, 10, 13].getD 0 0 : UInt8).toNat : Int))).ownsRow w.heap.size 5 1 (.slice (some ⟨w.heap.size, 0, none⟩) N N) N (laidB N (k + 1)) from by
            have := hset.out; rw [HLS.out, h4] at this; exact this)
          clear hset HLS
          go_wp2
          exact ⟨⟨k + 1, by omega, by go_num, HS2.out, HB.out.setCell (Nat.le_refl _) _⟩, by simp [intOf]; omega⟩
        · have h5 : (k : Int) % 4 = 1 := by omega
          have HS2 := Lib.hid (show (wr.setCell ⟨w.heap.size, k, none⟩ (.int .u8 (([32, 9, 10, 13].getD 1 0 : UInt8).toNat : Int))).ownsRow w.heap.size 5 1 (.slice (some ⟨w.heap.size, 0, none⟩) N N) N (laidB N (k + 1)) from by
            have := hset.out; rw [HLS.out, h4] at this; exact this)
          clear hset HLS
          go_wp2
          exact ⟨⟨k + 1, by omega, by go_num, HS2.out, HB.out.setCell (Nat.le_refl _) _⟩, by simp [intOf]; omega⟩
        · have h5 : (k : Int) % 4 = 2 := by omega
          have HS2 := Lib.hid (show (wr.setCell ⟨w.heap.size, k, none⟩ (.int .u8 (([32, 9, 10, 13].getD 2 0 : UInt8).toNat : Int))).ownsRow w.heap.size 5 1 (.slice (some ⟨w.heap.size, 0, none⟩) N N) N (laidB N (k + 1)) from by
            have := hset.out; rw [HLS.out, h4] at this; exact this)
          clear hset HLS
          go_wp2
          exact ⟨⟨k + 1, by omega, by go_num, HS2.out, HB.out.setCell (Nat.le_refl _) _⟩, by simp [intOf]; omega⟩
        · have h5 : (k : Int) % 4 = 3 := by omega
          have HS2 := Lib.hid (show (wr.setCell ⟨w.heap.size, k, none⟩ (.int .u8 (([32, 9, 10, 13].getD 3 0 : UInt8).toNat : Int))).ownsRow w.heap.size 5 1 (.slice (some ⟨w.heap.size, 0, none⟩) N N) N (laidB N (k + 1)) from by
            have := hset.out; rw [HLS.out, h4] at this; exact this)
          clear hset HLS
          go_wp2
          exact ⟨⟨k + 1, by omega, by go_num, HS2.out, HB.out.setCell (Nat.le_refl _) _⟩, by simp [intOf]; omega⟩
      · have hkN : k = N := by omega
        subst hkN
        have HOWN := Lib.hid hown
        have HBW := Lib.hid hb
        clear hown hb
        have hla := fun W => lex_gives s W (by unfold maxLen; omega)
        have hsz : (str (bl k) ++ s ++ ⟨#[10]⟩ ++ str (bl k)).size = k + s.size + 1 + k := by
          rw [ByteArray.size_append, ByteArray.size_append, ByteArray.size_append, str_size, bl_len]; rfl
        have hln := fun W => lex_gives (str (bl k) ++ s ++ ⟨#[10]⟩ ++ str (bl k)) W (by rw [hsz]; unfold maxLen; omega)
        have htl : (str (bl k) ++ s ++ ⟨#[10]⟩ ++ str (bl k)).toList = bl k ++ s.toList ++ 10 :: bl k := by
          rw [app_toList, app_toList, app_toList, str_toList, show (ByteArray.mk #[10]).toList = [10] from str_toList [10]]; simp
        rw [htl, blanks _ _ _ (bl_blank k) (bl_blank k) (by simp only [List.length_append, List.length_cons, toList_len, bl_len]; omega), bl_len] at hln
        have hca := lexM_code s.toList (by rw [toList_len]; omega)
        have hqa := fun i t => chain_at (lexM_chain s.toList (by rw [toList_len]; omega)).1 i t
        have hla2 := chain_len (lexM_chain s.toList (by rw [toList_len]; omega)).1 (Nat.zero_le _)
        rw [toList_len] at hla2 hca
        rw [toList_len] at hqa
        revert hla hln hca hqa hla2
        generalize lexM s.toList = ra
        intro hla hln hca hqa hla2
        clear hsz htl
        cases ra with
        | bad c p =>
          obtain ⟨hc, hp0, hp1⟩ := hca c p rfl
          have hc1 : (c != 0) = true := by simpa using hc
          have hf := faultB_yes c (p + (k : Int))
          have HLa := Lib.hid (show Calls Try.prog 24 #[.string s] wr (LexGives wr [] c p) from hla wr)
          have HLn := Lib.hid (show ∀ W, Calls Try.prog 24 #[.string (str (bl k) ++ s ++ ⟨#[10]⟩ ++ str (bl k))] W (LexGives W [] c (p + (k : Int))) from hln)
          clear hla hln hca hc hqa hla2
          go_wp2_with fail
          refine HLa.out.mono ?_
          rintro e w2 ⟨v2, rfl, ht2, hb2⟩
          have hcv := conv_any ((own_below HOWN.out hb2).alloc (.cells #[.int .i64 c, .int .i64 p] 35))
          have hbs : (str (bl k)).size = k := by rw [str_size, bl_len]
          go_wp2_with fail
          clear hcv hbs
          refine (HLn.out _).mono ?_
          rintro e w3 ⟨v3, rfl, ht3, hb3⟩
          obtain ⟨k2, c20, c21, B3, t2⟩ := two_mid HBW.out hb2 hb3 ht2
          have HB3 := Lib.hid B3
          have HT2 := Lib.hid t2
          have HT3 := Lib.hid ht3
          clear B3 hb2 hb3 ht2 t2 ht3 HLa HLn HOWN HBW
          go_wp2_with (go_at_call 23; refine (live_any _).mono ?_; rintro e w5 ⟨rfl, hb5⟩)
          go_ret
          exact ⟨rfl, three_end HB3.out hb5⟩
        | ok L =>
          have HLa := Lib.hid (show Calls Try.prog 24 #[.string s] wr (LexGives wr L 0 0) from hla wr)
          have HLn := Lib.hid (show ∀ W, Calls Try.prog 24 #[.string (str (bl k) ++ s ++ ⟨#[10]⟩ ++ str (bl k))] W (LexGives W (L.map (Tok.shift k)) 0 0) from hln)
          have HQ := Lib.hid (show ∀ (i : Nat) (t : Tok), L[i]? = some t → t.at_ ≤ s.size from hqa)
          have l1 : L.length ≤ 1000 := Nat.le_trans hla2 (by omega)
          clear hla hln hca hqa hla2
          go_wp2_with fail
          refine HLa.out.mono ?_
          rintro e w2 ⟨v2, rfl, ht2, hb2⟩
          have hcv := conv_any ((own_below HOWN.out hb2).alloc (.cells #[.int .i64 0, .int .i64 0] 35))
          have hbs : (str (bl k)).size = k := by rw [str_size, bl_len]
          go_wp2_with fail
          clear hcv hbs
          refine (HLn.out _).mono ?_
          rintro e w3 ⟨v3, rfl, ht3, hb3⟩
          obtain ⟨k2, c20, c21, B3, t2⟩ := two_mid HBW.out hb2 hb3 ht2
          have HB3 := Lib.hid B3
          have HT2 := Lib.hid t2
          have HT3 := Lib.hid ht3
          clear B3 hb2 hb3 ht2 t2 ht3 HLa HLn HOWN HBW
          obtain ⟨A2, y1, rfl, y2, y3, y4⟩ := HT2.out
          obtain ⟨A3, z1, rfl, z2, z3, z4⟩ := HT3.out
          have Y4 := Lib.hid y4
          have Z4 := Lib.hid z4
          clear y4 z4
          simp only [List.length_map] at z2
          have e1 : (L.map (Tok.shift k)).length = L.length := by simp
          rw [e1]
          clear e1 HT2 HT3
          unfold maxLen at y3 z3
          go_wp2
          go_loopw [11] (fun i wrx => ∃ j : Nat, j ≤ L.length ∧ i = .int .i64 j ∧ Below (w3.heap.size + 1) (w3.alloc (.cells #[.int .i64 0, .int .i64 0] 35)) wrx) (fun i _ => L.length - (intOf i).toNat)
          case atStart => exact ⟨0, Nat.zero_le _, rfl, Below.refl _ _⟩
          case round =>
            obtain ⟨j, hj, rfl, hbr⟩ := hrel
            have zr := hbr.size
            have zr' : w3.heap.size + 1 ≤ wr.heap.size := by simpa using zr
            clear zr
            have HBR := Lib.hid hbr
            by_cases hlt2 : j < L.length
            · obtain ⟨t, ht⟩ : ∃ t, L[j]? = some t := ⟨_, List.getElem?_eq_getElem hlt2⟩
              have hQ := HQ.out j t ht
              have hn : (L.map (Tok.shift k))[j]? = some (Tok.shift k t) := by rw [List.getElem?_map, ht]; rfl
              obtain ⟨g, rfl, hg, a0, a1, a2⟩ := Y4.out j t ht
              obtain ⟨g', rfl, hg', b0, b1, b2⟩ := Z4.out _ _ hn
              obtain ⟨K, T, Q⟩ := t
              simp only [Tok.shift] at a0 a1 a2 b0 b1 b2 hQ
              have hc : ∀ x o, x < w3.heap.size → wr.cell? ⟨x, o, none⟩ = w3.cell? ⟨x, o, none⟩ := fun x o hx => (hbr.cell (by show x < _; omega)).trans (World.cell?_alloc_past _ _ _ hx)
              have a0' := (hc g _ hg).trans a0
              have a1' := (hc g _ hg).trans a1
              have a2' := (hc g _ hg).trans a2
              have b0' := (hc g' _ hg').trans b0
              have b1' := (hc g' _ hg').trans b1
              have b2' := ((hc g' _ hg').trans b2).trans (congrArg (fun z => some (Value.int .i64 z)) (show ((Q + k : Nat) : Int) = (Q : Int) + (k : Int) from by omega))
              have hgr : g < wr.heap.size := by omega
              have hgr' : g' < wr.heap.size := by omega
              clear hc a0 a1 a2 b0 b1 b2 hn ht hbr Y4 Z4
              have ht1 : tokB K K (Q : Int) (Q : Int) (str T) (str T) = true := by
                unfold tokB; simp
              go_wp2
              go_quiet (fail)
              go_wp2
              refine ⟨⟨j + 1, by omega, by go_num, ?_⟩, by simp [intOf]; omega⟩
              exact below_drewN (HBR.out.alloc (by omega) _) nq
            · clear hbr
              go_wp2_with (go_at_call 23; refine (live_any _).mono ?_; rintro e w5 ⟨rfl, hb5⟩)
              go_ret
              exact ⟨rfl, lines_end (n := 0) HB3.out HBR.out hb5⟩
  · have hbig' : 1000 < s.size ∨ s.size ≤ 1000 ∧ n < 0 ∨ s.size ≤ 1000 ∧ 0 ≤ n ∧ 100 < n := by omega
    clear hbig
    rcases hbig' with h1 | ⟨h1, h2⟩ | ⟨h1, h2, h3⟩
    all_goals
      go_enter Try.func13, Try.ntmps13
      go_wp2_with (go_at_call 23; refine (live_any _).mono ?_; rintro e w1 ⟨rfl, hb⟩)
      all_goals
        go_ret
        exact ⟨rfl, hb⟩


set_option maxRecDepth 100000 in
theorem lifted (os : Os) (started : os.Started) (H : Type) (enc : TypeId × Value → H) :
    ReturnsInHanded {} Try.checked os 13 .any (Rows.lexBlanksSpec.pre6 enc Try.prog Try.f13 Rows.lexBlanksRow.domain false) (Rows.lexBlanksSpec.post enc Try.prog Try.f13 false true false false) := by
  refine returnsInHanded_of_change (C := Try.checked) own started (by kernel_rfl) Try.func13
    (ChangeSpec.witness6 (enc := enc) (C := Try.checked) false ⟨#[], #[.string ⟨#[]⟩, .int .i64 0], []⟩ 8 (by kernel_rfl) (by kernel_rfl) (by kernel_rfl) (by kernel_rfl)) ?_
  intro W base args ds gs before hval0 hW hcnd _
  have hval : ∀ (j : Nat) t v, Try.f13.params[j]? = some t → args[j]? = some v → Value.okWide Try.prog W .any base t v := hval0
  have hW' := hW
  obtain ⟨p, q, hA0, hV, rfl, hfz, hnd⟩ := hW
  have hA : DataW.TrodAll enc Try.prog W 0 (fun _ => true) true Try.f13.params.toList args.toList ds p := hA0
  rw [Try.params13] at hA hval
  obtain ⟨v0, vs0, d0, ds0, p0, q0, hargs, rfl, rfl, h0, r0⟩ := trodAll_cons hA
  obtain ⟨v1, vs1, d1, ds1, p1, q1, rfl, rfl, rfl, h1, r1⟩ := trodAll_cons r0
  obtain ⟨rfl, rfl, rfl⟩ := trodAll_nil r1
  obtain rfl : args = #[v0, v1] := by cases args; simp_all
  obtain ⟨rfl, rfl⟩ := trodVars_none hV
  obtain ⟨a0, rfl, rfl, rfl, w0⟩ := Go.ChangeMaps.open_string Try.underlying9 (hval 0 9 v0 rfl rfl) h0
  obtain ⟨a1, rfl, rfl, rfl, w1⟩ := open_int Try.underlying3 (hval 1 3 v1 rfl rfl) h1
  clear hA0 hval0
  simp only [List.append_nil] at hW'
  refine (walk a0 a1 w0 w1 W).mono fun e W' ⟨he, hg⟩ => ?_
  subst he
  exact ⟨_, rfl, Lx.post_kept (pa := []) (pv := []) hW' (fun _ => (trodAll_cons_mk (shut_bool Try.underlying4 _) trodAll_mk0)) (trodAll_cons_mk (Go.ChangeMaps.shut_string Try.underlying9 w0) (trodAll_cons_mk (shut_int Try.underlying3 w1) trodAll_mk0)) rfl hg⟩

theorem over : Rows.lexBlanksRow.holds Try.pinned (OpenSpec.ofChange Rows.lexBlanksSpec) :=
  OpenClaim.holds_of_wide 13 Try.f13 rfl rfl rfl rfl rfl rfl rfl ⟨rfl, rfl, rfl, rfl, rfl⟩ rfl rfl rfl rfl rfl (by kernel_rfl) Try.func13 (by kernel_rfl)
    (of_decide_eq_true (by kernel_rfl)) (by unfold Func.isWrapper; first | (rw [if_pos (by decide +kernel)]; kernel_rfl) | (rw [if_neg (by decide +kernel)]; exact ⟨rfl, rfl⟩))
    (fun os started H enc _ => lifted os started H enc)

theorem proved : Rows.LexBlanksSaid :=
  over
#print axioms proved
end Go.Proofs.Ytgligmdkikbdoaa.lexBlanks

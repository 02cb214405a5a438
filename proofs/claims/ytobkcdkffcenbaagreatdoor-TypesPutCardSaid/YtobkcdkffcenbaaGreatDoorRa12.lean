/- A lean reader of expressions: Read. Conditions: a source of which the plain reader reads all. -/
import Derived.Test.YtobkcdkffcenbaaGreatDoorRa11
import Derived.Test.YtobkcdkffcenbaaGreatDoorRa01
set_option linter.unusedVariables false
set_option linter.unusedSimpArgs false
namespace Go.Proofs.YtobkcdkffcenbaaGreatDoor.Lr
open Go.ChangeShapes Go.WideShapes Go.ChangeAt Go.RowKit
open Go.Proofs.YtobkcdkffcenbaaGreatDoor.Tr (str ret_bool ret_int Bytes Nd Nodes joinM roomM own_block own_below own_ne own_base ndsOf)
set_option maxRecDepth 100000 in
set_option maxHeartbeats 4000000 in
theorem read_ok (S : ByteArray) (x : List Nd) (w : World) (hs : S.size ≤ maxLen) (h : reads S.toList x = true) :
    Calls Tryz.prog 33 #[.string S] w (fun e w' => ∃ v, e = .returned (.tuple #[v, .agg #[.int .i64 0, .int .i64 0]]) ∧ NdW w' v x ∧ Below w.heap.size w w') := by
  unfold reads at h
  simp only [Bool.and_eq_true, beq_iff_eq, decide_eq_true_eq] at h
  obtain ⟨⟨⟨⟨⟨r1, r2⟩, r3⟩, r4⟩, r5⟩, r6⟩ := h
  obtain ⟨L, hL⟩ : ∃ l, (Lx.lexM S.toList).toks = l := ⟨_, rfl⟩
  rw [hL] at r3 r6
  obtain ⟨w1, hw1⟩ : ∃ W, w.alloc (.cells #[.int .i64 0, .int .i64 0] 29) = W := ⟨_, rfl⟩
  have hb1 : Below w.heap.size w w1 := hw1 ▸ (Below.refl _ _).alloc (Nat.le_refl _) _
  have hx1 : w1.heap[w.heap.size]? = some (.cells #[.int .i64 0, .int .i64 0] 29 (0, 0)) := hw1 ▸ heap_alloc_new _ _
  have HLX := Lib.hid (Rf.rlex_gives S w1 hs)
  rw [hL, r1, r2] at HLX
  have HX1 := Lib.hid hx1
  have HB1 := Lib.hid hb1
  have HR6 := Lib.hid r6
  have HR5 := Lib.hid r5
  have hl1 := blk_lt hx1
  clear hL r1 r2 r5 r6 hb1 hx1
  go_enter Tryz.func33, Tryz.ntmps33
  go_wp2_with fail
  refine HLX.out.mono ?_
  rintro e w2 ⟨lv, rfl, ht, hb2⟩
  have HTK := Lib.hid (TkAt.of_toks ht)
  have HB2 := Lib.hid (HB1.out.trans (hb2.mono HB1.out.size))
  have HX2 := Lib.hid ((hb2.block _ hl1).trans HX1.out)
  have hl2 := blk_lt HX2.out
  obtain ⟨A, c, rfl, t1, t2, -⟩ := ht
  unfold maxLen at t2
  obtain ⟨w3, hw3⟩ : ∃ W, w2.alloc (.cells #[.int .i64 0, .int .i64 0] 29) = W := ⟨_, rfl⟩
  have hb3 : Below w2.heap.size w2 w3 := hw3 ▸ (Below.refl _ _).alloc (Nat.le_refl _) _
  have hs3 := hb3.size
  have HB3 := Lib.hid (HB2.out.trans (hb3.mono HB2.out.size))
  have HX3 := Lib.hid ((hb3.block _ hl2).trans HX2.out)
  have HP := Lib.hid (parse_ok L (.slice A L.length c) 200 0 L.length x w3 r3 (Nat.zero_le _) ((HTK.out.mv (fun g hg => hb3.block g hg)).up hs3) HR6.out r4 HR5.out)
  have HW3 := Lib.hid hw3
  clear hb2 hb3 hw3 hw1
  go_wp2_with fail
  rw [HW3.out]
  refine HP.out.mono ?_
  rintro e w4 ⟨v, rfl, n4, hb4⟩
  have HB4 := Lib.hid (HB3.out.trans (hb4.mono HB3.out.size))
  have hl3 := blk_lt HX3.out
  have HX4 := Lib.hid ((hb4.block _ hl3).trans HX3.out)
  have hl4 := blk_lt HX4.out
  obtain ⟨A4, c4, rfl, y4, -⟩ := n4.form
  unfold maxLen at y4
  have hx4 := HX4.out
  have p0 : w4.cell? ⟨w.heap.size, 0, none⟩ = some (.int .i64 0) := by simp [World.cell?, hx4]
  have p1 : w4.cell? ⟨w.heap.size, 1, none⟩ = some (.int .i64 0) := by simp [World.cell?, hx4]
  have f0 : w4.frozen? ⟨w.heap.size, 0, none⟩ = false := by simp [World.frozen?, hx4]
  have f1 : w4.frozen? ⟨w.heap.size, 1, none⟩ = false := by simp [World.frozen?, hx4]
  have hne : w.heap.size ≠ w4.heap.size := by omega
  have N4 := Lib.hid n4
  clear n4 hb4 hx4
  go_wp2
  have z00 : ((w4.setCell ⟨w.heap.size, 0, none⟩ (.int .i64 0)).setCell ⟨w.heap.size, 1, none⟩ (.int .i64 0)).heap[w.heap.size]? = some (.cells #[.int .i64 0, .int .i64 0] 29 (0, 0)) := by
    simp [World.setCell, Array.getElem?_modify, HX4.out]
  have z0 : (((w4.setCell ⟨w.heap.size, 0, none⟩ (.int .i64 0)).setCell ⟨w.heap.size, 1, none⟩ (.int .i64 0)).alloc (.cells #[.int .i64 0, .int .i64 0] 29)).heap[w.heap.size]? = some (.cells #[.int .i64 0, .int .i64 0] 29 (0, 0)) :=
    (Below.heap_alloc _ _ _ (blk_lt z00)).trans z00
  have z1 : (((w4.setCell ⟨w.heap.size, 0, none⟩ (.int .i64 0)).setCell ⟨w.heap.size, 1, none⟩ (.int .i64 0)).alloc (.cells #[.int .i64 0, .int .i64 0] 29)).cell? ⟨w.heap.size, 0, none⟩ = some (.int .i64 0) := by unfold World.cell?; rw [z0]; rfl
  have z2 : (((w4.setCell ⟨w.heap.size, 0, none⟩ (.int .i64 0)).setCell ⟨w.heap.size, 1, none⟩ (.int .i64 0)).alloc (.cells #[.int .i64 0, .int .i64 0] 29)).cell? ⟨w.heap.size, 1, none⟩ = some (.int .i64 0) := by unfold World.cell?; rw [z0]; rfl
  have hB0 : Below w.heap.size w ((w4.setCell ⟨w.heap.size, 0, none⟩ (.int .i64 0)).setCell ⟨w.heap.size, 1, none⟩ (.int .i64 0)) := (HB4.out.setCell (p := ⟨w.heap.size, 0, none⟩) (by simp) _).setCell (p := ⟨w.heap.size, 1, none⟩) (by simp) _
  have hN0 : NdW ((w4.setCell ⟨w.heap.size, 0, none⟩ (.int .i64 0)).setCell ⟨w.heap.size, 1, none⟩ (.int .i64 0)) (.slice A4 x.length c4) x := N4.out.set2 HX4.out _ _
  exact bodyPost_ret (v := .tuple #[.slice A4 x.length c4, .agg #[.int .i64 0, .int .i64 0]]) (by simp [results, Tryz.results33, go_sem, z1, z2]) rfl ⟨_, rfl, hN0.below ((Below.refl _ _).alloc (Nat.le_refl _) _), hB0.alloc hB0.size _⟩
end Go.Proofs.YtobkcdkffcenbaaGreatDoor.Lr

/- A lean reader of programs: what tokens read as, where nothing fails, as plain functions. Conditions: none. -/
namespace Go.Proofs.YtobkcdkffcenbaaGreatDoor.Lp
open Go.Proofs.YtobkcdkffcenbaaGreatDoor.Tr (Bytes Nd)
open Go.Proofs.YtobkcdkffcenbaaGreatDoor.Lr (isAt run)
open Go.Proofs.YtobkcdkffcenbaaGreatDoor.Pg (Prm Eqn Itm Unt)
def bd {α β : Type} (r : Option (α × Nat)) (k : α → Nat → Option β) : Option β := match r with
  | some (x, j) => k x j
  | none => none
theorem bd_some {α β : Type} {r : Option (α × Nat)} {k : α → Nat → Option β} {y : β} (h : bd r k = some y) : ∃ x j, r = some (x, j) ∧ k x j = some y := by
  unfold bd at h
  split at h
  · exact ⟨_, _, rfl, h⟩
  · cases h
def nd {β : Type} (L : List Lx.Tok) (i : Nat) (s : Bytes) (k : Option β) : Option β := if isAt L i s then k else none
theorem nd_some {β : Type} {L : List Lx.Tok} {i : Nat} {s : Bytes} {k : Option β} {y : β} (h : nd L i s k = some y) : isAt L i s = true ∧ k = some y := by
  unfold nd at h
  split at h
  · exact ⟨by assumption, h⟩
  · cases h
def isNm (L : List Lx.Tok) (i : Nat) : Bool := match L[i]? with
  | some t => t.kind == 1
  | none => false
def nameL (L : List Lx.Tok) (i : Nat) : Option (Bytes × Nat) := match L[i]? with
  | some t => if t.kind = 1 then some (t.text, i + 1) else none
  | none => none
theorem name_is {L : List Lx.Tok} {i j : Nat} {n : Bytes} (h : nameL L i = some (n, j)) : isNm L i = true ∧ j = i + 1 ∧ ∃ t, L[i]? = some t ∧ t.kind = 1 ∧ t.text = n := by
  unfold nameL at h
  split at h
  · rename_i t ht
    split at h
    · rename_i hk
      injection h with h
      simp only [Prod.mk.injEq] at h
      refine ⟨by unfold isNm; rw [ht]; simp [hk], h.2.symm, t, ht, hk, h.1⟩
    · cases h
  · cases h
def exprL (L : List Lx.Tok) (i : Nat) : Option (List Nd × Nat) := match run L 200 .arrow [] 0 i with
  | some ([x], j) => if x.length ≤ 5000 ∧ Tr.depthM x ≤ 40 then some (x, j) else none
  | _ => none
theorem expr_is {L : List Lx.Tok} {i j : Nat} {x : List Nd} (h : exprL L i = some (x, j)) : run L 200 .arrow [] 0 i = some ([x], j) ∧ x.length ≤ 5000 ∧ Tr.depthM x ≤ 40 := by
  unfold exprL at h
  split at h
  · rename_i y k hr
    split at h
    · rename_i hc
      injection h with h
      simp only [Prod.mk.injEq] at h
      obtain ⟨rfl, rfl⟩ := h
      exact ⟨hr, hc⟩
    · cases h
  · cases h
def paramL (L : List Lx.Tok) (i : Nat) : Option (Prm × Nat) := bd (nameL L i) fun n j => nd L j [58] (if isAt L (j + 1) [98, 111, 111, 108] then some (⟨n, 1⟩, j + 2) else if isAt L (j + 1) [105, 110, 116] then some (⟨n, 2⟩, j + 2) else none)
def inputsF (L : List Lx.Tok) : Nat → List Prm → Nat → Option (List Prm × Nat)
  | 0, _, _ => none
  | f + 1, acc, i => if 200 ≤ acc.length then none else bd (paramL L i) fun p j => if isAt L j [41] then some (acc ++ [p], j + 1) else nd L j [59] (inputsF L f (acc ++ [p]) (j + 1))
def inputsL (L : List Lx.Tok) (i : Nat) : Option (List Prm × Nat) := nd L i [40] (if isAt L (i + 1) [41] then some ([], i + 2) else inputsF L 200 [] (i + 1))
def argsF (L : List Lx.Tok) : Nat → List (List Nd) → Nat → Option (List (List Nd) × Nat)
  | 0, _, _ => none
  | f + 1, acc, i => if 200 ≤ acc.length then none else bd (exprL L i) fun p j => if isAt L j [41] then some (acc ++ [p], j + 1) else nd L j [44] (argsF L f (acc ++ [p]) (j + 1))
def argsL (L : List Lx.Tok) (i : Nat) : Option (List (List Nd) × Nat) := nd L i [40] (if isAt L (i + 1) [41] then some ([], i + 2) else argsF L 200 [] (i + 1))
def wAssume : Bytes := [97, 115, 115, 117, 109, 101]
def wGuar : Bytes := [103, 117, 97, 114, 97, 110, 116, 101, 101]
def wGhost : Bytes := [103, 104, 111, 115, 116]
def wMode : Bytes := [109, 111, 100, 101]
def wImport : Bytes := [105, 109, 112, 111, 114, 116]
def itemL (L : List Lx.Tok) (i : Nat) : Option (Itm × Nat) :=
  if isAt L i wAssume then bd (exprL L (i + 1)) fun e j => nd L j [59] (some (⟨1, [], 0, e, [], []⟩, j + 1))
  else if isAt L i wGuar then bd (exprL L (i + 1)) fun e j => nd L j [59] (some (⟨2, [], 0, e, [], []⟩, j + 1))
  else if isAt L i wGhost then bd (paramL L (i + 1)) fun p j => nd L j [61] (bd (exprL L (j + 1)) fun e k => nd L k [59] (some (⟨3, p.name, p.ty, e, [], []⟩, k + 1)))
  else if isAt L i wMode then bd (nameL L (i + 1)) fun n j => nd L j [114, 101, 113, 117, 105, 114, 101] (bd (exprL L (j + 1)) fun e k => nd L k [101, 110, 115, 117, 114, 101] (bd (exprL L (k + 1)) fun g m => nd L m [59] (some (⟨4, n, 0, e, g, []⟩, m + 1))))
  else if isAt L i wImport then bd (nameL L (i + 1)) fun n j => bd (argsL L j) fun a k => nd L k [59] (some (⟨5, n, 0, [], [], a⟩, k + 1))
  else none
def begB (L : List Lx.Tok) (i : Nat) : Bool := isAt L i wAssume || isAt L i wGuar || isAt L i wGhost || isAt L i wMode || isAt L i wImport
def itemsF (L : List Lx.Tok) : Nat → List Itm → Nat → Option (List Itm × Nat)
  | 0, _, _ => none
  | f + 1, acc, i => if begB L i then (if 200 ≤ acc.length then none else bd (itemL L i) fun x j => itemsF L f (acc ++ [x]) j) else nd L i [101, 110, 100] (some (acc, i + 1))
def eqsF (L : List Lx.Tok) : Nat → List Eqn → Nat → Option (List Eqn × Nat)
  | 0, _, _ => none
  | f + 1, acc, i => if isNm L i then (if 200 ≤ acc.length then none else bd (nameL L i) fun n j => nd L j [61] (bd (exprL L (j + 1)) fun e k => nd L k [59] (eqsF L f (acc ++ [⟨n, e⟩]) (k + 1)))) else nd L i [116, 101, 108] (some (acc, i + 1))
def wContract : Bytes := [99, 111, 110, 116, 114, 97, 99, 116]
def wNode : Bytes := [110, 111, 100, 101]
def unitL (L : List Lx.Tok) (i : Nat) : Option (Unt × Nat) :=
  if isAt L i wContract then bd (nameL L (i + 1)) fun n j => bd (inputsL L j) fun ps k => bd (itemsF L 201 [] k) fun xs m => some (⟨true, n, ps, ⟨[], 0⟩, [], [], xs⟩, m)
  else nd L i wNode (bd (nameL L (i + 1)) fun n j => bd (inputsL L j) fun ps k => nd L k [114, 101, 116, 117, 114, 110, 115] (nd L (k + 1) [40] (bd (paramL L (k + 2)) fun o m => nd L m [41] (
    if isAt L (m + 1) wContract then bd (itemsF L 201 [] (m + 2)) fun xs q => (if isAt L q [118, 97, 114] then none else nd L q [108, 101, 116] (bd (eqsF L 201 [] (q + 1)) fun es z => some (⟨false, n, ps, o, [], es, xs⟩, z)))
    else if isAt L (m + 1) [118, 97, 114] then none else nd L (m + 1) [108, 101, 116] (bd (eqsF L 201 [] (m + 2)) fun es z => some (⟨false, n, ps, o, [], es, []⟩, z))))))
def unitsF (L : List Lx.Tok) : Nat → List Unt → Nat → Option (List Unt × Nat)
  | 0, _, _ => none
  | f + 1, acc, i => if isAt L i wNode || isAt L i wContract then (if 200 ≤ acc.length then none else bd (unitL L i) fun u j => unitsF L f (acc ++ [u]) j) else some (acc, i)
def progL (L : List Lx.Tok) : Option (List Unt × Bytes × Bytes) := bd (unitsF L 201 [] 0) fun us i => nd L i [109, 97, 105, 110] (bd (nameL L (i + 1)) fun m j => nd L j [59] (
  if isAt L (j + 1) [102, 97, 108, 108, 98, 97, 99, 107] then bd (nameL L (j + 2)) fun k q => nd L q [59] (if q + 1 = L.length then some (us, m, k) else none)
  else if j + 1 = L.length then some (us, m, []) else none))
end Go.Proofs.YtobkcdkffcenbaaGreatDoor.Lp

/- A lean reader of programs: a reader in memory in which nothing has failed; its small functions. Conditions: as each says. -/
namespace Go.Proofs.YtobkcdkffcenbaaGreatDoor.Lp
open Go.ChangeShapes Go.WideShapes Go.ChangeAt Go.RowKit
open Go.Proofs.YtobkcdkffcenbaaGreatDoor.Tr (str ret_bool ret_int Bytes Nd Nodes)
open Go.Proofs.YtobkcdkffcenbaaGreatDoor.Lr (isAt run TkAt Mv NdW blk_lt isAt_lt mv_set)
open Go.Proofs.YtobkcdkffcenbaaGreatDoor.Pg (Prm Eqn Itm Unt Stay)
open Go.Proofs.YtobkcdkffcenbaaGreatDoor.Ex (PtW)
def byC (lv : Value) (i : Nat) : Array Value := #[lv, .int .i64 (i : Int), .int .i64 0, .int .i64 0]
structure Ry (w : World) (b : Nat) (L : List Lx.Tok) (lv : Value) (i : Nat) : Prop where
  blk : w.heap[b]? = some (.cells (byC lv i) 88 (0, 0))
  tok : TkAt w b lv L
  ile : i ≤ L.length
  len : L.length ≤ 100000
structure P (w w' : World) (b : Nat) (L : List Lx.Tok) (lv : Value) (i : Nat) : Prop where
  rd : Ry w' b L lv i
  mv : Mv w w' b
theorem Ry.lt {w : World} {b : Nat} {L : List Lx.Tok} {lv : Value} {i : Nat} (h : Ry w b L lv i) : b < w.heap.size := blk_lt h.blk
theorem Ry.keep {w w' : World} {b : Nat} {L : List Lx.Tok} {lv : Value} {i : Nat} (h : Ry w b L lv i) (hm : ∀ g, g ≤ b → w'.heap[g]? = w.heap[g]?) : Ry w' b L lv i :=
  ⟨(hm b (Nat.le_refl _)).trans h.blk, h.tok.mv (fun g hg => hm g (Nat.le_of_lt hg)), h.ile, h.len⟩
theorem Ry.below {w w' : World} {b : Nat} {L : List Lx.Tok} {lv : Value} {i : Nat} (h : Ry w b L lv i) (hb : Below w.heap.size w w') : Ry w' b L lv i :=
  h.keep (fun g hg => hb.block g (Nat.lt_of_le_of_lt hg h.lt))
theorem Ry.turn {w W : World} {b : Nat} {L : List Lx.Tok} {lv : Value} {i i' : Nat} (h : Ry w b L lv i) (hW : W.heap[b]? = some (.cells (byC lv i') 88 (0, 0))) (hm : Mv w W b) (hi : i' ≤ L.length) : Ry W b L lv i' :=
  ⟨hW, h.tok.mv (fun g hg => hm.block g (Nat.lt_trans hg h.lt) (fun e => by injection e with e; omega)), hi, h.len⟩
theorem Ry.setI {w : World} {b : Nat} {L : List Lx.Tok} {lv : Value} {i : Nat} (h : Ry w b L lv i) {j : Nat} (hj : j ≤ L.length) : Ry (w.setCell ⟨b, 1, none⟩ (.int .i64 (j : Int))) b L lv j :=
  h.turn (by simp [World.setCell, Array.getElem?_modify, h.blk, byC]) (mv_set _ _ _ _) hj
theorem Ry.cells {w : World} {b : Nat} {L : List Lx.Tok} {lv : Value} {i : Nat} (h : Ry w b L lv i) :
    w.cell? ⟨b, 0, none⟩ = some lv ∧ w.cell? ⟨b, 1, none⟩ = some (.int .i64 (i : Int)) ∧ w.cell? ⟨b, 2, none⟩ = some (.int .i64 0) ∧ w.cell? ⟨b, 3, none⟩ = some (.int .i64 0) ∧ ∀ k, w.frozen? ⟨b, k, none⟩ = false := by
  have e := h.blk
  refine ⟨?_, ?_, ?_, ?_, fun k => ?_⟩ <;> simp [World.cell?, World.frozen?, e, byC]
theorem Ry.at {w : World} {b : Nat} {L : List Lx.Tok} {lv : Value} {i : Nat} (h : Ry w b L lv i) {t : Lx.Tok} (ht : L[i]? = some t) : ∃ g c, lv = .slice (some ⟨g, 0, none⟩) L.length c ∧ L.length ≤ c ∧ c ≤ maxLen ∧ g < b ∧
    w.cell? ⟨g, i * 3, none⟩ = some (.int .i64 t.kind) ∧ w.cell? ⟨g, i * 3 + 1, none⟩ = some (.string (str t.text)) ∧ w.cell? ⟨g, i * 3 + 2, none⟩ = some (.int .i64 (t.at_ : Int)) := by
  obtain ⟨A, c, rfl, h1, h2, hA⟩ := h.tok
  obtain ⟨g, rfl, hg, e0, e1, e2⟩ := hA i t ht
  exact ⟨g, c, rfl, h1, h2, hg, e0, e1, e2⟩
theorem P.refl {w : World} {b : Nat} {L : List Lx.Tok} {lv : Value} {i : Nat} (h : Ry w b L lv i) : P w w b L lv i := ⟨h, Mv.refl _ _⟩
theorem P.trans {w w1 w2 : World} {b : Nat} {L : List Lx.Tok} {lv : Value} {i j : Nat} (h : P w w1 b L lv i) (k : P w1 w2 b L lv j) : P w w2 b L lv j := ⟨k.rd, h.mv.trans k.mv⟩
theorem P.below {w w1 w2 : World} {b : Nat} {L : List Lx.Tok} {lv : Value} {i : Nat} (h : P w w1 b L lv i) (hb : Below w1.heap.size w1 w2) : P w w2 b L lv i := ⟨h.rd.below hb, h.mv.trans (Mv.of hb)⟩
theorem P.of {w w2 : World} {b : Nat} {L : List Lx.Tok} {lv : Value} {i : Nat} (h : Ry w b L lv i) (hb : Below w.heap.size w w2) : P w w2 b L lv i := ⟨h.below hb, Mv.of hb⟩
theorem P.stay {w w' : World} {b : Nat} {L : List Lx.Tok} {lv : Value} {i j : Nat} (h : Ry w b L lv i) (k : P w w' b L lv j) : Stay (fun t => t = 88) w w' :=
  Stay.grown k.mv (fun B hB => by injection hB with hB; subst hB; exact ⟨_, _, _, h.blk, rfl⟩)
theorem P.blk {w w' : World} {b : Nat} {L : List Lx.Tok} {lv : Value} {i : Nat} (k : P w w' b L lv i) {B : Nat} {o : Obj} (h : w.heap[B]? = some o) (hne : B ≠ b) : w'.heap[B]? = some o :=
  (k.mv.block B (blk_lt h) (fun e => hne (by injection e))).trans h
theorem P.local {w wr : World} {b B k : Nat} {L : List Lx.Tok} {lv : Value} {i : Nat} (h : P w wr b L lv i) (hB : w.heap.size ≤ B) (hlt : b < w.heap.size) (v : Value) : P w (wr.setCell ⟨B, k, none⟩ v) b L lv i := by
  have ho : ∀ g, g < w.heap.size → (wr.setCell ⟨B, k, none⟩ v).heap[g]? = wr.heap[g]? := fun g hg => Below.heap_setCell _ _ _ _ (by simp; omega)
  exact ⟨h.rd.keep (fun g hg => ho g (by omega)), ⟨h.mv.os, h.mv.tape, h.mv.output, by simpa [World.setCell] using h.mv.size, fun i hi hne => (ho i hi).trans (h.mv.block i hi hne)⟩⟩
theorem pt_of {w : World} {v : Value} {x : List Nd} (h : NdW w v x) : PtW w (v, ⟨x, 0, 0⟩) := by
  obtain ⟨B, h⟩ := h; exact PtW.own (p := ⟨x, 0, 0⟩) h
theorem ok_ok {b : Nat} {L : List Lx.Tok} {lv : Value} {i : Nat} {w : World} (h : Ry w b L lv i) : Calls Tryz.prog 41 #[.pointer (some ⟨b, 0, none⟩)] w (fun e w' => e = .returned (.bool true) ∧ w' = w) := by
  obtain ⟨-, -, c2, -, -⟩ := h.cells
  have hlt := h.lt
  clear h
  go_enter Tryz.func41, Tryz.ntmps41
  go_wp2
  go_ret
  exact ⟨rfl, rfl⟩
theorem ok_quiet {b : Nat} {L : List Lx.Tok} {lv : Value} {i : Nat} {w : World} (h : Ry w b L lv i) : ∀ n, Calls Tryz.prog 41 #[.pointer (some ⟨b, 0, none⟩)] (w.drewN n) (fun e w' => e = .returned (.bool true) ∧ w' = w.drewN n) := fun n =>
  ok_ok (h.keep (w' := w.drewN n) (fun _ _ => rfl))
set_option maxHeartbeats 1600000 in
theorem is_ok {b : Nat} {L : List Lx.Tok} {lv : Value} {i : Nat} {s : Bytes} {S : ByteArray} {B : Bool} {w : World} (hS : S = str s) (hB : isAt L i s = B) (hr : Ry w b L lv i) :
    Calls Tryz.prog 35 #[.pointer (some ⟨b, 0, none⟩), .string S] w (fun e w' => e = .returned (.bool B) ∧ P w w' b L lv i) := by
  subst hS hB
  obtain ⟨c0, c1, -, -, -⟩ := hr.cells
  have hlt := hr.lt
  have hbn : b ≠ w.heap.size := by omega
  obtain ⟨A, cc, rfl, h1, h2, hA⟩ := hr.tok
  have HA := Lib.hid hA
  have HOK := Lib.hid (ok_quiet hr)
  have HRY := Lib.hid hr
  have hile := hr.ile
  have hlen := hr.len
  unfold maxLen at h2
  clear hA hr
  by_cases hl : i < L.length
  · obtain ⟨t, ht⟩ : ∃ t, L[i]? = some t := ⟨_, List.getElem?_eq_getElem hl⟩
    obtain ⟨g, rfl, hg, e0, e1, e2⟩ := HA.out _ t ht
    have hgn : g ≠ w.heap.size := by omega
    have d1 : decide ((L.length : Int) ≤ (i : Int)) = false := decide_eq_false (by omega)
    have d1' : decide (L.length ≤ i) = false := decide_eq_false (by omega)
    have HT : Hid (isAt L i s = ((t.kind == 4 || t.kind == 3) && t.text == s)) := Lib.hid (by unfold isAt; rw [ht])
    rw [HT.out]
    clear ht
    obtain ⟨K, T, Pa⟩ := t
    simp only at e0 e1 e2 ⊢
    have hts : ((str T).toList == (str s).toList) = (T == s) := by rw [Tr.str_toList, Tr.str_toList]
    clear HT
    rcases Bool.eq_false_or_eq_true (K == 4) with h4 | h4
    all_goals rcases Bool.eq_false_or_eq_true (K == 3) with h3 | h3
    all_goals rcases Bool.eq_false_or_eq_true (T == s) with h5 | h5
    all_goals
      rw [h4, h3, h5]
      rw [h5] at hts
      go_enter Tryz.func35, Tryz.ntmps35
      go_wp2
      go_quiet ((go_at_call 41; exact Calls.quiet_of_same (HOK.out _)))
      go_wp2
      obtain ⟨w0, hw0⟩ : ∃ w0, w.drewN nq = w0 := ⟨_, rfl⟩
      have c00 : w0.cell? ⟨b, 0, none⟩ = some (.slice (some ⟨g, 0, none⟩) L.length cc) := hw0 ▸ c0
      have c01 : w0.cell? ⟨b, 1, none⟩ = some (.int .i64 (i : Int)) := hw0 ▸ c1
      have e00 : w0.cell? ⟨g, i * 3, none⟩ = some (.int .i64 K) := hw0 ▸ e0
      have e01 : w0.cell? ⟨g, i * 3 + 1, none⟩ = some (.string (str T)) := hw0 ▸ e1
      have e02 : w0.cell? ⟨g, i * 3 + 2, none⟩ = some (.int .i64 (Pa : Int)) := hw0 ▸ e2
      have hz0 : w.heap.size = w0.heap.size := hw0 ▸ rfl
      have hlt0 : b < w0.heap.size := by omega
      have hg0 : g < w0.heap.size := by omega
      have hbn0 : b ≠ w0.heap.size := by omega
      have hgn0 : g ≠ w0.heap.size := by omega
      have HB0 : Hid (Below w.heap.size w w0) := Lib.hid (hw0 ▸ Tr.below_drewN (Below.refl _ _) nq)
      rw [hw0]
      clear hw0 c0 c1 e0 e1 e2 hlt hg hbn hgn
      go_region
      go_wp2
      go_ret
      exact ⟨rfl, P.of HRY.out ((HB0.out.alloc HB0.out.size _).drew)⟩
  · have d1 : decide ((L.length : Int) ≤ (i : Int)) = true := decide_eq_true (by omega)
    have d1' : decide (L.length ≤ i) = true := decide_eq_true (by omega)
    have HT : Hid (isAt L i s = false) := Lib.hid (by unfold isAt; rw [List.getElem?_eq_none (by omega)])
    rw [HT.out]
    clear HT
    go_enter Tryz.func35, Tryz.ntmps35
    go_wp2
    go_quiet ((go_at_call 41; exact Calls.quiet_of_same (HOK.out _)))
    go_wp2
    go_ret
    exact ⟨rfl, P.of HRY.out (Tr.below_drewN (Below.refl _ _) _)⟩
set_option maxRecDepth 100000 in
set_option maxHeartbeats 1600000 in
theorem take_ok {b : Nat} {L : List Lx.Tok} {lv : Value} {i : Nat} {s : Bytes} {S : ByteArray} {B : Bool} {w : World} (hS : S = str s) (hB : isAt L i s = B) (hr : Ry w b L lv i) :
    Calls Tryz.prog 40 #[.pointer (some ⟨b, 0, none⟩), .string S] w (fun e w' => e = .returned (.bool B) ∧ P w w' b L lv (if B then i + 1 else i)) := by
  have HC := Lib.hid (is_ok hS hB hr)
  cases B with
  | false =>
    clear hr hB hS
    go_enter Tryz.func40, Tryz.ntmps40
    go_wp2_with fail
    refine HC.out.mono ?_
    rintro e w1 ⟨rfl, hb⟩
    have HBL := Lib.hid hb
    clear hb
    go_wp2
    go_ret
    exact ⟨rfl, HBL.out⟩
  | true =>
    have hil := isAt_lt hB
    clear hr hB hS
    go_enter Tryz.func40, Tryz.ntmps40
    go_wp2_with fail
    refine HC.out.mono ?_
    rintro e w1 ⟨rfl, hb⟩
    have HBL := Lib.hid hb
    obtain ⟨-, c1, -, -, f⟩ := hb.rd.cells
    have hlen := hb.rd.len
    have f1 := f 1
    clear hb f
    go_wp2
    go_ret
    exact ⟨rfl, HBL.out.rd.setI (j := i + 1) (by omega), HBL.out.mv.trans (mv_set _ _ _ _)⟩
set_option maxRecDepth 100000 in
set_option maxHeartbeats 800000 in
theorem need_ok {b : Nat} {L : List Lx.Tok} {lv : Value} {i : Nat} {s : Bytes} {S : ByteArray} {w : World} (hS : S = str s) (hB : isAt L i s = true) (hr : Ry w b L lv i) :
    Calls Tryz.prog 38 #[.pointer (some ⟨b, 0, none⟩), .string S] w (fun e w' => e = .returned (.tuple #[]) ∧ P w w' b L lv (i + 1)) := by
  have HC := Lib.hid (take_ok hS hB hr)
  clear hB hr hS
  go_enter Tryz.func38, Tryz.ntmps38
  go_wp2_with fail
  refine HC.out.mono ?_
  rintro e w1 ⟨rfl, h1⟩
  have H1 := Lib.hid h1
  clear h1
  go_wp2
  go_end0
  exact ⟨rfl, H1.out⟩
end Go.Proofs.YtobkcdkffcenbaaGreatDoor.Lp

/- A lean reader of programs: a name, room, an expression, a stream. Conditions: as each says. -/
namespace Go.Proofs.YtobkcdkffcenbaaGreatDoor.Lp
open Go.ChangeShapes Go.WideShapes Go.ChangeAt Go.RowKit
open Go.Proofs.YtobkcdkffcenbaaGreatDoor.Tr (str ret_bool ret_int Bytes Nd Nodes)
open Go.Proofs.YtobkcdkffcenbaaGreatDoor.Lr (isAt run TkAt Mv NdW blk_lt isAt_lt mv_set)
open Go.Proofs.YtobkcdkffcenbaaGreatDoor.Pg (Prm Eqn Itm Unt Stay)
open Go.Proofs.YtobkcdkffcenbaaGreatDoor.Ex (PtW)
set_option maxHeartbeats 1600000 in
theorem named_ok {b : Nat} {L : List Lx.Tok} {lv : Value} {i : Nat} {B : Bool} {w : World} (hr : Ry w b L lv i) (hB : isNm L i = B) : Calls Tryz.prog 59 #[.pointer (some ⟨b, 0, none⟩)] w (fun e w' => e = .returned (.bool B) ∧ P w w' b L lv i) := by
  subst hB
  obtain ⟨c0, c1, -, -, -⟩ := hr.cells
  have hlt := hr.lt
  obtain ⟨A, cc, rfl, h1, h2, hA⟩ := hr.tok
  have HA := Lib.hid hA
  have HOK := Lib.hid (ok_quiet hr)
  have HRY := Lib.hid hr
  have hlen := hr.len
  unfold maxLen at h2
  clear hA hr
  by_cases hl : i < L.length
  · obtain ⟨t, ht⟩ : ∃ t, L[i]? = some t := ⟨_, List.getElem?_eq_getElem hl⟩
    obtain ⟨g, rfl, hg, e0, e1, e2⟩ := HA.out _ t ht
    have d1 : decide ((i : Int) < (L.length : Int)) = true := decide_eq_true (by omega)
    have d1' : decide (i < L.length) = true := decide_eq_true (by omega)
    have HT : Hid (isNm L i = (t.kind == 1)) := Lib.hid (by unfold isNm; rw [ht])
    rw [HT.out]
    clear ht HT
    obtain ⟨K, T, Pa⟩ := t
    simp only at e0 e1 e2 ⊢
    rcases Bool.eq_false_or_eq_true (K == 1) with h4 | h4
    all_goals
      rw [h4]
      go_enter Tryz.func59, Tryz.ntmps59
      go_wp2
      go_quiet ((go_at_call 41; exact Calls.quiet_of_same (HOK.out _)))
      go_wp2
      go_ret
      exact ⟨rfl, P.of HRY.out (by repeat (first | exact Below.refl _ _ | refine Tr.below_drewN ?_ _))⟩
  · have d1 : decide ((i : Int) < (L.length : Int)) = false := decide_eq_false (by omega)
    have d1' : decide (i < L.length) = false := decide_eq_false (by omega)
    have HT : Hid (isNm L i = false) := Lib.hid (by unfold isNm; rw [List.getElem?_eq_none (by omega)])
    rw [HT.out]
    clear HT
    go_enter Tryz.func59, Tryz.ntmps59
    go_wp2
    go_quiet ((go_at_call 41; exact Calls.quiet_of_same (HOK.out _)))
    go_wp2
    go_ret
    exact ⟨rfl, P.of HRY.out (by repeat (first | exact Below.refl _ _ | refine Tr.below_drewN ?_ _))⟩
set_option maxRecDepth 100000 in
set_option maxHeartbeats 1600000 in
theorem name_ok {b : Nat} {L : List Lx.Tok} {lv : Value} {i j : Nat} {n : Bytes} {w : World} (hr : Ry w b L lv i) (h : nameL L i = some (n, j)) : Calls Tryz.prog 39 #[.pointer (some ⟨b, 0, none⟩)] w (fun e w' => e = .returned (.string (str n)) ∧ P w w' b L lv j) := by
  obtain ⟨hB, rfl, t, ht, hk, rfl⟩ := name_is h
  have HC := Lib.hid (named_ok hr hB)
  have HT := Lib.hid ht
  have hil := (List.getElem?_eq_some_iff.1 ht).1
  have hlen := hr.len
  clear h hB hk ht hr
  go_enter Tryz.func39, Tryz.ntmps39
  go_wp2_with fail
  refine HC.out.mono ?_
  rintro e w1 ⟨rfl, hp⟩
  obtain ⟨c0, c1, -, -, fz⟩ := hp.rd.cells
  obtain ⟨g, cc, hlv, h1, h2, hg, e0, e1, e2⟩ := hp.rd.at HT.out
  have HP := Lib.hid hp
  subst hlv
  unfold maxLen at h2
  have f1 := fz 1
  have hlt1 := hp.rd.lt
  have hgn : g ≠ b := by omega
  have HE := Lib.hid (P.trans HP.out ⟨HP.out.rd.setI (j := i + 1) (by omega), mv_set _ _ _ _⟩)
  clear hp fz
  go_wp2
  repeat (first | (go_quiet (fail); go_wp2) | (go_region; go_wp2))
  all_goals go_ret
  all_goals exact ⟨rfl, HE.out.below (by repeat (first | exact Below.refl _ _ | refine Tr.below_drewN ?_ _))⟩
theorem room_ok {b : Nat} {n : Nat} {w : World} (hn : n < 200) : Calls Tryz.prog 36 #[.pointer (some ⟨b, 0, none⟩), .int .i64 (n : Int)] w (fun e w' => e = .returned (.tuple #[]) ∧ w' = w) := by
  have d1 : decide ((200 : Int) ≤ (n : Int)) = false := decide_eq_false (by omega)
  have d2 : decide (200 ≤ n) = false := decide_eq_false (by omega)
  go_enter Tryz.func36, Tryz.ntmps36
  go_wp2
  go_end0
  exact ⟨rfl, rfl⟩
theorem cell_at {w : World} {B : Nat} {cs : Array Value} {T : TypeId} {f : Nat × Nat} (h : w.heap[B]? = some (.cells cs T f)) (k : Nat) : w.cell? ⟨B, k, none⟩ = cs[k]? := by simp [World.cell?, h]
theorem free_at {w : World} {B : Nat} {cs : Array Value} {T : TypeId} (h : w.heap[B]? = some (.cells cs T (0, 0))) (k : Nat) : w.frozen? ⟨B, k, none⟩ = false := by simp [World.frozen?, h]
theorem set_oth {W : World} {B k : Nat} {v : Value} {B' : Nat} {o : Obj} (h : W.heap[B']? = some o) (hne : B' ≠ B) : (W.setCell ⟨B, k, none⟩ v).heap[B']? = some o := (Below.heap_setCell W ⟨B, k, none⟩ v B' hne).trans h
theorem below_al (w : World) (o : Obj) : Below w.heap.size w (w.alloc o) := (Below.refl _ _).alloc (Nat.le_refl _) _
theorem set2 {W : World} {B : Nat} {T : TypeId} {u0 u1 : Value} (h : W.heap[B]? = some (.cells #[u0, u1] T (0, 0))) (v0 v1 : Value) : ((W.setCell ⟨B, 0, none⟩ v0).setCell ⟨B, 1, none⟩ v1).heap[B]? = some (.cells #[v0, v1] T (0, 0)) := by simp [World.setCell, Array.getElem?_modify, h]
set_option maxRecDepth 100000 in
set_option maxHeartbeats 1600000 in
theorem param_ok {b : Nat} {L : List Lx.Tok} {lv : Value} {i j : Nat} {p : Prm} {w : World} (hr : Ry w b L lv i) (h : paramL L i = some (p, j)) : Calls Tryz.prog 56 #[.pointer (some ⟨b, 0, none⟩)] w (fun e w' => e = .returned (.agg #[.string (str p.name), .int .i64 p.ty]) ∧ P w w' b L lv j) := by
  obtain ⟨n, k, h1, h2⟩ := bd_some h
  obtain ⟨h3, h4⟩ := nd_some h2
  have hlt := hr.lt
  obtain ⟨w0, hw0⟩ : ∃ W, w.alloc (.cells #[.string ⟨#[]⟩, .int .i64 0] 45) = W := ⟨_, rfl⟩
  have hx0 : w0.heap[w.heap.size]? = some (.cells #[.string ⟨#[]⟩, .int .i64 0] 45 (0, 0)) := hw0 ▸ heap_alloc_new _ _
  have HG0 := Lib.hid (show P w w0 b L lv i from P.of hr (hw0 ▸ below_al _ _))
  have HN := Lib.hid (name_ok HG0.out.rd h1)
  have HX0 := Lib.hid hx0
  have H3 := Lib.hid h3
  have HW0 := Lib.hid hw0
  have hs0 : w0.heap.size = w.heap.size + 1 := by rw [← hw0]; simp
  clear h h1 h2 h3 hr hw0 hx0
  go_enter Tryz.func56, Tryz.ntmps56
  go_wp2_with fail
  rw [HW0.out]
  refine HN.out.mono ?_
  rintro e w1 ⟨rfl, g1⟩
  have HG1 := Lib.hid (HG0.out.trans g1)
  have HX1 := Lib.hid (g1.blk HX0.out (by omega))
  have hs1 := g1.mv.size
  obtain ⟨w2, hw2⟩ : ∃ W, w1.alloc (.cells #[.string (str n), .int .i64 0] 45) = W := ⟨_, rfl⟩
  have HG2 := Lib.hid (HG1.out.below (hw2 ▸ below_al w1 _))
  have HX2 : Hid (w2.heap[w.heap.size]? = some (.cells #[.string ⟨#[]⟩, .int .i64 0] 45 (0, 0))) := Lib.hid (hw2 ▸ (Below.heap_alloc _ _ _ (by omega)).trans HX1.out)
  have HY2 : Hid (w2.heap[w1.heap.size]? = some (.cells #[.string (str n), .int .i64 0] 45 (0, 0))) := Lib.hid (hw2 ▸ heap_alloc_new _ _)
  have HW2 := Lib.hid hw2
  have HNE := Lib.hid (need_ok (s := [58]) rfl H3.out HG2.out.rd)
  have hs2 : w2.heap.size = w1.heap.size + 1 := by rw [← hw2]; simp
  clear g1 hw2
  go_wp2_with fail
  rw [HW2.out]
  refine HNE.out.mono ?_
  rintro e w3 ⟨rfl, g3⟩
  have HG3 := Lib.hid (HG2.out.trans g3)
  have HX3 := Lib.hid (g3.blk HX2.out (by omega))
  have HY3 := Lib.hid (g3.blk HY2.out (by omega))
  clear g3
  have fin : ∀ (W : World) (ty : Int) (m : Nat), P w W b L lv m → W.heap[w.heap.size]? = some (.cells #[.string ⟨#[]⟩, .int .i64 0] 45 (0, 0)) → P w (((W.setCell ⟨w1.heap.size, 1, none⟩ (.int .i64 ty)).setCell ⟨w.heap.size, 0, none⟩ (.string (str n))).setCell ⟨w.heap.size, 1, none⟩ (.int .i64 ty)) b L lv m ∧
      (((W.setCell ⟨w1.heap.size, 1, none⟩ (.int .i64 ty)).setCell ⟨w.heap.size, 0, none⟩ (.string (str n))).setCell ⟨w.heap.size, 1, none⟩ (.int .i64 ty)).heap[w.heap.size]? = some (.cells #[.string (str n), .int .i64 ty] 45 (0, 0)) := fun W ty m hp hx =>
    ⟨((hp.local (by omega) hlt _).local (by omega) hlt _).local (by omega) hlt _, set2 (set_oth hx (by omega)) _ _⟩
  have HFIN := Lib.hid fin
  have hnx : w.heap.size ≠ w1.heap.size := by omega
  clear fin
  cases hB : isAt L (k + 1) [98, 111, 111, 108] with
  | true =>
    rw [hB, if_pos rfl] at h4
    injection h4 with h4
    simp only [Prod.mk.injEq] at h4
    obtain ⟨rfl, rfl⟩ := h4
    have HT := Lib.hid (take_ok (s := [98, 111, 111, 108]) rfl hB HG3.out.rd)
    clear hB
    go_wp2_with fail
    refine HT.out.mono ?_
    rintro e w4 ⟨rfl, g4⟩
    have HG4 := Lib.hid (HG3.out.trans g4)
    have x4 := g4.blk HX3.out (by omega)
    have y4 := g4.blk HY3.out (by omega)
    have HE := Lib.hid (HFIN.out w4 1 _ HG4.out x4)
    have a0 := cell_at x4 0
    have a1 := cell_at x4 1
    have a2 := free_at x4 0
    have a3 := free_at x4 1
    have b0 := cell_at y4 0
    have b1 := cell_at y4 1
    have b2 := free_at y4 1
    simp at a0 a1 b0 b1
    clear g4 x4 y4
    go_wp2
    have z0 := cell_at HE.out.2 0
    have z1 := cell_at HE.out.2 1
    simp at z0 z1
    exact bodyPost_ret (v := .agg #[.string (str n), .int .i64 1]) (by simp [results, Tryz.results56, go_sem, z0, z1]) rfl ⟨rfl, HE.out.1⟩
  | false =>
    rw [hB, if_neg (by simp)] at h4
    split at h4
    · rename_i hC
      injection h4 with h4
      simp only [Prod.mk.injEq] at h4
      obtain ⟨rfl, rfl⟩ := h4
      have HT := Lib.hid (take_ok (s := [98, 111, 111, 108]) rfl hB HG3.out.rd)
      have HC := Lib.hid hC
      clear hB hC
      go_wp2_with fail
      refine HT.out.mono ?_
      rintro e w3' ⟨rfl, g3⟩
      have HG3' := Lib.hid (HG3.out.trans g3)
      have HX3' := Lib.hid (g3.blk HX3.out (by omega))
      have HY3' := Lib.hid (g3.blk HY3.out (by omega))
      have HT2 := Lib.hid (take_ok (s := [105, 110, 116]) rfl HC.out g3.rd)
      clear g3
      go_wp2_with fail
      refine HT2.out.mono ?_
      rintro e w4 ⟨rfl, g4⟩
      have HG4 := Lib.hid (HG3'.out.trans g4)
      have x4 := g4.blk HX3'.out (by omega)
      have y4 := g4.blk HY3'.out (by omega)
      have HE := Lib.hid (HFIN.out w4 2 _ HG4.out x4)
      have a0 := cell_at x4 0
      have a1 := cell_at x4 1
      have a2 := free_at x4 0
      have a3 := free_at x4 1
      have b0 := cell_at y4 0
      have b1 := cell_at y4 1
      have b2 := free_at y4 1
      simp at a0 a1 b0 b1
      clear g4 x4 y4
      go_wp2
      have z0 := cell_at HE.out.2 0
      have z1 := cell_at HE.out.2 1
      simp at z0 z1
      exact bodyPost_ret (v := .agg #[.string (str n), .int .i64 2]) (by simp [results, Tryz.results56, go_sem, z0, z1]) rfl ⟨rfl, HE.out.1⟩
    · cases h4
end Go.Proofs.YtobkcdkffcenbaaGreatDoor.Lp


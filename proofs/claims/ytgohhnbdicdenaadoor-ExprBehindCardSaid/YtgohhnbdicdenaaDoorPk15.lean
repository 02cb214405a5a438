/- Contract of a reader's function takeSign. Conditions: a reader lies in memory. -/
import Derived.Test.YtgohhnbdicdenaaDoorPk14
import Derived.Maps.Keyed
import Derived.Shelf.Pu.ParseUintPublic10
import Derived.Test.YtgohhnbdicdenaaDoorProg
namespace Go.Proofs.YtgohhnbdicdenaaDoor.Ex
open Go.ChangeShapes Go.WideShapes Go.ChangeAt Go.RowKit
open Go.Proofs.YtgohhnbdicdenaaDoor.Tr (str ret_bool ret_int Bytes Nd)
set_option linter.unusedVariables false
set_option linter.unusedSimpArgs false

theorem check_key (em : Bool) (s : ByteArray) (W : World) : (Instr.checkKey em 10000 9 (.string s)).run Tryd.prog W = .ok () W := by
  have h : ∀ d, (Instr.checkKey em (d + 1) 9 (.string s)).run Tryd.prog W = .ok () W := fun d => by simp [Instr.checkKey, run_underlying Tryd.underlying9]
  exact h 9999
theorem find_key {s : ByteArray} {es : List MapEntry} {x : Option (Nat × Value)} (h : Instr.findNow .string (.string s) es 0 = some x) (W : World) : (Instr.findKey 9 (.string s) es).run Tryd.prog W = .ok x W := by
  simp [Instr.findKey, run_underlying Tryd.underlying9, h]
theorem look_sign {W : World} {m k n : Nat} {es : Array MapEntry} (hb : W.heap[m]? = some (.map es k)) (he : es.toList.map (fun e => (e.key, e.val)) = (signsM n).map (fun x => (.string (str x.1), .agg #[.int .i64 x.2.1, .bool x.2.2]))) (s : Bytes) :
    (Instr.lookup 58 (.map (some m)) (.string (str s)) true).run Tryd.prog W = .ok (.tuple #[.agg #[.int .i64 (((signsM n).lookup s).getD (0, false)).1, .bool (((signsM n).lookup s).getD (0, false)).2], .bool ((signsM n).lookup s).isSome]) W := by
  obtain ⟨h0, h1⟩ := findNow_map es.toList (signsM n) s 0 he
  have hz : (zeroValue 84).run Tryd.prog W = .ok (.agg #[.int .i64 0, .bool false]) W := by kernel_rfl
  cases hl : (signsM n).lookup s with
  | none =>
    have := find_key (h0 hl) W
    simp [Instr.lookup, run_underlying Tryd.underlying58, MapKept.run_getObj_map hb, check_key, this, hz, Result.andThen]
  | some v =>
    obtain ⟨i, hi⟩ := h1 v hl
    have := find_key hi W
    simp [Instr.lookup, run_underlying Tryd.underlying58, MapKept.run_getObj_map hb, check_key, this, Result.andThen]

theorem pair_cells {w1 : World} {B : Nat} {o : Obj} {u0 u1 : Value} (v0 v1 : Value) {T : TypeId} (hh : w1.heap[B]? = some (.cells #[u0, u1] T (0, 0))) :
    (((w1.setCell ⟨B, 0, none⟩ v0).setCell ⟨B, 1, none⟩ v1).alloc o).cell? ⟨B, 0, none⟩ = some v0 ∧ (((w1.setCell ⟨B, 0, none⟩ v0).setCell ⟨B, 1, none⟩ v1).alloc o).cell? ⟨B, 1, none⟩ = some v1 := by
  have hlt := lt_of_block hh
  have h2 := setObj_heap (v := v1) (setObj_heap (v := v0) hh (k := 0) (by simp)) (k := 1) (by simp)
  have h3 := (Below.heap_alloc ((w1.setCell ⟨B, 0, none⟩ v0).setCell ⟨B, 1, none⟩ v1) o B (by simp [World.setCell]; exact hlt)).trans h2
  constructor <;> simp [World.cell?, h3]
theorem RdAt.turn {w W : World} {b : Nat} {mv : Nat → Value} {r r' : Rd} (h : RdAt w b mv r) (hg : w.grownBy W (some b)) (hl : r'.l = r.l) (hc : ∀ lv, w.heap[b]? = some (.cells (rdCells lv mv r) 62 (0, 0)) → W.heap[b]? = some (.cells (rdCells lv mv r') 62 (0, 0))) : RdTo w W b mv r' := by
  obtain ⟨lv, h1, h2⟩ := h.blk
  have hk : ∀ g, g ≠ b → g < w.heap.size → W.heap[g]? = w.heap[g]? := fun g hne hlt => hg.block g hlt (fun e => hne (by injection e))
  have hk' : ∀ g, g < b → g < w.heap.size → W.heap[g]? = w.heap[g]? := fun g h3 h4 => hk g (Nat.ne_of_lt h3) h4
  exact ⟨⟨⟨lv, hc lv h1, by rw [hl]; exact h2.keep hg.size hk'⟩, fun n h3 h4 => (h.maps n h3 h4).keep hg.size hk', h.var.keep hg.size hk'⟩, hg⟩
theorem adv_mid {w w1 : World} {b : Nat} {mv : Nat → Value} {r : Rd} {O U : Value} {o : Obj} (h : RdAt w b mv r) (hb : Below w.heap.size w w1) :
    RdTo w ((((w1.setCell ⟨b, 1, none⟩ (.int .i64 ((r.next : Int) + 1))).setCell ⟨w.heap.size, 0, none⟩ O).setCell ⟨w.heap.size, 1, none⟩ U).alloc o) b mv r.adv := by
  have hlt := h.lt
  have hs := hb.size
  have T := RdTo.below hb hlt (h.below hb).advTo
  have hn : ∀ (W : World) (k : Nat) (v : Value) (g : Nat), g < w.heap.size → (W.setCell ⟨w.heap.size, k, none⟩ v).heap[g]? = W.heap[g]? := fun W k v g hg => Below.heap_setCell _ _ _ _ (by simp; omega)
  have hall : ∀ g, g < w.heap.size → ((((w1.setCell ⟨b, 1, none⟩ (.int .i64 ((r.next : Int) + 1))).setCell ⟨w.heap.size, 0, none⟩ O).setCell ⟨w.heap.size, 1, none⟩ U).alloc o).heap[g]? = (w1.setCell ⟨b, 1, none⟩ (.int .i64 ((r.next : Int) + 1))).heap[g]? := fun g hg => by
    rw [Below.heap_alloc _ _ _ (by simp [World.setCell]; omega), hn _ _ _ _ hg, hn _ _ _ _ hg]
  refine h.turn ⟨T.grown.os, T.grown.tape, T.grown.output, by simp [World.setCell]; omega, fun i hi hne => (hall i hi).trans (T.grown.block i hi hne)⟩ rfl (fun lv h1 => ?_)
  rw [hall b hlt, setObj_heap ((hb.block b hlt).trans h1) (by simp [rdCells])]
  simp [rdCells, Rd.adv]
/-- What takeSign tells. -/
def SignTo (w : World) (b : Nat) (mv : Nat → Value) (s : Option (Int × Bool)) (r : Rd) (e : Ending) (w' : World) : Prop :=
  e = .returned (.tuple #[.agg #[.int .i64 (s.getD (0, false)).1, .bool (s.getD (0, false)).2], .bool s.isSome]) ∧ RdTo w w' b mv (if s.isSome then r.adv else r)
theorem mv_cell {w : World} {b : Nat} {lv : Value} {mv : Nat → Value} {r : Rd} (h : w.heap[b]? = some (.cells (rdCells lv mv r) 62 (0, 0))) (n : Nat) (hn : n ≤ 9) : w.cell? ⟨b, 5 + n, none⟩ = some (mv n) := by
  rw [rd_cell h]
  match n, hn with
  | 0, _ => rfl
  | 1, _ => rfl
  | 2, _ => rfl
  | 3, _ => rfl
  | 4, _ => rfl
  | 5, _ => rfl
  | 6, _ => rfl
  | 7, _ => rfl
  | 8, _ => rfl
  | 9, _ => rfl
set_option maxHeartbeats 1600000 in
theorem takeSign_any (b : Nat) (mv : Nat → Value) (r : Rd) (n : Nat) (w : World) (hr : RdAt w b mv r) (hn : r.next ≤ 1000000) (h1 : 1 ≤ n) (h9 : n ≤ 9) :
    Calls Tryd.prog 84 #[.pointer (some ⟨b, 0, none⟩), .int .i64 (n : Int)] w (SignTo w b mv (r.sign n) r) := by
  have HR := Lib.hid hr
  have hlt := hr.lt
  have HC := Lib.hid (fun o => text_any b mv r (w.alloc o) (hr.below (below_new w o)) hn)
  clear hr
  obtain ⟨ok, hok⟩ : ∃ ok, r.ws = ok := ⟨_, rfl⟩
  obtain ⟨t, ht⟩ : ∃ t, r.cur.text = t := ⟨_, rfl⟩
  have HE : Hid (r.sign n = if ok then (signsM n).lookup t else none) := Lib.hid (by unfold Rd.sign; rw [hok, ht])
  rw [hok, ht] at HC
  clear hok ht
  obtain ⟨S, hS⟩ : ∃ S, (signsM n).lookup t = S := ⟨_, rfl⟩
  have HS := Lib.hid hS
  rw [hS] at HE
  clear hS
  obtain ⟨O, hO⟩ : ∃ O, (S.getD (0, false)).1 = O := ⟨_, rfl⟩
  obtain ⟨U, hU⟩ : ∃ U, (S.getD (0, false)).2 = U := ⟨_, rfl⟩
  obtain ⟨F, hF⟩ : ∃ F, S.isSome = F := ⟨_, rfl⟩
  have HO := Lib.hid hO
  have HU := Lib.hid hU
  have HF := Lib.hid hF
  clear hO hU hF
  obtain ⟨m, es, k, hm, hmb, hml, hmh, hme⟩ := HR.out.maps n h1 h9
  have HMV := Lib.hid hm
  have HML := Lib.hid hml
  have HL : Hid (∀ W : World, W.heap[m]? = some (.map es k) → (Instr.lookup 58 (.map (some m)) (.string (str t)) true).run Tryd.prog W = .ok (.tuple #[.agg #[.int .i64 O, .bool U], .bool F]) W) :=
    Lib.hid (fun W hW => by rw [← HO.out, ← HU.out, ← HF.out, ← HS.out]; exact look_sign hW hme t)
  have HX : Hid (∀ w1, Below w.heap.size w w1 → w1.cell? ⟨b, 1, none⟩ = some (.int .i64 (r.next : Int)) ∧ w1.frozen? ⟨b, 1, none⟩ = false ∧ w1.cell? ⟨b, 5 + n, none⟩ = some (.map (some m)) ∧ w1.heap[m]? = some (.map es k)) := Lib.hid (fun w1 hb => by
    obtain ⟨lv, k1, _⟩ := (HR.out.below hb).blk
    exact ⟨rd_cell k1 1, rd_free k1 1, by rw [mv_cell k1 n h9, HMV.out], (hb.block m HML.out).trans hmh⟩)
  clear hm hml hmh hme hmb
  have i0 : (0 : Int) ≤ (n : Int) := by omega
  have i9 : (n : Int) < 10 := by omega
  have HZ : Hid (∀ w1 (o : Obj), Below (w.alloc o).heap.size (w.alloc o) w1 → Below w.heap.size w w1 ∧ w.heap.size < w1.heap.size ∧ b < w1.heap.size ∧ w1.heap[w.heap.size]? = some o) := Lib.hid (fun w1 o hb => by
    have hs := hb.size
    simp at hs
    exact ⟨(below_new w o).trans (hb.mono (by simp)), by omega, by omega, (hb.block w.heap.size (by simp)).trans (heap_alloc_new w o)⟩)
  cases ok with
  | false =>
    have HE2 : Hid (r.sign n = none) := Lib.hid (by rw [HE.out]; rfl)
    rw [HE2.out]
    go_enter Tryd.func84, Tryd.ntmps84
    go_wp2_with fail
    refine (HC.out _).mono ?_
    rintro e w1 ⟨rfl, hb⟩
    obtain ⟨hbl, hz, hbz, hh⟩ := HZ.out w1 _ hb
    obtain ⟨c1, f1, cm, hm⟩ := HX.out w1 hbl
    have hlook := HL.out w1 hm
    have d0 : w1.cell? ⟨w.heap.size, 0, none⟩ = some (.int .i64 0) := by simp [World.cell?, hh]
    have d1 : w1.cell? ⟨w.heap.size, 1, none⟩ = some (.bool false) := by simp [World.cell?, hh]
    have e0 : w1.frozen? ⟨w.heap.size, 0, none⟩ = false := by simp [World.frozen?, hh]
    have e1 : w1.frozen? ⟨w.heap.size, 1, none⟩ = false := by simp [World.frozen?, hh]
    have HBL := Lib.hid hbl
    have HH := Lib.hid hh
    clear hb hbl hh
    go_wp2
    obtain ⟨g0, g1⟩ := pair_cells (o := .cells #[.int .i64 O, .bool U] 84) (.int .i64 0) (.bool false) HH.out
    exact bodyPost_ret (v := .tuple #[.agg #[.int .i64 0, .bool false], .bool false]) (by simp [results, Tryd.results84, go_sem, g0, g1]) rfl ⟨rfl, RdTo.of_below HR.out (((HBL.out.setCell (Nat.le_refl _) _).setCell (Nat.le_refl _) _).alloc (by simp; omega) _)⟩
  | true =>
    cases F with
    | false =>
      have HE2 : Hid (r.sign n = none) := Lib.hid (by
        rw [HE.out, if_pos rfl]
        cases S with
        | none => rfl
        | some x => simp at HF; exact absurd HF.out (by simp))
      rw [HE2.out]
      go_enter Tryd.func84, Tryd.ntmps84
      go_wp2_with fail
      refine (HC.out _).mono ?_
      rintro e w1 ⟨rfl, hb⟩
      obtain ⟨hbl, hz, hbz, hh⟩ := HZ.out w1 _ hb
      obtain ⟨c1, f1, cm, hm⟩ := HX.out w1 hbl
      have hlook := HL.out w1 hm
      have d0 : w1.cell? ⟨w.heap.size, 0, none⟩ = some (.int .i64 0) := by simp [World.cell?, hh]
      have d1 : w1.cell? ⟨w.heap.size, 1, none⟩ = some (.bool false) := by simp [World.cell?, hh]
      have e0 : w1.frozen? ⟨w.heap.size, 0, none⟩ = false := by simp [World.frozen?, hh]
      have e1 : w1.frozen? ⟨w.heap.size, 1, none⟩ = false := by simp [World.frozen?, hh]
      have HBL := Lib.hid hbl
      have HH := Lib.hid hh
      clear hb hbl hh
      go_wp2
      obtain ⟨g0, g1⟩ := pair_cells (o := .cells #[.int .i64 O, .bool U] 84) (.int .i64 0) (.bool false) HH.out
      exact bodyPost_ret (v := .tuple #[.agg #[.int .i64 0, .bool false], .bool false]) (by simp [results, Tryd.results84, go_sem, g0, g1]) rfl ⟨rfl, RdTo.of_below HR.out (((HBL.out.setCell (Nat.le_refl _) _).setCell (Nat.le_refl _) _).alloc (by simp; omega) _)⟩
    | true =>
      have HE2 : Hid (r.sign n = some (O, U)) := Lib.hid (by
        rw [HE.out, if_pos rfl]
        cases S with
        | none => exact absurd HF.out (by simp)
        | some x => rw [← HO.out, ← HU.out]; rfl)
      rw [HE2.out]
      go_enter Tryd.func84, Tryd.ntmps84
      go_wp2_with fail
      refine (HC.out _).mono ?_
      rintro e w1 ⟨rfl, hb⟩
      obtain ⟨hbl, hz, hbz, hh⟩ := HZ.out w1 _ hb
      obtain ⟨c1, f1, cm, hm⟩ := HX.out w1 hbl
      have hlook := HL.out w1 hm
      have d0 : w1.cell? ⟨w.heap.size, 0, none⟩ = some (.int .i64 0) := by simp [World.cell?, hh]
      have d1 : w1.cell? ⟨w.heap.size, 1, none⟩ = some (.bool false) := by simp [World.cell?, hh]
      have e0 : w1.frozen? ⟨w.heap.size, 0, none⟩ = false := by simp [World.frozen?, hh]
      have e1 : w1.frozen? ⟨w.heap.size, 1, none⟩ = false := by simp [World.frozen?, hh]
      have HBL := Lib.hid hbl
      have HH := Lib.hid hh
      clear hb hbl hh
      go_wp2
      have HH2 : Hid ((w1.setCell ⟨b, 1, none⟩ (.int .i64 ((r.next : Int) + 1))).heap[w.heap.size]? = some (.cells #[.int .i64 0, .bool false] 84 (0, 0))) := Lib.hid (by rw [Below.heap_setCell _ _ _ _ (by simp; omega)]; exact HH.out)
      obtain ⟨g0, g1⟩ := pair_cells (o := .cells #[.int .i64 O, .bool U] 84) (.int .i64 O) (.bool U) HH2.out
      refine bodyPost_ret (v := .tuple #[.agg #[.int .i64 O, .bool U], .bool true]) ?_ rfl ⟨rfl, adv_mid HR.out HBL.out⟩
      clear hlook c1 f1 cm hm d0 d1 e0 e1
      simp [results, Tryd.results84, go_sem, g0, g1]
end Go.Proofs.YtgohhnbdicdenaaDoor.Ex

/- The contract of strconv.ParseUint at base 10 and 64 bits, at this program, by application of the compiled library. Conditions: as each says. -/
namespace Go.Proofs
open Go.Shelf
def Tryd.laysPu14_ren : Go.Shelf.Ren := ⟨fun | 14 => 108 | 16 => 117 | 17 => 118 | 19 => 126 | 20 => 127 | 21 => 128 | 22 => 129 | 23 => 130 | 24 => 131 | 25 => 139 | 27 => 89 | 26 => 140 | 28 => 110 | 29 => 122 | 30 => 134 | 31 => 135 | 32 => 136 | 33 => 137 | 35 => 142 | 34 => 141 | 36 => 143 | 37 => 144 | 38 => 145 | 39 => 147 | 40 => 148 | n => n, fun | 9 => 9 | 3 => 3 | 22 => 130 | 24 => 117 | 25 => 131 | 4 => 4 | 34 => 145 | 5 => 5 | 36 => 147 | 37 => 113 | 0 => 0 | 39 => 148 | 21 => 21 | 44 => 159 | 47 => 136 | 50 => 169 | 48 => 167 | 2 => 2 | 52 => 153 | 55 => 156 | 59 => 162 | 60 => 163 | 20 => 20 | 61 => 164 | 65 => 171 | 66 => 172 | 67 => 120 | n => n, fun | 0 => 2 | 1 => 3 | 2 => 4 | 3 => 5 | 4 => 6 | n => n⟩
theorem Tryd.laysPu14 : Go.Proofs.LaysPu.n14 Tryd.prog Tryd.laysPu14_ren := {
  mixed := by kernel_rfl
  f14 := Tryd.func108.trans (congrArg some (by kernel_rfl))
  f16 := Tryd.func117.trans (congrArg some (by kernel_rfl))
  f17 := Tryd.func118.trans (congrArg some (by kernel_rfl))
  f19 := Tryd.func126.trans (congrArg some (by kernel_rfl))
  f20 := Tryd.func127.trans (congrArg some (by kernel_rfl))
  f21 := Tryd.func128.trans (congrArg some (by kernel_rfl))
  f22 := Tryd.func129.trans (congrArg some (by kernel_rfl))
  f23 := Tryd.func130.trans (congrArg some (by kernel_rfl))
  f24 := Tryd.func131.trans (congrArg some (by kernel_rfl))
  f25 := Tryd.func139.trans (congrArg some (by kernel_rfl))
  f26 := Tryd.func140.trans (congrArg some (by kernel_rfl))
  f27 := Tryd.func89.trans (congrArg some (by kernel_rfl))
  f28 := Tryd.func110.trans (congrArg some (by kernel_rfl))
  f29 := Tryd.func122.trans (congrArg some (by kernel_rfl))
  f30 := Tryd.func134.trans (congrArg some (by kernel_rfl))
  f31 := Tryd.func135.trans (congrArg some (by kernel_rfl))
  f32 := Tryd.func136.trans (congrArg some (by kernel_rfl))
  f33 := Tryd.func137.trans (congrArg some (by kernel_rfl))
  f34 := Tryd.func141.trans (congrArg some (by kernel_rfl))
  f35 := Tryd.func142.trans (congrArg some (by kernel_rfl))
  f36 := Tryd.func143.trans (congrArg some (by kernel_rfl))
  f37 := Tryd.func144.trans (congrArg some (by kernel_rfl))
  f38 := Tryd.func145.trans (congrArg some (by kernel_rfl))
  f39 := Tryd.func147.trans (congrArg some (by kernel_rfl))
  f40 := Tryd.func148.trans (congrArg some (by kernel_rfl))
  t0 := Tryd.underlying0
  a0 := Tryd.isAgg0
  z0 := Tryd.sizeOf0
  v0 := Tryd.zeroValue0
  i0 := by kernel_rfl
  t2 := Tryd.underlying2
  a2 := Tryd.isAgg2
  z2 := Tryd.sizeOf2
  v2 := Tryd.zeroValue2
  i2 := by kernel_rfl
  t3 := Tryd.underlying3
  a3 := Tryd.isAgg3
  z3 := Tryd.sizeOf3
  v3 := Tryd.zeroValue3
  i3 := by kernel_rfl
  t4 := Tryd.underlying4
  a4 := Tryd.isAgg4
  z4 := Tryd.sizeOf4
  v4 := Tryd.zeroValue4
  i4 := by kernel_rfl
  t5 := Tryd.underlying5
  a5 := Tryd.isAgg5
  z5 := Tryd.sizeOf5
  v5 := Tryd.zeroValue5
  i5 := by kernel_rfl
  t9 := Tryd.underlying9
  a9 := Tryd.isAgg9
  z9 := Tryd.sizeOf9
  v9 := Tryd.zeroValue9
  i9 := by kernel_rfl
  t20 := Tryd.underlying20
  a20 := Tryd.isAgg20
  z20 := Tryd.sizeOf20
  v20 := Tryd.zeroValue20
  i20 := by kernel_rfl
  t21 := Tryd.underlying21
  a21 := Tryd.isAgg21
  z21 := Tryd.sizeOf21
  v21 := Tryd.zeroValue21
  i21 := by kernel_rfl
  t22 := Tryd.underlying130
  a22 := Tryd.isAgg130
  z22 := Tryd.sizeOf130
  v22 := Tryd.zeroValue130
  i22 := by kernel_rfl
  t24 := Tryd.underlying117
  a24 := Tryd.isAgg117
  z24 := Tryd.sizeOf117
  v24 := Tryd.zeroValue117
  i24 := by kernel_rfl
  t25 := Tryd.underlying131
  a25 := Tryd.isAgg131
  z25 := Tryd.sizeOf131
  v25 := Tryd.zeroValue131
  i25 := by kernel_rfl
  t34 := Tryd.underlying145
  a34 := Tryd.isAgg145
  z34 := Tryd.sizeOf145
  v34 := Tryd.zeroValue145
  i34 := by kernel_rfl
  c34 := by kernel_rfl
  t36 := Tryd.underlying147
  a36 := Tryd.isAgg147
  z36 := Tryd.sizeOf147
  v36 := Tryd.zeroValue147
  i36 := by kernel_rfl
  t37 := Tryd.underlying113
  a37 := Tryd.isAgg113
  z37 := Tryd.sizeOf113
  v37 := Tryd.zeroValue113
  i37 := by kernel_rfl
  t39 := Tryd.underlying148
  a39 := Tryd.isAgg148
  z39 := Tryd.sizeOf148
  v39 := Tryd.zeroValue148
  i39 := by kernel_rfl
  t44 := Tryd.underlying159
  a44 := Tryd.isAgg159
  z44 := Tryd.sizeOf159
  v44 := Tryd.zeroValue159
  i44 := by kernel_rfl
  t47 := Tryd.underlying136
  a47 := Tryd.isAgg136
  z47 := Tryd.sizeOf136
  v47 := Tryd.zeroValue136
  i47 := by kernel_rfl
  t48 := Tryd.underlying167
  a48 := Tryd.isAgg167
  z48 := Tryd.sizeOf167
  v48 := Tryd.zeroValue167
  i48 := by kernel_rfl
  t50 := Tryd.underlying169
  a50 := Tryd.isAgg169
  z50 := Tryd.sizeOf169
  v50 := Tryd.zeroValue169
  i50 := by kernel_rfl
  t52 := Tryd.underlying153
  a52 := Tryd.isAgg153
  z52 := Tryd.sizeOf153
  v52 := Tryd.zeroValue153
  i52 := by kernel_rfl
  t55 := Tryd.underlying156
  a55 := Tryd.isAgg156
  z55 := Tryd.sizeOf156
  v55 := Tryd.zeroValue156
  i55 := by kernel_rfl
  t59 := Tryd.underlying162
  a59 := Tryd.isAgg162
  z59 := Tryd.sizeOf162
  v59 := Tryd.zeroValue162
  i59 := by kernel_rfl
  t60 := Tryd.underlying163
  a60 := Tryd.isAgg163
  z60 := Tryd.sizeOf163
  v60 := Tryd.zeroValue163
  i60 := by kernel_rfl
  t61 := Tryd.underlying164
  a61 := Tryd.isAgg164
  z61 := Tryd.sizeOf164
  t65 := Tryd.underlying171
  a65 := Tryd.isAgg171
  z65 := Tryd.sizeOf171
  v65 := Tryd.zeroValue171
  i65 := by kernel_rfl
  t66 := Tryd.underlying172
  a66 := Tryd.isAgg172
  z66 := Tryd.sizeOf172
  v66 := Tryd.zeroValue172
  i66 := by kernel_rfl
  t67 := Tryd.underlying120
  a67 := Tryd.isAgg120
  z67 := Tryd.sizeOf120
  v67 := Tryd.zeroValue120
  i67 := by kernel_rfl
  g0 := by kernel_rfl
  m0 := by kernel_rfl
  g1 := by kernel_rfl
  m1 := by kernel_rfl
  g2 := by kernel_rfl
  m2 := by kernel_rfl
  g3 := by kernel_rfl
  m3 := by kernel_rfl
  g4 := by kernel_rfl
  m4 := by kernel_rfl }
open Go.RowKit in
theorem Tryd.strconv_ParseUint_10_at64_ok (s : ByteArray) (hmax : s.size ≤ 9223372036854775806) (u : Nat) (h : Lib.parseUintB 64 s.data.toList = .ok u) (w : World) :
    Calls Tryd.prog 108 #[.string s, .int .i64 10, .int .i64 64] w fun e w' => e = .returned (.tuple #[.int .u64 u, .nilIface]) ∧ (w' = w ∨ w' = Lib.bytesWorld w 5 s) := Any.strconv_ParseUint_10_at64_ok Tryd.laysPu14 s hmax u h w
open Go.RowKit in
theorem Tryd.strconv_ParseUint_10_at64_syntax (s : ByteArray) (hlim : s.size ≤ 281474976710656) (h : Lib.parseUintB 64 s.data.toList = .«syntax») (ev : Value) (w : World) (hv : w.cell? ⟨2, 0, none⟩ = some ev) (hev : ev = .nilIface ∨ ∃ te pe, ev = .iface te pe) :
    Calls Tryd.prog 108 #[.string s, .int .i64 10, .int .i64 64] w fun e w' => ∃ N, e = .returned (.tuple #[.int .u64 0, .iface 148 (.pointer (some ⟨N, 0, none⟩))]) ∧ w.heap.size ≤ N ∧ w'.heap[N]? = some (.cells #[.string ⟨#[80, 97, 114, 115, 101, 85, 105, 110, 116]⟩, .string s, ev] 159 (0, 0)) ∧ Below w.heap.size w w' := Any.strconv_ParseUint_10_at64_syntax Tryd.laysPu14 s hlim h ev w hv hev
end Go.Proofs

/- Contract of a reader's function number. Conditions: a reader lies in memory; its tokens are ones that lex tells. -/
namespace Go.Proofs.YtgohhnbdicdenaaDoor.Ex
open Go.ChangeShapes Go.WideShapes Go.ChangeAt Go.RowKit
open Go.Proofs.YtgohhnbdicdenaaDoor.Tr (str ret_bool ret_int Bytes Nd)
set_option linter.unusedVariables false
set_option linter.unusedSimpArgs false

theorem val_snoc_le (l : Bytes) (acc : Nat) : acc ≤ l.foldl (fun n c => 10 * n + (c.toNat - 48)) acc := by
  induction l generalizing acc with
  | nil => exact Nat.le_refl _
  | cons c r ih => rw [List.foldl_cons]; exact Nat.le_trans (by omega) (ih _)
theorem parse_digits (l : Bytes) (h : l.all Lx.digitB = true) (M : Nat) (hM : M ≤ 18446744073709551615) : ∀ acc, l.foldl (fun n c => 10 * n + (c.toNat - 48)) acc ≤ 2147483647 → 2147483647 ≤ M →
    Lib.parseUintM M acc l = .ok (l.foldl (fun n c => 10 * n + (c.toNat - 48)) acc) := by
  induction l with
  | nil => intro acc _ _; rfl
  | cons c r ih =>
    intro acc hv hm
    simp only [List.all_cons, Bool.and_eq_true] at h
    have hd := Lx.digit_bd c h.1
    rw [List.foldl_cons] at hv ⊢
    have h1 := val_snoc_le r (10 * acc + (c.toNat - 48))
    unfold Lib.parseUintM
    rw [if_pos hd, if_neg (by omega), if_neg (by omega)]
    have e : acc * 10 + (c.toNat - 48) = 10 * acc + (c.toNat - 48) := by omega
    rw [e]
    exact ih h.2 _ hv hm
theorem parse_ok (l : Bytes) (h : l.all Lx.digitB = true) (h0 : l ≠ []) (hv : Lx.val l ≤ 2147483647) : Lib.parseUintB 64 l = .ok (Lx.val l) := by
  unfold Lib.parseUintB
  rw [if_neg h0]
  exact parse_digits l h _ (by omega) 0 hv (by omega)
theorem parse_bad (l : Bytes) (h : Lx.digitB (l.headD 0) = false) : Lib.parseUintB 64 l = .«syntax» := by
  unfold Lib.parseUintB
  split
  · rfl
  · cases l with
    | nil => contradiction
    | cons c r =>
      unfold Lib.parseUintM
      rw [if_neg]
      intro hc
      simp [Lx.digitB, UInt8.le_iff_toNat_le] at h
      have := h hc.1
      omega
/-- Tokens as lex tells them. -/
def GoodL (l : List Tok) : Prop := ∀ t ∈ l, Lx.Good t.kind t.text
theorem good_cur {r : Rd} (h : GoodL r.l) : (r.cur.kind = 2 → r.cur.text.all Lx.digitB = true ∧ r.cur.text ≠ [] ∧ Lx.val r.cur.text ≤ 2147483647) ∧ (r.cur.kind ≠ 2 → Lx.digitB (r.cur.text.headD 0) = false) := by
  unfold Rd.cur
  cases ht : r.l[r.next]? with
  | none => exact ⟨fun h => by simp [noTok] at h, fun _ => by decide⟩
  | some t =>
    have hg := h t (List.mem_of_getElem? ht)
    show (t.kind = 2 → t.text.all Lx.digitB = true ∧ t.text ≠ [] ∧ Lx.val t.text ≤ 2147483647) ∧ (t.kind ≠ 2 → Lx.digitB (t.text.headD 0) = false)
    rcases hg with ⟨h1, h2, h3⟩ | ⟨h1, h2, h3, h4⟩ | ⟨h1, h2⟩
    · have hk := Lx.digM_kind t.text (by rw [h3])
      rw [h3] at hk
      simp only at hk
      refine ⟨fun _ => ⟨h1, h2, ?_⟩, fun hne => absurd hk hne⟩
      have := Lx.digM_val t.text h1 h2
      rw [h3] at this
      split at this
      · simp at this
      · omega
    · exact ⟨fun hk => by
        have := Lx.letM_kind t.text (by rw [h4])
        rw [h4] at this
        simp only at this
        omega, fun _ => h3⟩
    · refine ⟨fun hk => by omega, fun _ => ?_⟩
      have : ∀ x ∈ Lx.signTexts, Lx.digitB (x.headD 0) = false := by decide
      exact this _ h1
theorem good_len {r : Rd} (h : GoodL r.l) : True := trivial

theorem two_below {w w1 w2 : World} {o : Obj} (hb : Below w.heap.size w w1) (hb2 : Below (w1.alloc o).heap.size (w1.alloc o) w2) : Below w.heap.size w w2 ∧ w2.heap[w1.heap.size]? = some o := by
  have h1 := hb.size
  exact ⟨(hb.alloc h1 o).trans (hb2.mono (by simp; omega)), (hb2.block w1.heap.size (by simp)).trans (heap_alloc_new w1 o)⟩
/-- strconv.ParseUint, its world left open. -/
theorem uint_ok (T : Bytes) (u : Nat) (w : World) (hl : T.length ≤ 1000000) (h : Lib.parseUintB 64 T = .ok u) :
    Calls Tryd.prog 108 #[.string (str T), .int .i64 10, .int .i64 64] w fun e w' => e = .returned (.tuple #[.int .u64 u, .nilIface]) ∧ Below w.heap.size w w' :=
  (Tryd.strconv_ParseUint_10_at64_ok (str T) (by rw [Tr.str_size]; omega) u (by simpa [str] using h) w).mono (by
    rintro e w' ⟨rfl, h | h⟩
    · subst h; exact ⟨rfl, Below.refl _ _⟩
    · subst h; exact ⟨rfl, Lib.bytesWorld_below _ _ _⟩)
theorem uint_bad (T : Bytes) (w : World) (b : Nat) (hv : VarAt w b) (hl : T.length ≤ 1000000) (h : Lib.parseUintB 64 T = .«syntax») :
    Calls Tryd.prog 108 #[.string (str T), .int .i64 10, .int .i64 64] w fun e w' => ∃ N, e = .returned (.tuple #[.int .u64 0, .iface 148 (.pointer (some ⟨N, 0, none⟩))]) ∧ Below w.heap.size w w' := by
  obtain ⟨_, _, ev, h1, h2⟩ := hv
  exact (Tryd.strconv_ParseUint_10_at64_syntax (str T) (by rw [Tr.str_size]; omega) (by simpa [str] using h) ev w h1 h2).mono (by
    rintro e w' ⟨N, rfl, -, -, hb⟩; exact ⟨N, rfl, hb⟩)
set_option maxHeartbeats 1600000 in
theorem number_any (b : Nat) (mv : Nat → Value) (r : Rd) (most : Nat) (w : World) (hr : RdAt w b mv r) (hn : r.next ≤ 1000000) (hg : GoodL r.l) (hl : r.cur.text.length ≤ 1000000) (hm : most ≤ 2147483647) :
    Calls Tryd.prog 86 #[.pointer (some ⟨b, 0, none⟩), .int .i64 (most : Int)] w (fun e w' => e = .returned (.int .i64 (r.num most : Nat)) ∧ RdTo w w' b mv (r.numR most)) := by
  have HR := Lib.hid hr
  have hlt := hr.lt
  have HC := Lib.hid (token_any b mv r w hr hn)
  obtain ⟨g2, gn⟩ := good_cur hg
  have HNM := Lib.hid (show r.num most = if numB most r.cur then Lx.val r.cur.text else 0 from rfl)
  have HNR := Lib.hid (show r.numR most = if numB most r.cur then r.adv else r.fail 5 from rfl)
  clear hr
  rw [HNM.out, HNR.out]
  obtain ⟨t, ht⟩ : ∃ t, r.cur = t := ⟨_, rfl⟩
  obtain ⟨ok, hok⟩ : ∃ ok, decide (r.next < r.l.length) = ok := ⟨_, rfl⟩
  rw [ht] at HC g2 gn hl ⊢
  rw [hok] at HC
  clear ht hok HNM HNR
  obtain ⟨K, T, P⟩ := t
  simp only at g2 gn hl ⊢
  have HX : Hid (∀ w1, Below w.heap.size w w1 → w1.cell? ⟨b, 1, none⟩ = some (.int .i64 (r.next : Int)) ∧ w1.frozen? ⟨b, 1, none⟩ = false) := Lib.hid (fun w1 hb => by
    obtain ⟨lv, k1, _⟩ := (HR.out.below hb).blk
    exact ⟨rd_cell k1 1, rd_free k1 1⟩)
  by_cases hk : K = 2
  · obtain ⟨h1, h2, h3⟩ := g2 hk
    have HP := Lib.hid (parse_ok T h1 h2 h3)
    subst hk
    obtain ⟨V, hV⟩ : ∃ V, Lx.val T = V := ⟨_, rfl⟩
    rw [hV] at HP h3
    have HB : Hid (numB most ⟨2, T, P⟩ = decide (V ≤ most)) := Lib.hid (by simp [numB, hV])
    rw [HB.out, hV]
    clear hV h1 h2 g2 gn
    by_cases hvm : V ≤ most
    · have hd : decide (most < V) = false := by simp; omega
      rw [if_pos (by simpa using hvm), if_pos (by simpa using hvm)]
      go_enter Tryd.func86, Tryd.ntmps86
      go_wp2_with fail
      refine HC.out.mono ?_
      rintro e w1 ⟨rfl, hb⟩
      have HBL := Lib.hid hb
      clear hb
      go_wp2_with fail
      refine (uint_ok T V _ hl HP.out).mono ?_
      rintro e w2 ⟨rfl, hb2⟩
      obtain ⟨hbl, hh⟩ := two_below HBL.out hb2
      obtain ⟨c1, f1⟩ := HX.out w2 hbl
      have d0 : w2.cell? ⟨w1.heap.size, 0, none⟩ = some (.int .i64 2) := by simp [World.cell?, hh]
      have HB2 := Lib.hid hbl
      clear hb2 hbl hh
      go_wp2
      go_ret
      exact ⟨rfl, RdTo.below HB2.out hlt (HR.out.below HB2.out).advTo⟩
    · have hd : decide (most < V) = true := by simp; omega
      rw [if_neg (by simpa using hvm), if_neg (by simpa using hvm)]
      go_enter Tryd.func86, Tryd.ntmps86
      go_wp2_with fail
      refine HC.out.mono ?_
      rintro e w1 ⟨rfl, hb⟩
      have HBL := Lib.hid hb
      clear hb
      go_wp2_with fail
      refine (uint_ok T V _ hl HP.out).mono ?_
      rintro e w2 ⟨rfl, hb2⟩
      obtain ⟨hbl, hh⟩ := two_below HBL.out hb2
      obtain ⟨c1, f1⟩ := HX.out w2 hbl
      have d0 : w2.cell? ⟨w1.heap.size, 0, none⟩ = some (.int .i64 2) := by simp [World.cell?, hh]
      have HB2 := Lib.hid hbl
      clear hb2 hbl hh
      go_wp2_with fail
      refine (fail_any b mv r 5 _ (HR.out.below HB2.out) hn).mono ?_
      rintro e w3 ⟨ev, rfl, -, ht⟩
      have HT := Lib.hid (RdTo.below HB2.out hlt ht)
      clear ht
      go_wp2
      go_ret
      exact ⟨rfl, HT.out⟩
  · have HP := Lib.hid (parse_bad T (gn hk))
    have hkd : (K != 2) = true := by simpa using hk
    have HB : Hid (numB most ⟨K, T, P⟩ = false) := Lib.hid (by simp [numB, hk])
    rw [HB.out]
    clear g2 gn hk
    simp only [Bool.false_eq_true, if_false]
    go_enter Tryd.func86, Tryd.ntmps86
    go_wp2_with fail
    refine HC.out.mono ?_
    rintro e w1 ⟨rfl, hb⟩
    have HBL := Lib.hid hb
    clear hb
    go_wp2_with fail
    refine (uint_bad T _ b ((HR.out.below HBL.out).var.keep (by simp) (fun g _ hg => Below.heap_alloc _ _ _ hg)) hl HP.out).mono ?_
    rintro e w2 ⟨N, rfl, hb2⟩
    obtain ⟨hbl, hh⟩ := two_below HBL.out hb2
    obtain ⟨c1, f1⟩ := HX.out w2 hbl
    have d0 : w2.cell? ⟨w1.heap.size, 0, none⟩ = some (.int .i64 K) := by simp [World.cell?, hh]
    have HB2 := Lib.hid hbl
    clear hb2 hbl hh
    go_wp2_with fail
    refine (fail_any b mv r 5 _ (HR.out.below HB2.out) hn).mono ?_
    rintro e w3 ⟨ev, rfl, -, ht⟩
    have HT := Lib.hid (RdTo.below HB2.out hlt ht)
    clear ht
    go_wp2
    go_ret
    exact ⟨rfl, HT.out⟩
end Go.Proofs.YtgohhnbdicdenaaDoor.Ex

/- Contracts of layer expr's functions joined and join: parts put together. Conditions: the parts lie in memory. -/
namespace Go.Proofs.YtgohhnbdicdenaaDoor.Ex
open Go.ChangeShapes Go.WideShapes Go.ChangeAt Go.RowKit
open Go.Proofs.YtgohhnbdicdenaaDoor.Tr (str ret_bool ret_int Bytes Nd joinM roomM)
set_option linter.unusedVariables false
set_option linter.unusedSimpArgs false

theorem info24 : (Tryd.prog.info? 24).map (fun i => (i.zero, i.size, i.bytes)) = some (some (.slice none 0 0), 1, 24) := by kernel_rfl
/-- A slice reads as a list of parts. -/
def PartsAt (w : World) (v : Value) (ps : List Pt) : Prop :=
  ∃ A c, v = .slice A ps.length c ∧ ps.length ≤ c ∧ c ≤ maxLen ∧ ∀ i p, ps[i]? = some p → ∃ g ev, A = some ⟨g, 0, none⟩ ∧ g < w.heap.size ∧
    w.cell? ⟨g, i * 3, none⟩ = some ev ∧ w.cell? ⟨g, i * 3 + 1, none⟩ = some (.int .i64 (p.nodes : Int)) ∧ w.cell? ⟨g, i * 3 + 2, none⟩ = some (.int .i64 (p.deep : Int)) ∧
    Tr.Nodes w ev p.e ∧ (0 < p.e.length → ∀ g o n c, ev = .slice (some ⟨g, o, none⟩) n c → g < w.heap.size)
/-- The expressions of parts, as slices of nodes. -/
def ExprsAt (w : World) (b : Nat) (ps : List Pt) (evs : List Value) : Prop :=
  evs.length = ps.length ∧ ∀ (i : Nat) ev p, evs[i]? = some ev → ps[i]? = some p → Tr.Nodes w ev p.e ∧ (0 < p.e.length → ∀ g o n c, ev = .slice (some ⟨g, o, none⟩) n c → g < b)
theorem ExprsAt.keep {w w' : World} {b : Nat} {ps : List Pt} {evs : List Value} (h : ExprsAt w b ps evs) (hs : w.heap.size ≤ w'.heap.size) (hk : ∀ g, g < b → g < w.heap.size → w'.heap[g]? = w.heap[g]?) : ExprsAt w' b ps evs := by
  refine ⟨h.1, fun i ev p h1 h2 => ?_⟩
  obtain ⟨a, c⟩ := h.2 i ev p h1 h2
  exact ⟨a.low c hs hk, c⟩
/-- The loop's relation. -/
structure JRel (w : World) (op : Int) (ps : List Pt) (k : Nat) (wr : World) (lv : Value) (evs : List Value) : Prop where
  le : k ≤ ps.length
  out : wr.heap[w.heap.size]? = some (.cells #[.slice none 0 0, .int .i64 0, .int .i64 0] 64 (0, 0))
  whole : wr.heap[w.heap.size + 1]? = some (.cells #[.slice none 0 0, .int .i64 (nodesOf op (ps.take k) : Int), .int .i64 (deepOf op (ps.take k) : Int)] 64 (0, 0))
  own : wr.ownsRow (w.heap.size + 2) 24 1 lv k evs
  exprs : ExprsAt wr w.heap.size (ps.take k) evs
  below : Below w.heap.size w wr
theorem take_next {α : Type} (l : List α) (k : Nat) (a : α) (h : l[k]? = some a) : l.take (k + 1) = l.take k ++ [a] := by
  rw [List.take_add_one, h]; rfl
theorem nodes_next (op : Int) (ps : List Pt) (k : Nat) (p : Pt) (h : ps[k]? = some p) : nodesOf op (ps.take (k + 1)) = nodesOf op (ps.take k) + p.nodes + if op = 27 then 1 else 0 := by
  unfold nodesOf; rw [take_next ps k p h, List.foldl_append]; rfl
theorem deep_next (op : Int) (ps : List Pt) (k : Nat) (p : Pt) (h : ps[k]? = some p) : deepOf op (ps.take (k + 1)) = max (deepOf op (ps.take k)) (1 + p.deep) + if op = 27 then 1 else 0 := by
  unfold deepOf; rw [take_next ps k p h, List.foldl_append]; rfl
theorem nodes_mono (op : Int) (ps : List Pt) (k : Nat) : nodesOf op (ps.take k) ≤ nodesOf op ps := by
  rw [nodes_eq, nodes_eq]
  have h1 : ((ps.take k).map Pt.nodes).sum ≤ (ps.map Pt.nodes).sum := by
    conv => rhs; rw [← List.take_append_drop k ps]
    rw [List.map_append, List.sum_append]; omega
  have h2 : (ps.take k).length ≤ ps.length := by rw [List.length_take]; omega
  split <;> omega
theorem JRel.step {w wr W w3 : World} {op : Int} {ps : List Pt} {k : Nat} {p : Pt} {lv lv' ev : Value} {evs : List Value} {o : Obj} (h : JRel w op ps k wr lv evs) (hp : ps[k]? = some p)
    (hev : Tr.Nodes w ev p.e) (hlow : 0 < p.e.length → ∀ g o n c, ev = .slice (some ⟨g, o, none⟩) n c → g < w.heap.size)
    (hs : wr.heap.size ≤ W.heap.size) (hk : ∀ g, g < wr.heap.size → g ≠ w.heap.size + 1 → W.heap[g]? = wr.heap[g]?) (hos : W.os = wr.os) (htp : W.tape = wr.tape) (hou : W.output = wr.output)
    (hw : W.heap[w.heap.size + 1]? = some (.cells #[.slice none 0 0, .int .i64 (nodesOf op (ps.take (k + 1)) : Int), .int .i64 (deepOf op (ps.take (k + 1)) : Int)] 64 (0, 0)))
    (hown : w3.ownsRow (w.heap.size + 2) 24 1 lv' (k + 1) (evs ++ [ev])) (hg : (W.alloc o).grownBy w3 lv.ownBlock) : JRel w op ps (k + 1) w3 lv' (evs ++ [ev]) := by
  have hkl := (List.getElem?_eq_some_iff.1 hp).1
  have l0 := lt_of_block h.out
  have l1 := lt_of_block h.whole
  have hbs := h.below.size
  have hne : ∀ g, g < w.heap.size + 2 → some g ≠ lv.ownBlock := fun g hg e => by have := (h.own.lt g e.symm).1; omega
  have hgs := hg.size
  simp at hgs
  have hB : ∀ g, g < w.heap.size + 2 → g < wr.heap.size → w3.heap[g]? = W.heap[g]? := fun g h1 h2 => by
    rw [hg.block g (by simp; omega) (hne g h1), Below.heap_alloc _ _ _ (by omega)]
  have hbel : Below w.heap.size w w3 := ⟨(hg.os.trans hos).trans h.below.os, (hg.tape.trans htp).trans h.below.tape, (hg.output.trans hou).trans h.below.output, by omega,
    fun i hi => (hB i (by omega) (by omega)).trans ((hk i (by omega) (by omega)).trans (h.below.block i hi))⟩
  refine ⟨by omega, ?_, ?_, hown, ?_, hbel⟩
  · rw [hB _ (by omega) l0, hk _ l0 (by omega)]; exact h.out
  · rw [hB _ (by omega) l1]; exact hw
  · rw [take_next ps k p hp]
    have he := h.exprs.keep (w' := w3) (by omega) (fun g h1 h2 => (hB g (by omega) h2).trans (hk g h2 (by omega)))
    have hlen := he.1
    refine ⟨by simp [hlen], fun i v q hv hq => ?_⟩
    by_cases hi : i < evs.length
    · rw [List.getElem?_append_left hi] at hv
      rw [List.getElem?_append_left (by omega)] at hq
      exact he.2 i v q hv hq
    · rw [List.getElem?_append_right (by omega)] at hv
      rw [List.getElem?_append_right (by omega)] at hq
      have e0 : i - evs.length = 0 := by
        have := (List.getElem?_eq_some_iff.1 hv).1
        simp at this; omega
      rw [e0] at hv
      rw [show i - (ps.take k).length = 0 by omega] at hq
      simp at hv hq
      subst hv; subst hq
      exact ⟨hev.low hlow (by omega) (fun g h1 h2 => hbel.block g h2), hlow⟩
theorem parts_of {w : World} {b : Nat} {n : Nat} {lv : Value} {evs : List Value} {ps : List Pt} (h : w.ownsRow b 24 1 lv n evs) (he : ExprsAt w w.heap.size ps evs) (hn : n = ps.length) : Tr.Parts w w.heap.size lv (ps.map Pt.e) := by
  obtain ⟨hl, h0 | ⟨g, cap, cur, rfl, hb, hh, hnc, hcm, hcs, hct⟩⟩ := h
  · obtain ⟨rfl, h0⟩ := h0
    have : ps = [] := List.length_eq_zero_iff.1 (by omega)
    subst this
    exact ⟨none, 0, rfl, by simp, by unfold maxLen; omega, fun i t h => by simp at h⟩
  · have h : w.ownsRow b 24 1 (.slice (some ⟨g, 0, none⟩) n cap) n evs := ⟨hl, .inr ⟨g, cap, cur, rfl, hb, hh, hnc, hcm, hcs, hct⟩⟩
    refine ⟨some ⟨g, 0, none⟩, cap, by rw [List.length_map, hn], by rw [List.length_map]; omega, hcm, fun i l hi => ?_⟩
    rw [List.getElem?_map] at hi
    obtain ⟨p, hp, rfl⟩ := Option.map_eq_some_iff.1 hi
    have hil : i < evs.length := by have := (List.getElem?_eq_some_iff.1 hp).1; have := he.1; omega
    have hv : evs[i]? = some (evs[i]'hil) := List.getElem?_eq_getElem hil
    obtain ⟨a, c⟩ := he.2 i _ p hv hp
    have hlg := lt_of_block hh
    exact ⟨g, 0, evs[i]'hil, rfl, hlg, hlg, by rw [Nat.zero_add, h.cellAt _ (by omega)]; exact hv, a, c⟩
end Go.Proofs.YtgohhnbdicdenaaDoor.Ex

/- The function joined of layer expr puts parts together. Conditions: the parts lie in memory; they are not too many. -/
namespace Go.Proofs.YtgohhnbdicdenaaDoor.Ex
open Go.ChangeShapes Go.WideShapes Go.ChangeAt Go.RowKit
open Go.Proofs.YtgohhnbdicdenaaDoor.Tr (str ret_bool ret_int Bytes Nd joinM roomM)
set_option linter.unusedVariables false
set_option linter.unusedSimpArgs false

/-- What is told of a part that was put together. -/
def JoinPost (w : World) (p : Pt) (e : Ending) (w' : World) : Prop :=
  ∃ ev, e = .returned (.agg #[ev, .int .i64 (p.nodes : Int), .int .i64 (p.deep : Int)]) ∧ PtW w' (ev, p) ∧ Below w.heap.size w w'
theorem deep_le (op : Int) (ps : List Pt) (h : ∀ p ∈ ps, p.ok) : deepOf op ps ≤ nodesOf op ps := deep_fold op ps (fun p hp => (h p hp).deep) 1 1 (Nat.le_refl _) (Nat.le_refl _)
theorem own_low {w : World} {b n : Nat} {v : Value} {e : TypeId} {s : Nat} {xs : List Value} (h : w.ownsRow b e s v n xs) : ∀ g o m c, v = .slice (some ⟨g, o, none⟩) m c → b ≤ g := by
  intro g o m c hv
  obtain ⟨_, h0 | ⟨g', cap, cur, rfl, hb, _⟩⟩ := h
  · rw [h0.1] at hv; cases hv
  · simp only [Value.slice.injEq, Option.some.injEq, Addr.mk.injEq] at hv
    obtain ⟨⟨rfl, _⟩, _⟩ := hv; exact hb
theorem ExprsAt.wide {w : World} {b : Nat} {ps : List Pt} {evs : List Value} (h : ExprsAt w b ps evs) (hb : b ≤ w.heap.size) : ExprsAt w w.heap.size ps evs :=
  ⟨h.1, fun i ev p h1 h2 => ⟨(h.2 i ev p h1 h2).1, fun h0 g o n c e => Nat.lt_of_lt_of_le ((h.2 i ev p h1 h2).2 h0 g o n c e) hb⟩⟩
theorem JoinPost.of {w w' : World} {p : Pt} {ev : Value} {N D : Nat} (h1 : p.nodes = N) (h2 : p.deep = D) (h3 : PtW w' (ev, p)) (h5 : Below w.heap.size w w') :
    JoinPost w p (.returned (.agg #[ev, .int .i64 (N : Int), .int .i64 (D : Int)])) w' := by subst h1; subst h2; exact ⟨ev, rfl, h3, h5⟩
theorem trip_cells {w1 : World} {B : Nat} {u0 u1 u2 : Value} (v0 v1 v2 : Value) {T : TypeId} (hh : w1.heap[B]? = some (.cells #[u0, u1, u2] T (0, 0))) :
    (((w1.setCell ⟨B, 0, none⟩ v0).setCell ⟨B, 1, none⟩ v1).setCell ⟨B, 2, none⟩ v2).cell? ⟨B, 0, none⟩ = some v0 ∧ (((w1.setCell ⟨B, 0, none⟩ v0).setCell ⟨B, 1, none⟩ v1).setCell ⟨B, 2, none⟩ v2).cell? ⟨B, 1, none⟩ = some v1 ∧ (((w1.setCell ⟨B, 0, none⟩ v0).setCell ⟨B, 1, none⟩ v1).setCell ⟨B, 2, none⟩ v2).cell? ⟨B, 2, none⟩ = some v2 := by
  have h2 := setObj_heap (v := v2) (setObj_heap (v := v1) (setObj_heap (v := v0) hh (k := 0) (by simp)) (k := 1) (by simp)) (k := 2) (by simp)
  refine ⟨?_, ?_, ?_⟩ <;> simp [World.cell?, h2]
theorem new_at (W : World) (cs : Value) {G : Nat} (h : W.heap.size = G) : ∀ j u, [cs][j]? = some u → (W.alloc (.cells #[cs] 24)).cell? ((⟨G, 0, none⟩ : Addr).add j) = some u := by
  subst h; exact cell_one_new _ _ _
set_option maxRecDepth 100000 in
set_option maxHeartbeats 1000000 in
theorem joined_any (pv : Value) (ps : List Pt) (op n : Int) (s : Bytes) (w : World) (hp : PartsAt w pv ps) (hok : ∀ p ∈ ps, p.ok) (hn : nodesOf op ps ≤ 1000000) (hl : ps.length ≤ 1000000)
    (hroom : nodesOf op ps ≤ 5000 → roomM (ps.map Pt.e) ≤ 80000) :
    Calls Tryd.prog 87 #[.int .i64 op, .int .i64 n, .string (str s), pv] w (JoinPost w (joined op n s ps)) := by
  obtain ⟨A, c, rfl, h1, h2, hA⟩ := hp
  unfold maxLen at h2
  have HA := Lib.hid hA
  have HNM := Lib.hid (fun k => nodes_mono op ps k)
  have HDL := Lib.hid (fun k => Nat.le_trans (deep_le op (ps.take k) (fun p hp => hok p (List.mem_of_mem_take hp))) (nodes_mono op ps k))
  have HOK := Lib.hid hok
  have HROOM := Lib.hid hroom
  obtain ⟨i0, hi, hz0, hz1, hz2⟩ := info_parts info24
  clear hA hok hroom
  go_enter Tryd.func87, Tryd.ntmps87
  go_wp2
  go_loopw [10, 16] (fun u i wr => ∃ (k : Nat) (evs : List Value) (v : Value), v = u ∧ i = .int .i64 k ∧ JRel w op ps k wr v evs) (fun _ i _ => ps.length - (intOf i).toNat)
  case atStart =>
    refine ⟨0, [], _, rfl, rfl, ⟨Nat.zero_le _, ?_, ?_, World.ownsRow_nil _ _ _ _, ⟨rfl, fun i ev p h => by simp at h⟩, ((Below.refl _ _).alloc (Nat.le_refl _) _).alloc (by simp) _⟩⟩
    · rw [Below.heap_alloc _ _ _ (by simp)]; exact heap_alloc_new w _
    · exact (congrArg (fun i => ((w.alloc (.cells #[.slice none 0 0, .int .i64 0, .int .i64 0] 64)).alloc (.cells #[.slice none 0 0, .int .i64 1, .int .i64 1] 64)).heap[i]?) (show w.heap.size + 1 = (w.alloc (.cells #[.slice none 0 0, .int .i64 0, .int .i64 0] 64)).heap.size by simp)).trans (heap_alloc_new _ _)
  case round =>
    obtain ⟨k, evs, v, rfl, rfl, hrel⟩ := hrel
    have hk := hrel.le
    have HREL := Lib.hid hrel
    have hsz := hrel.below.size
    have hz1' := lt_of_block hrel.whole
    have hz0' := lt_of_block hrel.out
    have hne9 : w.heap.size + 1 ≠ wr.heap.size := by omega
    have HKEEP := Lib.hid (fun g (hg : g < w.heap.size) => hrel.below.block g hg)
    clear hrel
    by_cases hlt : k < ps.length
    · obtain ⟨p, hpk⟩ : ∃ p, ps[k]? = some p := ⟨_, List.getElem?_eq_getElem hlt⟩
      obtain ⟨g, ev, rfl, hg, c0, c1, c2, hnd, hlow⟩ := HA.out k p hpk
      have q : ∀ j, wr.cell? ⟨g, j, none⟩ = w.cell? ⟨g, j, none⟩ := fun j => World.cell?_of_block (w := w) (a := ⟨g, j, none⟩) (HKEEP.out g hg)
      have c0 := (q _).trans c0
      have c1 := (q _).trans c1
      have c2 := (q _).trans c2
      have HQ := Lib.hid q
      have hNn := HNM.out (k + 1)
      have hDn := HDL.out (k + 1)
      have e1 := nodes_next op ps k p hpk
      have e2 := deep_next op ps k p hpk
      have HW := Lib.hid HREL.out.whole
      have HPK := Lib.hid hpk
      have HND := Lib.hid hnd
      obtain ⟨Ae, ce, rfl, y1, y2, _⟩ := hnd
      unfold maxLen at y2
      have HLOW := Lib.hid hlow
      have HE1 := Lib.hid e1
      have HE2 := Lib.hid e2
      obtain ⟨N, hN⟩ : ∃ N, nodesOf op (ps.take k) = N := ⟨_, rfl⟩
      obtain ⟨D, hD⟩ : ∃ D, deepOf op (ps.take k) = D := ⟨_, rfl⟩
      rw [hN, hD] at HW
      rw [hN] at HE1
      rw [hD] at HE2
      have hN6 : N + p.nodes + 1 ≤ 1000001 := by rw [hN] at e1; split at e1 <;> omega
      have hD6 : D ≤ 1000000 ∧ p.deep ≤ 1000000 := by rw [hD] at e2; split at e2 <;> omega
      obtain ⟨hD6, hP6⟩ := hD6
      have d0 : wr.cell? ⟨w.heap.size + 1, 0, none⟩ = some (.slice none 0 0) := by simp [World.cell?, HW.out]
      have d1 : wr.cell? ⟨w.heap.size + 1, 1, none⟩ = some (.int .i64 (N : Int)) := by simp [World.cell?, HW.out]
      have d2 : wr.cell? ⟨w.heap.size + 1, 2, none⟩ = some (.int .i64 (D : Int)) := by simp [World.cell?, HW.out]
      have f1 : wr.frozen? ⟨w.heap.size + 1, 1, none⟩ = false := by simp [World.frozen?, HW.out]
      have f2 : wr.frozen? ⟨w.heap.size + 1, 2, none⟩ = false := by simp [World.frozen?, HW.out]
      clear q hN hD hlow hpk e1 e2 hNn hDn
      obtain ⟨pe, X, Y⟩ := p
      simp only at c0 c1 c2 y1 y2 hN6 hP6
      obtain ⟨L, hL⟩ : ∃ L, pe.length = L := ⟨_, rfl⟩
      rw [hL] at c0 y1
      have HL := Lib.hid hL
      clear hL
      by_cases h27 : op = 27
      · have hd : (op == 27) = true := by simpa using h27
        have H27 := Lib.hid h27
        clear h27
        go_wp2_with (at_builtin; refine wpList_append_own _ rfl (.tmp 43) (.tmp 46) 50 rfl (w.heap.size + 2) 24 i0 _ 1 24 Tryd.underlying50 hi hz0 hz1 hz2 rfl (by decide) v k evs rfl ?owna ⟨wr.heap.size + 1, 0, none⟩ 1 1 [.slice Ae L ce] rfl rfl ?newa ?onea ?lena ?byta ?basa ?_)
        case owna =>
          refine World.ownsRow.alloc ?_ _
          refine World.ownsRow.alloc ?_ _
          repeat refine ownsRow_setCell_below ?_ (by simp) _
          exact HREL.out.own
        case onea => rfl
        case lena => unfold maxLen; omega
        case byta => omega
        intro v' w3 hown hgrow _
        have R : JRel w op ps (k + 1) w3 v' (evs ++ [.slice Ae L ce]) := by
          refine HREL.out.step HPK.out (by rw [← HL.out]; exact HND.out) (by rw [← HL.out]; exact HLOW.out) ?_ ?_ ?_ ?_ ?_ ?_ hown hgrow
          · simp [World.setCell]
          · intro g1 hg1 hne1
            rw [Below.heap_alloc _ _ _ (by simp [World.setCell]; omega)]
            repeat rw [Below.heap_setCell _ _ _ _ (by simpa using hne1)]
          · rfl
          · rfl
          · rfl
          · rw [HE1.out, HE2.out, Below.heap_alloc _ _ _ (by simp [World.setCell]; omega)]
            rw [setObj_heap (setObj_heap (setObj_heap (setObj_heap HW.out (k := 1) (by simp)) (k := 2) (by simp)) (k := 1) (by simp)) (k := 2) (by simp)]
            simp [H27.out]
            omega
        have HR := Lib.hid R
        clear R hown hgrow
        go_wp2
        refine ⟨⟨k + 1, _, _, rfl, by go_num, HR.out⟩, by simp [intOf]; omega⟩
      · have hd : (op == 27) = false := by simpa using h27
        have H27 := Lib.hid h27
        clear h27
        go_wp2_with (at_builtin; refine wpList_append_own _ rfl (.tmp 43) (.tmp 46) 50 rfl (w.heap.size + 2) 24 i0 _ 1 24 Tryd.underlying50 hi hz0 hz1 hz2 rfl (by decide) v k evs rfl ?ownb ⟨wr.heap.size + 1, 0, none⟩ 1 1 [.slice Ae L ce] rfl rfl ?newb ?oneb ?lenb ?bytb ?basb ?_)
        case ownb =>
          refine World.ownsRow.alloc ?_ _
          refine World.ownsRow.alloc ?_ _
          repeat refine ownsRow_setCell_below ?_ (by simp) _
          exact HREL.out.own
        case oneb => rfl
        case lenb => unfold maxLen; omega
        case bytb => omega
        intro v' w3 hown hgrow _
        have R : JRel w op ps (k + 1) w3 v' (evs ++ [.slice Ae L ce]) := by
          refine HREL.out.step HPK.out (by rw [← HL.out]; exact HND.out) (by rw [← HL.out]; exact HLOW.out) ?_ ?_ ?_ ?_ ?_ ?_ hown hgrow
          · simp [World.setCell]
          · intro g1 hg1 hne1
            rw [Below.heap_alloc _ _ _ (by simp [World.setCell]; omega)]
            repeat rw [Below.heap_setCell _ _ _ _ (by simpa using hne1)]
          · rfl
          · rfl
          · rfl
          · rw [HE1.out, HE2.out, Below.heap_alloc _ _ _ (by simp [World.setCell]; omega)]
            rw [setObj_heap (setObj_heap HW.out (k := 1) (by simp)) (k := 2) (by simp)]
            simp [H27.out]
            omega
        have HR := Lib.hid R
        clear R hown hgrow
        go_wp2
        refine ⟨⟨k + 1, _, _, rfl, by go_num, HR.out⟩, by simp [intOf]; omega⟩
    · have hkl : k = ps.length := by omega
      subst hkl
      have HTK := Lib.hid (show ps.take ps.length = ps from List.take_length)
      have hW := HREL.out.whole
      rw [HTK.out] at hW
      have HNODES : Hid ((joined op n s ps).nodes = nodesOf op ps ∧ (joined op n s ps).deep = deepOf op ps ∧ (joined op n s ps).e = if nodesOf op ps ≤ 5000 ∧ deepOf op ps ≤ 40 then joinM op n s (ps.map Pt.e) else []) := Lib.hid ⟨rfl, rfl, rfl⟩
      have HEX := HREL.out.exprs
      rw [HTK.out] at HEX
      have hpt := parts_of (HREL.out.own) (HEX.wide hsz) rfl
      have HPT := Lib.hid hpt
      have hD0 := HDL.out ps.length
      rw [HTK.out] at hD0
      obtain ⟨N, hN⟩ : ∃ N, nodesOf op ps = N := ⟨_, rfl⟩
      obtain ⟨D, hD⟩ : ∃ D, deepOf op ps = D := ⟨_, rfl⟩
      rw [hN, hD] at hW
      rw [hN] at hn HROOM
      rw [hN, hD] at hD0
      rw [hN, hD] at HNODES
      have HW := Lib.hid hW
      have HO := Lib.hid HREL.out.out
      have HB := Lib.hid HREL.out.below
      obtain ⟨Av, cv, hv, _⟩ := hpt
      rw [List.length_map] at hv
      subst hv
      clear hW HEX hN hD
      have HCL : Hid (∀ w2 : World, Below wr.heap.size wr w2 → w2.heap[w.heap.size]? = some (.cells #[.slice none 0 0, .int .i64 0, .int .i64 0] 64 (0, 0)) ∧ w2.heap[w.heap.size + 1]? = some (.cells #[.slice none 0 0, .int .i64 (N : Int), .int .i64 (D : Int)] 64 (0, 0)) ∧ Below w.heap.size w w2) :=
        Lib.hid (fun w2 hb => ⟨(hb.block _ hz0').trans HO.out, (hb.block _ hz1').trans HW.out, HB.out.trans (hb.mono hsz)⟩)
      by_cases hsm : N ≤ 5000 ∧ D ≤ 40
      · have hs1 : decide ((N : Int) ≤ 5000) = true := by simp; omega
        have hs2 : decide ((D : Int) ≤ 40) = true := by simp; omega
        have hrm := HROOM.out hsm.1
        have HSM := Lib.hid hsm
        clear hsm
        obtain ⟨x0, x1, -⟩ := HCL.out wr (Below.refl _ _)
        have d1 : wr.cell? ⟨w.heap.size + 1, 1, none⟩ = some (.int .i64 (N : Int)) := by simp [World.cell?, x1]
        have d2 : wr.cell? ⟨w.heap.size + 1, 2, none⟩ = some (.int .i64 (D : Int)) := by simp [World.cell?, x1]
        clear x0 x1
        go_wp2_with fail
        refine (Tr.join_any _ _ op n s _ HPT.out hrm).mono ?_
        rintro r w2 ⟨ev, rfl, hown2, hb2⟩
        have HOW := Lib.hid hown2
        obtain ⟨Ae, ce, rfl, y1, y2, _⟩ := Tr.Nodes.of_own hown2
        unfold maxLen at y2
        obtain ⟨x0, x1, hbw⟩ := HCL.out w2 hb2
        have hz2 := hb2.size
        have HBW := Lib.hid hbw
        have X0 := Lib.hid x0
        have X1 := Lib.hid x1
        clear hown2 hb2 hbw d1 d2
        have g0 : w2.cell? ⟨w.heap.size, 0, none⟩ = some (.slice none 0 0) := by simp [World.cell?, x0]
        have g1 : w2.cell? ⟨w.heap.size, 1, none⟩ = some (.int .i64 0) := by simp [World.cell?, x0]
        have g2 : w2.cell? ⟨w.heap.size, 2, none⟩ = some (.int .i64 0) := by simp [World.cell?, x0]
        have e0 : w2.frozen? ⟨w.heap.size, 0, none⟩ = false := by simp [World.frozen?, x0]
        have e1 : w2.frozen? ⟨w.heap.size, 1, none⟩ = false := by simp [World.frozen?, x0]
        have e2 : w2.frozen? ⟨w.heap.size, 2, none⟩ = false := by simp [World.frozen?, x0]
        have g3 : w2.cell? ⟨w.heap.size + 1, 0, none⟩ = some (.slice none 0 0) := by simp [World.cell?, x1]
        have d1 : w2.cell? ⟨w.heap.size + 1, 1, none⟩ = some (.int .i64 (N : Int)) := by simp [World.cell?, x1]
        have d2 : w2.cell? ⟨w.heap.size + 1, 2, none⟩ = some (.int .i64 (D : Int)) := by simp [World.cell?, x1]
        have e3 : w2.frozen? ⟨w.heap.size + 1, 0, none⟩ = false := by simp [World.frozen?, x1]
        clear x0 x1
        go_wp2
        refine bodyPost_ret (v := .agg #[.slice Ae (joinM op n s (ps.map Pt.e)).length ce, .int .i64 (N : Int), .int .i64 (D : Int)]) ?_ rfl (JoinPost.of HNODES.out.1 HNODES.out.2.1 ?_ ?_)
        · obtain ⟨k0, k1, k2⟩ := trip_cells (.slice Ae (joinM op n s (ps.map Pt.e)).length ce) (.int .i64 (N : Int)) (.int .i64 (D : Int))
            ((Below.heap_setCell w2 ⟨w.heap.size + 1, 0, none⟩ (.slice Ae (joinM op n s (ps.map Pt.e)).length ce) w.heap.size (by simp)).trans X0.out)
          clear g0 g1 g2 g3 e0 e1 e2 e3 d1 d2 HOW
          simp [results, Tryd.results87, go_sem, k0, k1, k2]
        · refine PtW.own (b := wr.heap.size) ?_
          rw [HNODES.out.2.2, if_pos HSM.out]
          repeat refine ownsRow_setCell_below ?_ (by simp; omega) _
          exact HOW.out
        · repeat refine Below.setCell ?_ (by simp) _
          exact HBW.out
      · have HNO := Lib.hid (show (joined op n s ps).e = [] by rw [HNODES.out.2.2, if_neg hsm])
        by_cases hs1 : N ≤ 5000
        · have hs1d : decide ((N : Int) ≤ 5000) = true := by simp; omega
          have hs2 : decide ((D : Int) ≤ 40) = false := by simp; omega
          clear hsm hs1
          obtain ⟨x0, x1, -⟩ := HCL.out wr (Below.refl _ _)
          have g0 : wr.cell? ⟨w.heap.size, 0, none⟩ = some (.slice none 0 0) := by simp [World.cell?, x0]
          have g1 : wr.cell? ⟨w.heap.size, 1, none⟩ = some (.int .i64 0) := by simp [World.cell?, x0]
          have g2 : wr.cell? ⟨w.heap.size, 2, none⟩ = some (.int .i64 0) := by simp [World.cell?, x0]
          have e0 : wr.frozen? ⟨w.heap.size, 0, none⟩ = false := by simp [World.frozen?, x0]
          have e1 : wr.frozen? ⟨w.heap.size, 1, none⟩ = false := by simp [World.frozen?, x0]
          have e2 : wr.frozen? ⟨w.heap.size, 2, none⟩ = false := by simp [World.frozen?, x0]
          have g3 : wr.cell? ⟨w.heap.size + 1, 0, none⟩ = some (.slice none 0 0) := by simp [World.cell?, x1]
          have d1 : wr.cell? ⟨w.heap.size + 1, 1, none⟩ = some (.int .i64 (N : Int)) := by simp [World.cell?, x1]
          have d2 : wr.cell? ⟨w.heap.size + 1, 2, none⟩ = some (.int .i64 (D : Int)) := by simp [World.cell?, x1]
          have X0 := Lib.hid x0
          clear x0 x1
          go_wp2
          refine bodyPost_ret (v := .agg #[.slice none 0 0, .int .i64 (N : Int), .int .i64 (D : Int)]) ?_ rfl (JoinPost.of HNODES.out.1 HNODES.out.2.1 ?_ ?_)
          · obtain ⟨k0, k1, k2⟩ := trip_cells (.slice none 0 0) (.int .i64 (N : Int)) (.int .i64 (D : Int)) X0.out
            clear g0 g1 g2 g3 e0 e1 e2 d1 d2
            simp [results, Tryd.results87, go_sem, k0, k1, k2]
          · exact PtW.nil _ _ HNO.out
          · repeat refine Below.setCell ?_ (by simp) _
            exact HB.out
        · have hs1d : decide ((N : Int) ≤ 5000) = false := by simp; omega
          clear hsm hs1
          obtain ⟨x0, x1, -⟩ := HCL.out wr (Below.refl _ _)
          have g0 : wr.cell? ⟨w.heap.size, 0, none⟩ = some (.slice none 0 0) := by simp [World.cell?, x0]
          have g1 : wr.cell? ⟨w.heap.size, 1, none⟩ = some (.int .i64 0) := by simp [World.cell?, x0]
          have g2 : wr.cell? ⟨w.heap.size, 2, none⟩ = some (.int .i64 0) := by simp [World.cell?, x0]
          have e0 : wr.frozen? ⟨w.heap.size, 0, none⟩ = false := by simp [World.frozen?, x0]
          have e1 : wr.frozen? ⟨w.heap.size, 1, none⟩ = false := by simp [World.frozen?, x0]
          have e2 : wr.frozen? ⟨w.heap.size, 2, none⟩ = false := by simp [World.frozen?, x0]
          have g3 : wr.cell? ⟨w.heap.size + 1, 0, none⟩ = some (.slice none 0 0) := by simp [World.cell?, x1]
          have d1 : wr.cell? ⟨w.heap.size + 1, 1, none⟩ = some (.int .i64 (N : Int)) := by simp [World.cell?, x1]
          have d2 : wr.cell? ⟨w.heap.size + 1, 2, none⟩ = some (.int .i64 (D : Int)) := by simp [World.cell?, x1]
          have X0 := Lib.hid x0
          clear x0 x1
          go_wp2
          refine bodyPost_ret (v := .agg #[.slice none 0 0, .int .i64 (N : Int), .int .i64 (D : Int)]) ?_ rfl (JoinPost.of HNODES.out.1 HNODES.out.2.1 ?_ ?_)
          · obtain ⟨k0, k1, k2⟩ := trip_cells (.slice none 0 0) (.int .i64 (N : Int)) (.int .i64 (D : Int)) X0.out
            clear g0 g1 g2 g3 e0 e1 e2 d1 d2
            simp [results, Tryd.results87, go_sem, k0, k1, k2]
          · exact PtW.nil _ _ HNO.out
          · repeat refine Below.setCell ?_ (by simp) _
            exact HB.out
end Go.Proofs.YtgohhnbdicdenaaDoor.Ex

/- Lists of parts in memory; the method join of a sign. Conditions: the parts lie in memory; they are not too many. -/
namespace Go.Proofs.YtgohhnbdicdenaaDoor.Ex
open Go.ChangeShapes Go.WideShapes Go.ChangeAt Go.RowKit
open Go.Proofs.YtgohhnbdicdenaaDoor.Tr (str ret_bool ret_int Bytes Nd joinM roomM)
set_option linter.unusedVariables false
set_option linter.unusedSimpArgs false

def ptCells (x : Value × Pt) : List Value := [x.1, .int .i64 (x.2.nodes : Int), .int .i64 (x.2.deep : Int)]
def ptsOf (L : List (Value × Pt)) : List Value := L.flatMap ptCells
theorem pts_len (L : List (Value × Pt)) : (ptsOf L).length = L.length * 3 := by
  induction L with
  | nil => rfl
  | cons a r ih => show ([_, _, _] ++ ptsOf r).length = _; rw [List.length_append, ih]; simp; omega
theorem pts_snoc (L : List (Value × Pt)) (x : Value × Pt) : ptsOf (L ++ [x]) = ptsOf L ++ ptCells x := by simp [ptsOf]
theorem pts_at (L : List (Value × Pt)) (i : Nat) (x : Value × Pt) (h : L[i]? = some x) (k : Nat) (hk : k < 3) : (ptsOf L)[i * 3 + k]? = (ptCells x)[k]? := by
  induction L generalizing i with
  | nil => simp at h
  | cons a r ih =>
    cases i with
    | zero =>
      simp at h; subst h
      show (ptCells a ++ ptsOf r)[0 * 3 + k]? = _
      rw [List.getElem?_append_left (by simp [ptCells]; omega)]; congr 1; omega
    | succ i =>
      simp at h
      show (ptCells a ++ ptsOf r)[(i + 1) * 3 + k]? = _
      rw [List.getElem?_append_right (by simp [ptCells]; omega), ← ih i h]
      congr 1; simp [ptCells]; omega
/-- A part's nodes lie below a block. -/
def PtIn (w : World) (b : Nat) (x : Value × Pt) : Prop := Tr.Nodes w x.1 x.2.e ∧ (0 < x.2.e.length → ∀ g o n c, x.1 = .slice (some ⟨g, o, none⟩) n c → g < b)
theorem PtIn.keep {w w' : World} {b : Nat} {x : Value × Pt} (h : PtIn w b x) (hs : w.heap.size ≤ w'.heap.size) (hk : ∀ g, g < b → g < w.heap.size → w'.heap[g]? = w.heap[g]?) : PtIn w' b x := ⟨h.1.low h.2 hs hk, h.2⟩
theorem PtIn.wide {w : World} {b b' : Nat} {x : Value × Pt} (h : PtIn w b x) (hb : b ≤ b') : PtIn w b' x := ⟨h.1, fun h0 g o n c e => Nat.lt_of_lt_of_le (h.2 h0 g o n c e) hb⟩
theorem PtIn.below {w w' : World} {x : Value × Pt} (h : PtIn w w.heap.size x) (hb : Below w.heap.size w w') : PtIn w' w'.heap.size x :=
  (h.keep hb.size (fun g _ hg => hb.block g hg)).wide hb.size
theorem parts_own {w : World} {b : Nat} {v : Value} {L : List (Value × Pt)} (h : w.ownsRow b 64 3 v L.length (ptsOf L)) (hL : ∀ x ∈ L, PtIn w w.heap.size x) : PartsAt w v (L.map Prod.snd) := by
  obtain ⟨hl, h0 | ⟨g, cap, cur, rfl, hb, hh, hnc, hcm, hcs, hct⟩⟩ := h
  · obtain ⟨rfl, h0⟩ := h0
    have : L = [] := List.length_eq_zero_iff.1 h0
    subst this
    exact ⟨none, 0, rfl, by simp, by unfold maxLen; omega, fun i t h => by simp at h⟩
  · have h : w.ownsRow b 64 3 (.slice (some ⟨g, 0, none⟩) L.length cap) L.length (ptsOf L) := ⟨hl, .inr ⟨g, cap, cur, rfl, hb, hh, hnc, hcm, hcs, hct⟩⟩
    refine ⟨some ⟨g, 0, none⟩, cap, by rw [List.length_map], by rw [List.length_map]; exact hnc, hcm, fun i p hi => ?_⟩
    rw [List.getElem?_map] at hi
    obtain ⟨x, hx, rfl⟩ := Option.map_eq_some_iff.1 hi
    have hil : i < L.length := (List.getElem?_eq_some_iff.1 hx).1
    have q : ∀ k, k < 3 → w.cell? ⟨g, i * 3 + k, none⟩ = (ptCells x)[k]? := fun k hk => by
      rw [h.cellAt _ (by omega), pts_at L i x hx k hk]
    have hin := hL x (List.mem_of_getElem? hx)
    exact ⟨g, x.1, rfl, lt_of_block hh, q 0 (by omega), q 1 (by omega), q 2 (by omega), hin.1, hin.2⟩
theorem parts_block {w : World} {B : Nat} {L : List (Value × Pt)} {cs : Array Value} {T : TypeId} {n : Nat} (h : w.heap[B]? = some (.cells cs T (0, 0))) (hc : cs = (ptsOf L).toArray) (hL : ∀ x ∈ L, PtIn w w.heap.size x) (hn : n = L.length) (hm : L.length ≤ 1000000) : PartsAt w (.slice (some ⟨B, 0, none⟩) n n) (L.map Prod.snd) := by
  subst hn
  refine ⟨some ⟨B, 0, none⟩, L.length, by rw [List.length_map], by rw [List.length_map]; exact Nat.le_refl _, by unfold maxLen; omega, fun i p hi => ?_⟩
  rw [List.getElem?_map] at hi
  obtain ⟨x, hx, rfl⟩ := Option.map_eq_some_iff.1 hi
  have q : ∀ k, k < 3 → w.cell? ⟨B, i * 3 + k, none⟩ = (ptCells x)[k]? := fun k hk => by
    rw [← pts_at L i x hx k hk]
    simp [World.cell?, h, hc]
  have hin := hL x (List.mem_of_getElem? hx)
  exact ⟨B, x.1, rfl, lt_of_block h, q 0 (by omega), q 1 (by omega), q 2 (by omega), hin.1, hin.2⟩
theorem room_of (op : Int) (ps : List Pt) (hok : ∀ p ∈ ps, p.ok) (h : op = 27 ∨ ps.length ≤ 3) : nodesOf op ps ≤ 5000 → roomM (ps.map Pt.e) ≤ 80000 := fun hn => by
  have h1 := lens_le ps (fun p hp => (hok p hp).len)
  rw [nodes_eq] at hn
  rw [Tr.room_sum, List.length_map]
  split at hn <;> omega
theorem new_blk {W : World} {o : Obj} {G : Nat} (h : W.heap.size = G) : (W.alloc o).heap[G]? = some o := by subst h; exact heap_alloc_new W o
/-- A part laid into the result's block. -/
theorem JoinPost.laid {w W w2 : World} {p : Pt} {gv : Value} {B : Nat} {u0 u1 u2 : Value} (hb : Below w.heap.size w W) (hB : w.heap.size ≤ B) (hBW : W.heap[B]? = some (.cells #[u0, u1, u2] 64 (0, 0)))
    (hnd : PtW w2 (gv, p)) (hb2 : Below W.heap.size W w2) :
    JoinPost w p (.returned (.agg #[gv, .int .i64 (p.nodes : Int), .int .i64 (p.deep : Int)])) (((w2.setCell ⟨B, 0, none⟩ gv).setCell ⟨B, 1, none⟩ (.int .i64 (p.nodes : Int))).setCell ⟨B, 2, none⟩ (.int .i64 (p.deep : Int))) := by
  have hlt := lt_of_block hBW
  have hs := hb.size
  have h0 := (hb2.block B hlt).trans hBW
  have h1 := setObj_heap (v := gv) h0 (k := 0) (by simp)
  have h2 := setObj_heap (v := .int .i64 (p.nodes : Int)) h1 (k := 1) (by simp)
  refine JoinPost.of rfl rfl (((hnd.set h0 (by decide) _).set h1 (by decide) _).set h2 (by decide) _) ?_
  exact (((hb.trans (hb2.mono hs)).setCell (by exact hB) _).setCell (by exact hB) _).setCell (by exact hB) _
set_option maxRecDepth 100000 in
set_option maxHeartbeats 1000000 in
theorem sjoin_any (s : Int × Bool) (ev fv : Value) (p q : Pt) (w : World) (hp : PtIn w w.heap.size (ev, p)) (hq : PtIn w w.heap.size (fv, q)) (h1 : p.ok) (h2 : q.ok) (h3 : p.nodes + q.nodes ≤ 900000) (h27 : s.1 ≤ 25) :
    Calls Tryd.prog 88 #[.agg #[.int .i64 s.1, .bool s.2], .agg #[ev, .int .i64 (p.nodes : Int), .int .i64 (p.deep : Int)], .agg #[fv, .int .i64 (q.nodes : Int), .int .i64 (q.deep : Int)]] w (JoinPost w (sjoin s p q)) := by
  obtain ⟨op, tu⟩ := s
  have HP := Lib.hid hp
  have HQ := Lib.hid hq
  obtain ⟨⟨Ae, ce, hev, y1, y2, _⟩, _⟩ := hp
  obtain ⟨⟨Af, cf, hfv, y3, y4, _⟩, _⟩ := hq
  simp only at hev hfv y1 y2 y3 y4 h27
  subst hev; subst hfv
  unfold maxLen at y2 y4
  have H1 := Lib.hid h1
  have H2 := Lib.hid h2
  clear h1 h2
  cases tu with
  | false =>
    have HS := Lib.hid (show sjoin (op, false) p q = joined op 0 [] [p, q] from rfl)
    rw [HS.out]
    go_enter Tryd.func88, Tryd.ntmps88
    go_wp2_with fail
    have hbW : Below w.heap.size w (((((w.alloc (.cells #[.int .i64 op, .bool false] 84)).alloc (.cells #[.slice Ae p.e.length ce, .int .i64 (p.nodes : Int), .int .i64 (p.deep : Int)] 64)).alloc (.cells #[.slice Af q.e.length cf, .int .i64 (q.nodes : Int), .int .i64 (q.deep : Int)] 64)).alloc (.cells #[.slice none 0 0, .int .i64 0, .int .i64 0] 64)).alloc (.cells (ptsOf [(.slice Ae p.e.length ce, p), (.slice Af q.e.length cf, q)]).toArray 64)) := by
      repeat (first | exact Below.refl _ _ | refine Below.alloc ?_ (by simp; try omega) _)
    have HBW := Lib.hid hbW
    have hpa := parts_block (L := [(.slice Ae p.e.length ce, p), (.slice Af q.e.length cf, q)]) (n := 2) (new_blk (W := ((((w.alloc (.cells #[.int .i64 op, .bool false] 84)).alloc (.cells #[.slice Ae p.e.length ce, .int .i64 (p.nodes : Int), .int .i64 (p.deep : Int)] 64)).alloc (.cells #[.slice Af q.e.length cf, .int .i64 (q.nodes : Int), .int .i64 (q.deep : Int)] 64)).alloc (.cells #[.slice none 0 0, .int .i64 0, .int .i64 0] 64))) (G := w.heap.size + 1 + 1 + 1 + 1) (by simp)) rfl (by
      intro x hx
      simp at hx
      rcases hx with rfl | rfl
      · exact HP.out.below HBW.out
      · exact HQ.out.below HBW.out) rfl (by simp)
    have hB3 : (((((w.alloc (.cells #[.int .i64 op, .bool false] 84)).alloc (.cells #[.slice Ae p.e.length ce, .int .i64 (p.nodes : Int), .int .i64 (p.deep : Int)] 64)).alloc (.cells #[.slice Af q.e.length cf, .int .i64 (q.nodes : Int), .int .i64 (q.deep : Int)] 64)).alloc (.cells #[.slice none 0 0, .int .i64 0, .int .i64 0] 64)).alloc (.cells (ptsOf [(.slice Ae p.e.length ce, p), (.slice Af q.e.length cf, q)]).toArray 64)).heap[w.heap.size + 1 + 1 + 1]? = some (.cells #[.slice none 0 0, .int .i64 0, .int .i64 0] 64 (0, 0)) := by
      rw [Below.heap_alloc _ _ _ (by simp)]; exact new_blk (by simp)
    have HB3 := Lib.hid hB3
    clear hbW hB3
    refine (joined_any _ [p, q] op 0 [] _ hpa (by simp [H1.out, H2.out]) (by rw [nodes_eq, if_neg (by omega)]; simp; omega) (by simp) (room_of op _ (by simp [H1.out, H2.out]) (.inr (by simp)))).mono ?_
    rintro r w2 ⟨gv, rfl, hnd, hb2⟩
    have HND := Lib.hid hnd
    have HB2 := Lib.hid hb2
    have hs2 := hb2.size
    simp at hs2
    have x0 := (hb2.block (w.heap.size + 1 + 1 + 1) (by simp)).trans HB3.out
    have X0 := Lib.hid x0
    obtain ⟨⟨Ag, cg, hgv, z1, z2, _⟩, _⟩ := hnd
    simp only at hgv z1
    subst hgv
    unfold maxLen at z2
    have g0 : w2.cell? ⟨w.heap.size + 1 + 1 + 1, 0, none⟩ = some (.slice none 0 0) := by simp [World.cell?, x0]
    have g1 : w2.cell? ⟨w.heap.size + 1 + 1 + 1, 1, none⟩ = some (.int .i64 0) := by simp [World.cell?, x0]
    have g2 : w2.cell? ⟨w.heap.size + 1 + 1 + 1, 2, none⟩ = some (.int .i64 0) := by simp [World.cell?, x0]
    have e0 : w2.frozen? ⟨w.heap.size + 1 + 1 + 1, 0, none⟩ = false := by simp [World.frozen?, x0]
    have e1 : w2.frozen? ⟨w.heap.size + 1 + 1 + 1, 1, none⟩ = false := by simp [World.frozen?, x0]
    have e2 : w2.frozen? ⟨w.heap.size + 1 + 1 + 1, 2, none⟩ = false := by simp [World.frozen?, x0]
    clear hb2 x0 hpa
    go_wp2
    refine bodyPost_ret (v := .agg #[.slice Ag (joined op 0 [] [p, q]).e.length cg, .int .i64 ((joined op 0 [] [p, q]).nodes : Int), .int .i64 ((joined op 0 [] [p, q]).deep : Int)]) ?_ rfl (JoinPost.laid HBW.out (by omega) HB3.out HND.out HB2.out)
    obtain ⟨k0, k1, k2⟩ := trip_cells (.slice Ag (joined op 0 [] [p, q]).e.length cg) (.int .i64 ((joined op 0 [] [p, q]).nodes : Int)) (.int .i64 ((joined op 0 [] [p, q]).deep : Int)) X0.out
    clear g0 g1 g2 e0 e1 e2
    simp [results, Tryd.results88, go_sem, k0, k1, k2]
  | true =>
    have HS := Lib.hid (show sjoin (op, true) p q = joined op 0 [] [q, p] from rfl)
    rw [HS.out]
    go_enter Tryd.func88, Tryd.ntmps88
    go_wp2_with fail
    have hbW : Below w.heap.size w (((((w.alloc (.cells #[.int .i64 op, .bool true] 84)).alloc (.cells #[.slice Af q.e.length cf, .int .i64 (q.nodes : Int), .int .i64 (q.deep : Int)] 64)).alloc (.cells #[.slice Ae p.e.length ce, .int .i64 (p.nodes : Int), .int .i64 (p.deep : Int)] 64)).alloc (.cells #[.slice none 0 0, .int .i64 0, .int .i64 0] 64)).alloc (.cells (ptsOf [(.slice Af q.e.length cf, q), (.slice Ae p.e.length ce, p)]).toArray 64)) := by
      repeat (first | exact Below.refl _ _ | refine Below.alloc ?_ (by simp; try omega) _)
    have HBW := Lib.hid hbW
    have hpa := parts_block (L := [(.slice Af q.e.length cf, q), (.slice Ae p.e.length ce, p)]) (n := 2) (new_blk (W := ((((w.alloc (.cells #[.int .i64 op, .bool true] 84)).alloc (.cells #[.slice Af q.e.length cf, .int .i64 (q.nodes : Int), .int .i64 (q.deep : Int)] 64)).alloc (.cells #[.slice Ae p.e.length ce, .int .i64 (p.nodes : Int), .int .i64 (p.deep : Int)] 64)).alloc (.cells #[.slice none 0 0, .int .i64 0, .int .i64 0] 64))) (G := w.heap.size + 1 + 1 + 1 + 1) (by simp)) rfl (by
      intro x hx
      simp at hx
      rcases hx with rfl | rfl
      · exact HQ.out.below HBW.out
      · exact HP.out.below HBW.out) rfl (by simp)
    have hB3 : (((((w.alloc (.cells #[.int .i64 op, .bool true] 84)).alloc (.cells #[.slice Af q.e.length cf, .int .i64 (q.nodes : Int), .int .i64 (q.deep : Int)] 64)).alloc (.cells #[.slice Ae p.e.length ce, .int .i64 (p.nodes : Int), .int .i64 (p.deep : Int)] 64)).alloc (.cells #[.slice none 0 0, .int .i64 0, .int .i64 0] 64)).alloc (.cells (ptsOf [(.slice Af q.e.length cf, q), (.slice Ae p.e.length ce, p)]).toArray 64)).heap[w.heap.size + 1 + 1 + 1]? = some (.cells #[.slice none 0 0, .int .i64 0, .int .i64 0] 64 (0, 0)) := by
      rw [Below.heap_alloc _ _ _ (by simp)]; exact new_blk (by simp)
    have HB3 := Lib.hid hB3
    clear hbW hB3
    refine (joined_any _ [q, p] op 0 [] _ hpa (by simp [H1.out, H2.out]) (by rw [nodes_eq, if_neg (by omega)]; simp; omega) (by simp) (room_of op _ (by simp [H1.out, H2.out]) (.inr (by simp)))).mono ?_
    rintro r w2 ⟨gv, rfl, hnd, hb2⟩
    have HND := Lib.hid hnd
    have HB2 := Lib.hid hb2
    have hs2 := hb2.size
    simp at hs2
    have x0 := (hb2.block (w.heap.size + 1 + 1 + 1) (by simp)).trans HB3.out
    have X0 := Lib.hid x0
    obtain ⟨⟨Ag, cg, hgv, z1, z2, _⟩, _⟩ := hnd
    simp only at hgv z1
    subst hgv
    unfold maxLen at z2
    have g0 : w2.cell? ⟨w.heap.size + 1 + 1 + 1, 0, none⟩ = some (.slice none 0 0) := by simp [World.cell?, x0]
    have g1 : w2.cell? ⟨w.heap.size + 1 + 1 + 1, 1, none⟩ = some (.int .i64 0) := by simp [World.cell?, x0]
    have g2 : w2.cell? ⟨w.heap.size + 1 + 1 + 1, 2, none⟩ = some (.int .i64 0) := by simp [World.cell?, x0]
    have e0 : w2.frozen? ⟨w.heap.size + 1 + 1 + 1, 0, none⟩ = false := by simp [World.frozen?, x0]
    have e1 : w2.frozen? ⟨w.heap.size + 1 + 1 + 1, 1, none⟩ = false := by simp [World.frozen?, x0]
    have e2 : w2.frozen? ⟨w.heap.size + 1 + 1 + 1, 2, none⟩ = false := by simp [World.frozen?, x0]
    clear hb2 x0 hpa
    go_wp2
    refine bodyPost_ret (v := .agg #[.slice Ag (joined op 0 [] [q, p]).e.length cg, .int .i64 ((joined op 0 [] [q, p]).nodes : Int), .int .i64 ((joined op 0 [] [q, p]).deep : Int)]) ?_ rfl (JoinPost.laid HBW.out (by omega) HB3.out HND.out HB2.out)
    obtain ⟨k0, k1, k2⟩ := trip_cells (.slice Ag (joined op 0 [] [q, p]).e.length cg) (.int .i64 ((joined op 0 [] [q, p]).nodes : Int)) (.int .i64 ((joined op 0 [] [q, p]).deep : Int)) X0.out
    clear g0 g1 g2 e0 e1 e2
    simp [results, Tryd.results88, go_sem, k0, k1, k2]
end Go.Proofs.YtgohhnbdicdenaaDoor.Ex


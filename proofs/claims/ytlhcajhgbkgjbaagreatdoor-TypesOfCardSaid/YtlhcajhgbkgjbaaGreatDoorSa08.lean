/- What the document's reader of programs reads of tokens, as plain functions. Conditions: none. -/
import Derived.Test.YtlhcajhgbkgjbaaGreatDoorSa01
import Derived.Test.YtlhcajhgbkgjbaaGreatDoorMb18
import Derived.BigQuiet
set_option linter.unusedVariables false
set_option linter.unusedSimpArgs false
namespace Go.Proofs.YtlhcajhgbkgjbaaGreatDoor.Rp
open Tr Ex
open Pg (Prm Eqn Itm Unt Prg PM kar kbf txt Rd.stop Rd.to kaP kbz kpv kaH kmF wInt kdU kai kkB kd7 kbA wVar wLet wTel wEnd kaS kas kc7 kep kcw kdT keW kaM kjb sEq kcr)
def kaj (s : Bytes) : PM Unit := fun r => ((), r.need s)
def kau (s : Bytes) : PM Bool := fun r => if r.isB s then (true, r.adv) else (false, r)
def kby (n : Nat) : PM Unit := fun r => ((), if 200 <= n then r.fail 7 else r)
def kbj : PM (List Nd) := fun r => if r.code ≠ 0 then ([], r) else if (kaU r.l r.next).2.2.1 ≠ 0 then ([], Pg.Rd.stop (kaU r.l r.next).2.2.1 (kaU r.l r.next).2.2.2 r) else ((kaU r.l r.next).1, Pg.Rd.to (kaU r.l r.next).2.1 r)
def kaK : PM Prm := kar kbz fun n => kar (kaj kjb) fun _ => kar (kau kmF) fun b => if b then kbf ⟨n, 1⟩ else kar (kau wInt) fun i => if i then kbf ⟨n, 2⟩ else kar (kpv 5) fun _ => kbf ⟨n, 0⟩
def inF {α : Type} (sep : Bytes) (one : PM α) : Nat -> List α -> PM (List α)
 | 0, _ => kbf []
 | k + 1, acc => fun r => if r.code = 0 then kar (kby acc.length) (fun _ => kar one fun a => kar (kau [41]) fun b => if b then kbf (acc ++ [a]) else kar (kaj sep) fun _ => inF sep one k (acc ++ [a])) r else ([], r)
def inQ {α : Type} (sep : Bytes) (one : PM α) : PM (List α) := kar (kaj [40]) fun _ => kar (kau [41]) fun b => if b then kbf [] else inF sep one kaH []
def varF : Nat -> List Prm -> PM (List Prm)
 | 0, _ => kbf []
 | k + 1, acc => fun r => if r.code = 0 then kar (kby acc.length) (fun _ => kar kaK fun a => kar (kaj kaM) fun _ => fun r' => if kaP r' then varF k (acc ++ [a]) r' else (acc ++ [a], r')) r else ([], r)
def varQ : PM (List Prm) := varF kaH []
def eqnQ : PM Eqn := kar kbz fun n => kar (kaj sEq) fun _ => kar kbj fun e => kar (kaj kaM) fun _ => kbf ⟨n, e⟩
def eqF : Nat -> List Eqn -> PM (List Eqn)
 | 0, acc => kbf acc
 | k + 1, acc => fun r => if kaP r then kar (kby acc.length) (fun _ => kar eqnQ fun q => eqF k (acc ++ [q])) r else (acc, r)
def eqsQ : PM (List Eqn) := kar (eqF kaH []) fun l => kar (kaj wTel) fun _ => kbf l
def kbI (k : Int) : PM Itm :=
 if k = 3 then kar kaK fun p => kar (kaj sEq) fun _ => kar kbj fun e => kar (kaj kaM) fun _ => kbf ⟨k, p.name, p.ty, e, [], []⟩
 else if k = 4 then kar kbz fun n => kar (kaj kdT) fun _ => kar kbj fun e => kar (kaj keW) fun _ => kar kbj fun f => kar (kaj kaM) fun _ => kbf ⟨k, n, 0, e, f, []⟩
 else if k = 5 then kar kbz fun n => kar (inQ kcr kbj) fun l => kar (kaj kaM) fun _ => kbf ⟨k, n, 0, [], [], l⟩
 else kar kbj fun e => kar (kaj kaM) fun _ => kbf ⟨k, [], 0, e, [], []⟩
def kaZ (r : Rd) : Int := if r.isB kaS then 1 else if r.isB kas then 2 else if r.isB kc7 then 3 else if r.isB kep then 4 else if r.isB kcw then 5 else 0
def kfk : PM (Option Itm) := fun r => if kaZ r = 0 then (none, r) else kar (kbI (kaZ r)) (fun i => kbf (some i)) r.adv
def itF : Nat -> List Itm -> PM (List Itm)
 | 0, acc => kbf acc
 | k + 1, acc => fun r => if kaZ r ≠ 0 then kar (kby acc.length) (fun _ => kar kfk fun x => itF k (acc ++ x.toList)) r else (acc, r)
def kct : PM (List Itm) := kar (itF kaH []) fun l => kar (kaj wEnd) fun _ => kbf l
def keg : PM Unt := kar kbz fun n => kar (inQ kaM kaK) fun i => kar kct fun l => kbf ⟨true, n, i, ⟨[], 0⟩, [], [], l⟩
def knA : PM Unt := kar (kaj kdU) fun _ => kar kbz fun n => kar (inQ kaM kaK) fun i => kar (kaj kbA) fun _ => kar (kaj [40]) fun _ => kar kaK fun o => kar (kaj [41]) fun _ =>
 kar (kau kai) fun c => kar (if c then kct else kbf []) fun l => kar (kau wVar) fun v => kar (if v then varQ else kbf []) fun vs => kar (kaj wLet) fun _ => kar eqsQ fun es => kbf ⟨false, n, i, o, vs, es, l⟩
def kgT : PM Unt := kar (kau kai) fun c => if c then keg else knA
def kdQ (r : Rd) : Bool := r.isB kdU || r.isB kai
def unF : Nat -> List Unt -> PM (List Unt)
 | 0, acc => kbf acc
 | k + 1, acc => fun r => if kdQ r then kar (kby acc.length) (fun _ => kar kgT fun u => unF k (acc ++ [u])) r else (acc, r)
def kbN {α : Type} (f : PM α) : Prop := ∀ r, r.code ≠ 0 -> (f r).2.code ≠ 0
theorem kbN.bind {α β : Type} {f : PM α} {g : α -> PM β} (hf : kbN f) (hg : ∀ a, kbN (g a)) : kbN (kar f g) := fun r h => hg _ _ (hf r h)
theorem kam {α : Type} (a : α) : kbN (kbf a) := fun r h => h
theorem kcf (e : Int) (he : e ≠ 0) (r : Rd) : (r.fail e).code ≠ 0 := by unfold Rd.fail; split <;> simp_all
theorem kag (s : Bytes) : kbN (kaj s) := fun r h => by
 unfold kaj Rd.need; simp only; split
 · exact h
 · exact kcf 5 (by decide) r
theorem kfL (n : Nat) : kbN (kby n) := fun r h => by
 unfold kby; simp only; split
 · exact kcf 7 (by decide) r
 · exact h
theorem kbv (s : Bytes) : kbN (kau s) := fun r h => by unfold kau; split <;> exact h
theorem kbR : kbN kbz := fun r h => by
 unfold kbz; split
 · exact h
 · exact kcf 5 (by decide) r
theorem kjL (e : Int) (he : e ≠ 0) : kbN (kpv e) := fun r h => kcf e he r
theorem kbw : kbN kbj := fun r h => by unfold kbj; rw [if_pos h]; exact h
theorem kcb {α : Type} {c : Prop} [Decidable c] {f g : PM α} (hf : kbN f) (hg : kbN g) : kbN (if c then f else g) := by split; exact hf; exact hg
theorem kbQ : kbN kaK := kbR.bind fun n => (kag _).bind fun _ => (kbv _).bind fun b => kcb (kam _) ((kbv _).bind fun i => kcb (kam _) ((kjL 5 (by decide)).bind fun _ => kam _))
theorem kkO : kbN eqnQ := kbR.bind fun n => (kag _).bind fun _ => kbw.bind fun e => (kag _).bind fun _ => kam _
end Go.Proofs.YtlhcajhgbkgjbaaGreatDoor.Rp

/- The document's reader of programs in memory. Conditions: none. -/
namespace Go.Proofs.YtlhcajhgbkgjbaaGreatDoor.Rp
open Go.ChangeShapes Go.WideShapes Go.ChangeAt Go.RowKit
open Ex
open Tr (str ka1 ka6 Bytes Nd)
open Pg
def kc4 (lv : Value) (i : Nat) (c a : Int) : Array Value := #[lv, .int .i64 (i : Int), .int .i64 c, .int .i64 a]
structure RpAt (w : World) (b : Nat) (L : List Ex.Tok) (r : Rd) (lv : Value) (i : Nat) (c a : Int) : Prop where
 blk : w.heap[b]? = some (.cells (kc4 lv i c a) 93 (0, 0))
 tok : TokOff w b lv L
 okl : Rf.OkL L
 txt : ∀ t ∈ L, t.text.length <= 1000000
 ile : i <= L.length
 st : (r.code = 0 /\ c = 0 /\ r.l = L /\ i = r.next) ∨ (r.code ≠ 0 /\ c = r.code /\ a = r.at_ /\ r.l = [])
def RdIn (w : World) (b : Nat) (r : Rd) : Prop := ∃ L lv i c a, RpAt w b L r lv i c a
theorem RpAt.keep {w w' : World} {b : Nat} {L : List Ex.Tok} {r : Rd} {lv : Value} {i : Nat} {c a : Int} (h : RpAt w b L r lv i c a) (hs : w.heap.size <= w'.heap.size) (hk : ∀ g, g < b -> g < w.heap.size -> w'.heap[g]? = w.heap[g]?) (hb : w'.heap[b]? = w.heap[b]?) : RpAt w' b L r lv i c a :=
 ⟨hb.trans h.blk, h.tok.keep hs hk, h.okl, h.txt, h.ile, h.st⟩
theorem RdIn.keep {w w' : World} {b : Nat} {r : Rd} (h : RdIn w b r) (hs : w.heap.size <= w'.heap.size) (hk : ∀ g, g < b -> g < w.heap.size -> w'.heap[g]? = w.heap[g]?) (hb : w'.heap[b]? = w.heap[b]?) : RdIn w' b r := by
 obtain ⟨L, lv, i, c, a, h⟩ := h
 exact ⟨L, lv, i, c, a, h.keep hs hk hb⟩
theorem RdIn.lt {w : World} {b : Nat} {r : Rd} (h : RdIn w b r) : b < w.heap.size := by
 obtain ⟨_, _, _, _, _, h⟩ := h; exact lt_of_block h.blk
theorem RdIn.below {w w' : World} {b : Nat} {r : Rd} (h : RdIn w b r) (hb : Below w.heap.size w w') : RdIn w' b r :=
 h.keep hb.size (fun g _ hg => hb.block g hg) (hb.block b h.lt)
structure RdBy (w w' : World) (b : Nat) (r' : Rd) : Prop where
 rd : RdIn w' b r'
 grown : w.grownBy w' (some b)
theorem RdBy.refl {w : World} {b : Nat} {r : Rd} (h : RdIn w b r) : RdBy w w b r := ⟨h, World.grownBy.refl w _⟩
theorem RdBy.below {w w1 w' : World} {b : Nat} {r' : Rd} (hb : Below w.heap.size w w1) (hlt : b < w.heap.size) (h : RdBy w1 w' b r') : RdBy w w' b r' :=
 ⟨h.rd, ⟨h.grown.os.trans hb.os, h.grown.tape.trans hb.tape, h.grown.output.trans hb.output, Nat.le_trans hb.size h.grown.size, fun i hi hne => (h.grown.block i (Nat.lt_of_lt_of_le hi hb.size) hne).trans (hb.block i hi)⟩⟩
theorem RdBy.of_below {w w' : World} {b : Nat} {r : Rd} (h : RdIn w b r) (hb : Below w.heap.size w w') : RdBy w w' b r :=
 ⟨h.below hb, ⟨hb.os, hb.tape, hb.output, hb.size, fun i hi _ => hb.block i hi⟩⟩
theorem RdBy.trans {w w1 w2 : World} {b : Nat} {r1 r2 : Rd} (h : RdBy w w1 b r1) (k : RdBy w1 w2 b r2) : RdBy w w2 b r2 :=
 ⟨k.rd, ⟨k.grown.os.trans h.grown.os, k.grown.tape.trans h.grown.tape, k.grown.output.trans h.grown.output, Nat.le_trans h.grown.size k.grown.size, fun i hi hne => (k.grown.block i (Nat.lt_of_lt_of_le hi h.grown.size) hne).trans (h.grown.block i hi hne)⟩⟩
theorem RdBy.then_below {w w1 w2 : World} {b : Nat} {r1 : Rd} (h : RdBy w w1 b r1) (k : Below w1.heap.size w1 w2) : RdBy w w2 b r1 := h.trans (RdBy.of_below h.rd k)
theorem RdBy.setLocal {w wr : World} {b B k : Nat} {r : Rd} (h : RdBy w wr b r) (hB : w.heap.size <= B) (hlt : b < w.heap.size) (v : Value) : RdBy w (wr.setCell ⟨B, k, none⟩ v) b r := by
 have ho : ∀ g, g < w.heap.size -> (wr.setCell ⟨B, k, none⟩ v).heap[g]? = wr.heap[g]? := fun g hg => Below.heap_setCell _ _ _ _ (by simp; omega)
 refine ⟨h.rd.keep (by simp [World.setCell]) (fun g h1 h2 => ho g (by omega)) (ho b hlt), ⟨h.grown.os, h.grown.tape, h.grown.output, by simpa [World.setCell] using h.grown.size, fun i hi hne => (ho i hi).trans (h.grown.block i hi hne)⟩⟩
theorem kaO {w : World} {b : Nat} {lv : Value} {i : Nat} {c a : Int} (h : w.heap[b]? = some (.cells (kc4 lv i c a) 93 (0, 0))) (k : Nat) : w.cell? ⟨b, k, none⟩ = (kc4 lv i c a)[k]? := by simp [World.cell?, h]
theorem kcx {w : World} {b : Nat} {lv : Value} {i : Nat} {c a : Int} (h : w.heap[b]? = some (.cells (kc4 lv i c a) 93 (0, 0))) (k : Nat) : w.frozen? ⟨b, k, none⟩ = false := by simp [World.frozen?, h]
theorem RdBy.stay {w w' : World} {b : Nat} {r r' : Rd} (h : RdIn w b r) (k : RdBy w w' b r') : Stay (fun t => t = 93) w w' :=
 Stay.grown k.grown (fun B hB => by
  injection hB with hB; subst hB
  obtain ⟨L, lv, i, c, a, h⟩ := h
  exact ⟨_, _, _, h.blk, rfl⟩)
theorem ke1 (w : World) (b k : Nat) (v : Value) (g : Nat) (h : g ≠ b) : (w.setCell ⟨b, k, none⟩ v).heap[g]? = w.heap[g]? := Below.heap_setCell w ⟨b, k, none⟩ v g (by simpa using h)
theorem RpAt.turn {w W : World} {b : Nat} {L : List Ex.Tok} {r r' : Rd} {lv : Value} {i i' : Nat} {c a c' a' : Int} (h : RpAt w b L r lv i c a)
 (hW : W.heap[b]? = some (.cells (kc4 lv i' c' a') 93 (0, 0))) (hs : W.heap.size = w.heap.size) (hos : W.os = w.os) (ht : W.tape = w.tape) (hou : W.output = w.output) (ho : ∀ g, g ≠ b -> W.heap[g]? = w.heap[g]?)
 (hi : i' <= L.length) (hst : (r'.code = 0 /\ c' = 0 /\ r'.l = L /\ i' = r'.next) ∨ (r'.code ≠ 0 /\ c' = r'.code /\ a' = r'.at_ /\ r'.l = [])) : RdBy w W b r' :=
 ⟨⟨L, lv, i', c', a', hW, h.tok.keep (by omega) (fun g hg _ => ho g (by omega)), h.okl, h.txt, hi, hst⟩, ⟨hos, ht, hou, by omega, fun g _ hne => ho g (fun e => hne (by rw [e]))⟩⟩
theorem RpAt.setI {w : World} {b : Nat} {L : List Ex.Tok} {r : Rd} {lv : Value} {i : Nat} {c a : Int} (h : RpAt w b L r lv i c a) (hc : r.code = 0) (hi : i < L.length) :
 RdBy w (w.setCell ⟨b, 1, none⟩ (.int .i64 ((i : Int) + 1))) b r.adv := by
 have hst := h.st
 rcases hst with ⟨h1, h2, h3, h4⟩ | ⟨h1, _⟩
 · refine h.turn (i' := i + 1) (c' := c) (a' := a) ?_ (by simp [World.setCell]) rfl rfl rfl (fun g hg => ke1 _ _ _ _ _ hg) (by omega) (.inl ⟨h1, h2, h3, by simp [Rd.adv, h4]⟩)
   rw [ka2 h.blk (by simp [kc4])]; simp [kc4]
 · exact absurd hc h1
theorem RpAt.setTo {w : World} {b : Nat} {L : List Ex.Tok} {r : Rd} {lv : Value} {i : Nat} {c a : Int} (h : RpAt w b L r lv i c a) (hc : r.code = 0) {n : Nat} (hi : n <= L.length) :
 RdBy w (w.setCell ⟨b, 1, none⟩ (.int .i64 (n : Int))) b (Pg.Rd.to n r) := by
 have hst := h.st
 rcases hst with ⟨h1, h2, h3, h4⟩ | ⟨h1, _⟩
 · refine h.turn (i' := n) (c' := c) (a' := a) ?_ (by simp [World.setCell]) rfl rfl rfl (fun g hg => ke1 _ _ _ _ _ hg) hi (.inl ⟨h1, h2, h3, rfl⟩)
   rw [ka2 h.blk (by simp [kc4])]; simp [kc4]
 · exact absurd hc h1
theorem RpAt.setF {w : World} {b : Nat} {L : List Ex.Tok} {r : Rd} {lv : Value} {i : Nat} {c a : Int} (h : RpAt w b L r lv i c a) (hc : r.code = 0) (e x : Int) (he : e ≠ 0) :
 RdBy w ((w.setCell ⟨b, 2, none⟩ (.int .i64 e)).setCell ⟨b, 3, none⟩ (.int .i64 x)) b (Pg.Rd.stop e x r) := by
 have k1 := ka2 (v := .int .i64 e) h.blk (k := 2) (by simp [kc4])
 have k2 := ka2 (v := .int .i64 x) k1 (k := 3) (by simp [kc4])
 have hf : Pg.Rd.stop e x r = ⟨[], r.next, r.begun, e, x⟩ := by unfold Pg.Rd.stop; rw [if_pos hc]
 rw [hf]
 refine h.turn (i' := i) (c' := e) (a' := x) ?_ (by simp [World.setCell]) rfl rfl rfl (fun g hg => by rw [ke1 _ _ _ _ _ hg, ke1 _ _ _ _ _ hg]) h.ile (.inr ⟨he, rfl, rfl, rfl⟩)
 rw [k2]; simp [kc4]
theorem RdIn.fine {w : World} {b : Nat} {r : Rd} (h : RdIn w b r) : r.fine := fun hc => by
 obtain ⟨L, lv, i, c, a, h⟩ := h
 rcases h.st with ⟨h1, _⟩ | ⟨_, _, _, h4⟩
 · exact absurd h1 hc
 · exact h4
theorem RdIn.dead {w : World} {b : Nat} {r r' : Rd} (h : RdIn w b r) (h0 : r.code ≠ 0) (hc : r'.code = r.code) (ha : r'.at_ = r.at_) (hl : r'.l = []) : RdIn w b r' := by
 obtain ⟨L, lv, i, c, a, h⟩ := h
 refine ⟨L, lv, i, c, a, h.blk, h.tok, h.okl, h.txt, h.ile, ?_⟩
 rcases h.st with ⟨h1, _⟩ | ⟨_, h2, h3, _⟩
 · exact absurd h1 h0
 · exact .inr ⟨by rw [hc]; exact h0, by rw [hc]; exact h2, by rw [ha]; exact h3, hl⟩
theorem RpAt.below {w w' : World} {b : Nat} {L : List Ex.Tok} {r : Rd} {lv : Value} {i : Nat} {c a : Int} (h : RpAt w b L r lv i c a) (hb : Below w.heap.size w w') : RpAt w' b L r lv i c a :=
 h.keep hb.size (fun g _ hg => hb.block g hg) (hb.block b (lt_of_block h.blk))
theorem RdIn.drew {w : World} {b : Nat} {r : Rd} (h : RdIn w b r) : RdIn w.drew b r := h.keep (Nat.le_refl _) (fun _ _ _ => rfl) rfl
end Go.Proofs.YtlhcajhgbkgjbaaGreatDoor.Rp

/- Contracts of the small functions of the document's reader of programs. Conditions: a reader lies in memory. -/
namespace Go.Proofs.YtlhcajhgbkgjbaaGreatDoor.Rp
open Go.ChangeShapes Go.WideShapes Go.ChangeAt Go.RowKit
open Ex
open Tr (str ka1 ka6 Bytes Nd)
open Pg
set_option maxHeartbeats 800000 in
theorem kqb (b : Nat) (r : Rd) (w : World) (hr : RdIn w b r) : Calls Tryz.prog 47 #[.pointer (some ⟨b, 0, none⟩)] w (fun e w' => e = .returned (.bool (r.code == 0)) /\ w = w') := by
 obtain ⟨L, lv, i, c, a, hat⟩ := hr
 have c2 : w.cell? ⟨b, 2, none⟩ = some (.int .i64 c) := kaO hat.blk 2
 have HC : Hid ((r.code == 0) = (c == 0)) := Lib.hid (by
  rcases hat.st with ⟨h1, h2, _⟩ | ⟨h1, h2, _⟩
  · rw [h1, h2]
  · rw [h2])
 rw [HC.out]
 clear hat HC
 go_enter Tryz.func47, Tryz.ntmps47
 go_wp2
 go_ret
 exact ⟨rfl, rfl⟩
theorem kd5 {b : Nat} {r : Rd} {w : World} {B : Bool} (hr : RdIn w b r) (h : (r.code == 0) = B) : Calls Tryz.prog 47 #[.pointer (some ⟨b, 0, none⟩)] w (fun e w' => e = .returned (.bool B) /\ w = w') := by
 subst h; exact kqb b r w hr
theorem RdIn.drewN {w : World} {b : Nat} {r : Rd} (h : RdIn w b r) (n : Nat) : RdIn (w.drewN n) b r := h.keep (Nat.le_refl _) (fun _ _ _ => rfl) rfl
theorem ke4 {b : Nat} {r : Rd} {w : World} {B : Bool} (hr : RdIn w b r) (h : (r.code == 0) = B) : ∀ n, Calls Tryz.prog 47 #[.pointer (some ⟨b, 0, none⟩)] (w.drewN n) (fun e w' => e = .returned (.bool B) /\ w' = w.drewN n) :=
 fun n => (kd5 (hr.drewN n) h).mono fun _ _ k => ⟨k.1, k.2.symm⟩
set_option maxHeartbeats 1600000 in
theorem kfX (b : Nat) (r : Rd) (s : Bytes) (w : World) (hr : RdIn w b r) :
 Calls Tryz.prog 41 #[.pointer (some ⟨b, 0, none⟩), .string (str s)] w (fun e w' => e = .returned (.bool (r.isB s)) /\ Below w.heap.size w w') := by
 have HR := Lib.hid hr
 obtain ⟨L, lv, i, c, a, hat⟩ := hr
 obtain ⟨A, cc, rfl, h1, h2, hA⟩ := hat.tok
 unfold maxLen at h2
 have hlt := lt_of_block hat.blk
 have hL := hat.okl.len
 have c0 : w.cell? ⟨b, 0, none⟩ = some (.slice A L.length cc) := kaO hat.blk 0
 have c1 : w.cell? ⟨b, 1, none⟩ = some (.int .i64 (i : Int)) := kaO hat.blk 1
 have c2 : w.cell? ⟨b, 2, none⟩ = some (.int .i64 c) := kaO hat.blk 2
 have HA := Lib.hid hA
 have hile := hat.ile
 have hst := hat.st
 have hbn : b ≠ w.heap.size := by omega
 clear hA hat
 by_cases hc : c = 0
 · have hcd : (c == 0) = true := by simp [hc]
   obtain ⟨q1, q2, q3, q4⟩ : r.code = 0 /\ c = 0 /\ r.l = L /\ i = r.next := hst.resolve_right (fun h => h.1 (h.2.1 ▸ hc))
   have HOK : Hid (∀ n, Calls Tryz.prog 47 #[.pointer (some ⟨b, 0, none⟩)] (w.drewN n) (fun e w' => e = .returned (.bool true) /\ w' = w.drewN n)) := Lib.hid (ke4 HR.out (by rw [q1]; rfl))
   by_cases hl : i < L.length
   · obtain ⟨t, ht⟩ : ∃ t, L[i]? = some t := ⟨_, List.getElem?_eq_getElem hl⟩
     obtain ⟨g, rfl, _, hg, e0, e1, e2⟩ := HA.out _ t ht
     have hgn : g ≠ w.heap.size := by omega
     have d1 : decide ((L.length : Int) <= (i : Int)) = false := decide_eq_false (by omega)
     have d1' : decide (L.length <= i) = false := decide_eq_false (by omega)
     have HT : Hid (r.isB s = ((t.kind == 4 || t.kind == 3) && t.text == s)) := Lib.hid (by
      have : r.cur = t := by unfold Rd.cur; rw [q3, <- q4, ht]; rfl
      unfold Rd.isB Rd.ws; rw [this, q3, <- q4, Bool.or_comm]; simp [hl])
     rw [HT.out]
     clear ht hst q1 q2 q3 q4
     obtain ⟨K, T, P⟩ := t
     simp only at e0 e1 e2 ⊢
     have hts : ((str T).toList == (str s).toList) = (T == s) := by rw [Tr.str_toList, Tr.str_toList]
     clear HT hc
     rcases Bool.eq_false_or_eq_true (K == 4) with h4 | h4
     all_goals rcases Bool.eq_false_or_eq_true (K == 3) with h3 | h3
     all_goals rcases Bool.eq_false_or_eq_true (T == s) with h5 | h5
     all_goals
      rw [h4, h3, h5]
      rw [h5] at hts
      go_enter Tryz.func41, Tryz.ntmps41
      go_wp2
      go_quiet ((go_at_call 47; exact Calls.quiet_of_same (HOK.out _)))
      go_wp2
      obtain ⟨w0, hw0⟩ : ∃ w0, w.drewN nq = w0 := ⟨_, rfl⟩
      have c00 : w0.cell? ⟨b, 0, none⟩ = some (.slice (some ⟨g, 0, none⟩) L.length cc) := hw0 ▸ c0
      have c01 : w0.cell? ⟨b, 1, none⟩ = some (.int .i64 (i : Int)) := hw0 ▸ c1
      have e00 : w0.cell? ⟨g, i * 3, none⟩ = some (.int .i64 K) := hw0 ▸ e0
      have e01 : w0.cell? ⟨g, i * 3 + 1, none⟩ = some (.string (str T)) := hw0 ▸ e1
      have e02 : w0.cell? ⟨g, i * 3 + 2, none⟩ = some (.int .i64 (P : Int)) := hw0 ▸ e2
      have hz0 : w.heap.size = w0.heap.size := hw0 ▸ rfl
      have hlt0 : b < w0.heap.size := by omega
      have hg0 : g < w0.heap.size := by omega
      have hbn0 : b ≠ w0.heap.size := by omega
      have hgn0 : g ≠ w0.heap.size := by omega
      have HB0 : Hid (Below w.heap.size w w0) := Lib.hid (hw0 ▸ Tr.below_drewN (Below.refl _ _) nq)
      rw [hw0]
      clear hw0 c0 c1 c2 e0 e1 e2 hlt hg hbn hgn
      go_region
      go_wp2
      first
       | (go_ret; exact ⟨rfl, Tr.below_drewN (n := 1) (HB0.out.alloc HB0.out.size _)⟩)
       | (go_quiet (fail); go_wp2; go_ret; exact ⟨rfl, by repeat (first | exact HB0.out | refine Tr.below_drewN ?_ _ | refine Below.alloc ?_ HB0.out.size _)⟩)
   · have d1 : decide ((L.length : Int) <= (i : Int)) = true := decide_eq_true (by omega)
     have d1' : decide (L.length <= i) = true := decide_eq_true (by omega)
     have HT : Hid (r.isB s = false) := Lib.hid (by unfold Rd.isB Rd.ws; rw [q3, <- q4]; simp [hl])
     rw [HT.out]
     clear HT hst q1 q2 q3 q4 hc
     go_enter Tryz.func41, Tryz.ntmps41
     go_wp2
     go_quiet ((go_at_call 47; exact Calls.quiet_of_same (HOK.out _)))
     go_wp2
     go_ret
     exact ⟨rfl, Tr.below_drewN (Below.refl _ _) _⟩
 · obtain ⟨q1, q2, q3, q4⟩ := hst.resolve_left (fun h => hc h.2.1)
   have HOK : Hid (∀ n, Calls Tryz.prog 47 #[.pointer (some ⟨b, 0, none⟩)] (w.drewN n) (fun e w' => e = .returned (.bool false) /\ w' = w.drewN n)) := Lib.hid (ke4 HR.out (by simpa using q1))
   have HT : Hid (r.isB s = false) := Lib.hid (by unfold Rd.isB Rd.ws; rw [q4]; simp)
   rw [HT.out]
   clear HT hst q1 q2 q3 q4
   go_enter Tryz.func41, Tryz.ntmps41
   go_wp2
   go_quiet ((go_at_call 47; exact Calls.quiet_of_same (HOK.out _)))
   go_wp2
   go_ret
   exact ⟨rfl, Tr.below_drewN (Below.refl _ _) _⟩
theorem km4 {b : Nat} {r : Rd} {s : Bytes} {S : ByteArray} {B : Bool} {w : World} (hS : S = str s) (hr : RdIn w b r) (h : r.isB s = B) : Calls Tryz.prog 41 #[.pointer (some ⟨b, 0, none⟩), .string S] w (fun e w' => e = .returned (.bool B) /\ Below w.heap.size w w') := by
 subst hS; subst h; exact kfX b r s w hr
def kpX (w : World) (b : Nat) (B : Bool) (r' : Rd) (e : Ending) (w' : World) : Prop := e = .returned (.bool B) /\ RdBy w w' b r'
theorem keE {r : Rd} {s : Bytes} (h : r.isB s = true) : r.next < r.l.length := by
 unfold Rd.isB Rd.ws at h; simp at h; exact h.1.1
theorem RdIn.alive {w : World} {b : Nat} {r : Rd} (h : RdIn w b r) (hl : r.next < r.l.length) : r.code = 0 := by
 apply Classical.byContradiction; intro hc
 have := h.fine hc; rw [this] at hl; simp at hl
set_option maxHeartbeats 1600000 in
theorem kmN (b : Nat) (r : Rd) (s : Bytes) (w : World) (hr : RdIn w b r) :
 Calls Tryz.prog 46 #[.pointer (some ⟨b, 0, none⟩), .string (str s)] w (kpX w b (kau s r).1 (kau s r).2) := by
 have HR := Lib.hid hr
 have HC := Lib.hid (kfX b r s w hr)
 have hlt := hr.lt
 obtain ⟨B, hB⟩ : ∃ B, r.isB s = B := ⟨_, rfl⟩
 have HB := Lib.hid hB
 have HT := Lib.hid (show kau s r = if B then (true, r.adv) else (false, r) by unfold kau; rw [hB])
 rw [hB] at HC
 rw [HT.out]
 clear hr hB
 cases B with
 | false =>
  go_enter Tryz.func46, Tryz.ntmps46
  go_wp2_with fail
  refine HC.out.mono ?_
  rintro e w1 ⟨rfl, hb⟩
  have HBL := Lib.hid hb
  clear hb
  go_wp2
  go_ret
  exact ⟨rfl, RdBy.of_below HR.out HBL.out⟩
 | true =>
  have hil := keE HB.out
  have hc0 := HR.out.alive hil
  go_enter Tryz.func46, Tryz.ntmps46
  go_wp2_with fail
  refine HC.out.mono ?_
  rintro e w1 ⟨rfl, hb⟩
  have hr1 := HR.out.below hb
  have HBL := Lib.hid hb
  obtain ⟨L, lv, i, c, a, hat⟩ := hr1
  have HAT := Lib.hid hat
  have hL := hat.okl.len
  have hil2 : i < L.length := by
   rcases hat.st with ⟨_, _, h3, h4⟩ | ⟨h1, _⟩
   · rw [h4, <- h3]; exact hil
   · exact absurd hc0 h1
  have c1 : w1.cell? ⟨b, 1, none⟩ = some (.int .i64 (i : Int)) := kaO hat.blk 1
  have f1 : w1.frozen? ⟨b, 1, none⟩ = false := kcx hat.blk 1
  clear hb hat hil
  go_wp2
  go_ret
  exact ⟨rfl, RdBy.below HBL.out hlt (HAT.out.setI hc0 hil2)⟩
set_option maxHeartbeats 1600000 in
theorem keS (b : Nat) (r : Rd) (e : Int) (he : e ≠ 0) (w : World) (hr : RdIn w b r) : Calls Tryz.prog 48 #[.pointer (some ⟨b, 0, none⟩), .int .i64 e] w (fun x w' => x = .returned (.tuple #[]) /\ RdBy w w' b (r.fail e)) := by
 have HR := Lib.hid hr
 have hlt := hr.lt
 obtain ⟨L, lv, i, c, a, hat⟩ := hr
 have HAT := Lib.hid hat
 obtain ⟨A, cc, rfl, h1, h2, hA⟩ := hat.tok
 unfold maxLen at h2
 have HTK := Lib.hid hat.tok
 have hil := hat.ile
 have hL := hat.okl.len
 have c0 : w.cell? ⟨b, 0, none⟩ = some (.slice A L.length cc) := kaO hat.blk 0
 have c1 : w.cell? ⟨b, 1, none⟩ = some (.int .i64 (i : Int)) := kaO hat.blk 1
 have c2 : w.cell? ⟨b, 2, none⟩ = some (.int .i64 c) := kaO hat.blk 2
 have c3 : w.cell? ⟨b, 3, none⟩ = some (.int .i64 a) := kaO hat.blk 3
 have f2 : w.frozen? ⟨b, 2, none⟩ = false := kcx hat.blk 2
 have f3 : w.frozen? ⟨b, 3, none⟩ = false := kcx hat.blk 3
 clear hat hA
 by_cases h0 : r.code = 0
 · have HOK : Hid (Calls Tryz.prog 47 #[.pointer (some ⟨b, 0, none⟩)] w (fun e w' => e = .returned (.bool true) /\ w = w')) := Lib.hid (kd5 HR.out (by rw [h0]; rfl))
   have HE : Hid (RdBy w ((w.setCell ⟨b, 2, none⟩ (.int .i64 e)).setCell ⟨b, 3, none⟩ (.int .i64 (atM L i))) b (r.fail e)) := Lib.hid (by
    obtain ⟨q1, q2, q3, q4⟩ := HAT.out.st.resolve_right (fun h => h.1 h0)
    have hf : r.fail e = Pg.Rd.stop e (atM L i) r := by unfold Rd.fail Pg.Rd.stop; rw [if_pos q1, if_pos q1, q3, q4]
    rw [hf]
    exact HAT.out.setF h0 e _ he)
   clear h0
   go_enter Tryz.func48, Tryz.ntmps48
   go_wp2_with fail
   refine HOK.out.mono ?_
   rintro x w1 ⟨rfl, rfl⟩
   go_wp2
   go_region_with ((go_at_call 65; refine (Rf.rat_any _ L b _ _ (Rf.TokOff.drew HTK.out) (by omega)).mono ?_; rintro x w' ⟨rfl, rfl⟩))
   all_goals go_wp2
   all_goals go_end0
   all_goals exact ⟨rfl, HE.out.then_below (Tr.below_drewN (n := 1) (Below.refl _ _))⟩
 · have HOK : Hid (Calls Tryz.prog 47 #[.pointer (some ⟨b, 0, none⟩)] w (fun e w' => e = .returned (.bool false) /\ w = w')) := Lib.hid (kd5 HR.out (by simpa using h0))
   have HE : Hid (RdIn w b (r.fail e)) := Lib.hid (by
    have hf : r.fail e = ⟨[], r.next, r.begun, r.code, r.at_⟩ := by unfold Rd.fail; rw [if_neg h0]
    rw [hf]
    exact HR.out.dead h0 rfl rfl rfl)
   clear h0
   go_enter Tryz.func48, Tryz.ntmps48
   go_wp2_with fail
   refine HOK.out.mono ?_
   rintro x w1 ⟨rfl, rfl⟩
   go_wp2
   go_end0
   exact ⟨rfl, RdBy.refl HE.out⟩
theorem kac {b : Nat} {r : Rd} {s : Bytes} {S : ByteArray} {w : World} (hS : S = str s) (hr : RdIn w b r) {B : Bool} {r' : Rd} (h : kau s r = (B, r')) : Calls Tryz.prog 46 #[.pointer (some ⟨b, 0, none⟩), .string S] w (kpX w b B r') := by
 subst hS
 have := kmN b r s w hr
 rw [h] at this; exact this
set_option maxHeartbeats 800000 in
theorem knC (b : Nat) (r : Rd) (s : Bytes) (S : ByteArray) (hS : S = str s) (w : World) (hr : RdIn w b r) :
 Calls Tryz.prog 44 #[.pointer (some ⟨b, 0, none⟩), .string S] w (fun e w' => e = .returned (.tuple #[]) /\ RdBy w w' b (r.need s)) := by
 subst hS
 have HR := Lib.hid hr
 have HN := Lib.hid (show r.need s = if r.isB s then r.adv else r.fail 5 from rfl)
 rw [HN.out]
 obtain ⟨B, hB⟩ : ∃ B, r.isB s = B := ⟨_, rfl⟩
 have HC : Hid (Calls Tryz.prog 46 #[.pointer (some ⟨b, 0, none⟩), .string (str s)] w (kpX w b B (if B then r.adv else r))) := Lib.hid (kac rfl hr (by unfold kau; rw [hB]; cases B <;> rfl))
 rw [hB]
 clear hB hr HN
 cases B with
 | true =>
  go_enter Tryz.func44, Tryz.ntmps44
  go_wp2_with fail
  refine HC.out.mono ?_
  rintro e w1 ⟨rfl, hb⟩
  have HB := Lib.hid hb
  clear hb
  go_wp2
  go_end0
  exact ⟨rfl, HB.out⟩
 | false =>
  go_enter Tryz.func44, Tryz.ntmps44
  go_wp2_with fail
  refine HC.out.mono ?_
  rintro e w1 ⟨rfl, hb⟩
  have HB : Hid (RdBy w w1 b r) := Lib.hid hb
  clear hb
  go_wp2_with fail
  refine (keS b r 5 (by decide) _ HB.out.rd).mono ?_
  rintro e w2 ⟨rfl, ht⟩
  have HT := Lib.hid (HB.out.trans ht)
  clear ht
  go_wp2
  go_end0
  exact ⟨rfl, HT.out⟩
theorem kad {b : Nat} {r : Rd} {s : Bytes} {S : ByteArray} {w : World} (hS : S = str s) (hr : RdIn w b r) {r' : Rd} (h : (kaj s r).2 = r') : Calls Tryz.prog 44 #[.pointer (some ⟨b, 0, none⟩), .string S] w (fun e w' => e = .returned (.tuple #[]) /\ RdBy w w' b r') := by
 subst h; exact knC b r s S hS w hr
set_option maxHeartbeats 800000 in
theorem kfe (b : Nat) (r : Rd) (w : World) (hr : RdIn w b r) : Calls Tryz.prog 64 #[.pointer (some ⟨b, 0, none⟩)] w (fun e w' => e = .returned (.bool (kaP r)) /\ Below w.heap.size w w') := by
 have HR := Lib.hid hr
 obtain ⟨L, lv, i, c, a, hat⟩ := hr
 obtain ⟨A, cc, rfl, h1, h2, hA⟩ := hat.tok
 unfold maxLen at h2
 have hlt := lt_of_block hat.blk
 have hL := hat.okl.len
 have c0 : w.cell? ⟨b, 0, none⟩ = some (.slice A L.length cc) := kaO hat.blk 0
 have c1 : w.cell? ⟨b, 1, none⟩ = some (.int .i64 (i : Int)) := kaO hat.blk 1
 have HA := Lib.hid hA
 have hile := hat.ile
 have hst := hat.st
 clear hA hat
 by_cases hc : r.code = 0
 · obtain ⟨q1, q2, q3, q4⟩ : r.code = 0 /\ c = 0 /\ r.l = L /\ i = r.next := hst.resolve_right (fun h => h.1 hc)
   have HOK : Hid (∀ n, Calls Tryz.prog 47 #[.pointer (some ⟨b, 0, none⟩)] (w.drewN n) (fun e w' => e = .returned (.bool true) /\ w' = w.drewN n)) := Lib.hid (ke4 HR.out (by rw [q1]; rfl))
   by_cases hl : i < L.length
   · obtain ⟨t, ht⟩ : ∃ t, L[i]? = some t := ⟨_, List.getElem?_eq_getElem hl⟩
     obtain ⟨g, rfl, _, hg, e0, e1, e2⟩ := HA.out _ t ht
     have d1 : decide ((i : Int) < (L.length : Int)) = true := decide_eq_true (by omega)
     have d1' : decide (i < L.length) = true := decide_eq_true (by omega)
     have HT : Hid (kaP r = (t.kind == 1)) := Lib.hid (by
      have : r.cur = t := by unfold Rd.cur; rw [q3, <- q4, ht]; rfl
      unfold kaP; rw [this, q3, <- q4]; simp [hl])
     rw [HT.out]
     clear ht hst q1 q2 q3 q4 HT hc
     obtain ⟨K, T, P⟩ := t
     simp only at e0 e1 e2 ⊢
     rcases Bool.eq_false_or_eq_true (K == 1) with h4 | h4
     all_goals
      rw [h4]
      go_enter Tryz.func64, Tryz.ntmps64
      go_wp2
      go_quiet ((go_at_call 47; exact Calls.quiet_of_same (HOK.out _)))
      go_wp2
      go_ret
      exact ⟨rfl, by repeat (first | exact Below.refl _ _ | refine Tr.below_drewN ?_ _)⟩
   · have d1 : decide ((i : Int) < (L.length : Int)) = false := decide_eq_false (by omega)
     have d1' : decide (i < L.length) = false := decide_eq_false (by omega)
     have HT : Hid (kaP r = false) := Lib.hid (by unfold kaP; rw [q3, <- q4]; simp [hl])
     rw [HT.out]
     clear HT hst q1 q2 q3 q4 hc
     go_enter Tryz.func64, Tryz.ntmps64
     go_wp2
     go_quiet ((go_at_call 47; exact Calls.quiet_of_same (HOK.out _)))
     go_wp2
     go_ret
     exact ⟨rfl, by repeat (first | exact Below.refl _ _ | refine Tr.below_drewN ?_ _)⟩
 · obtain ⟨q1, q2, q3, q4⟩ := hst.resolve_left (fun h => hc h.1)
   have HOK : Hid (∀ n, Calls Tryz.prog 47 #[.pointer (some ⟨b, 0, none⟩)] (w.drewN n) (fun e w' => e = .returned (.bool false) /\ w' = w.drewN n)) := Lib.hid (ke4 HR.out (by simpa using q1))
   have HT : Hid (kaP r = false) := Lib.hid (by unfold kaP; rw [q4]; simp)
   rw [HT.out]
   clear HT hst q1 q2 q3 q4
   go_enter Tryz.func64, Tryz.ntmps64
   go_wp2
   go_quiet ((go_at_call 47; exact Calls.quiet_of_same (HOK.out _)))
   go_wp2
   go_ret
   exact ⟨rfl, Tr.below_drewN (Below.refl _ _) _⟩
theorem kfd {b : Nat} {r : Rd} {B : Bool} {w : World} (hr : RdIn w b r) (h : kaP r = B) : Calls Tryz.prog 64 #[.pointer (some ⟨b, 0, none⟩)] w (fun e w' => e = .returned (.bool B) /\ Below w.heap.size w w') := by
 subst h; exact kfe b r w hr
def StrG (w : World) (b : Nat) (x : Bytes × Rd) (e : Ending) (w' : World) : Prop := e = .returned (.string (str x.1)) /\ RdBy w w' b x.2
set_option maxHeartbeats 1600000 in
theorem knD (b : Nat) (r : Rd) (w : World) (hr : RdIn w b r) : Calls Tryz.prog 45 #[.pointer (some ⟨b, 0, none⟩)] w (StrG w b (kbz r)) := by
 have HR := Lib.hid hr
 have hlt := hr.lt
 obtain ⟨B, hB⟩ : ∃ B, kaP r = B := ⟨_, rfl⟩
 have HC := Lib.hid (kfd hr hB)
 have HT := Lib.hid (show kbz r = if B then (txt r, r.adv) else ([], r.fail 5) by unfold kbz; rw [hB])
 have HB := Lib.hid hB
 rw [HT.out]
 clear hr hB HT
 cases B with
 | false =>
  go_enter Tryz.func45, Tryz.ntmps45
  go_wp2_with fail
  refine HC.out.mono ?_
  rintro e w1 ⟨rfl, hb⟩
  have HBL := Lib.hid hb
  clear hb
  go_wp2_with fail
  refine (keS b r 5 (by decide) _ (HR.out.below HBL.out)).mono ?_
  rintro e w2 ⟨rfl, ht⟩
  have HT := Lib.hid (RdBy.below HBL.out hlt ht)
  clear ht
  go_wp2
  go_ret
  exact ⟨rfl, HT.out⟩
 | true =>
  have hil : r.next < r.l.length := by have := HB.out; unfold kaP at this; simp at this; exact this.1
  have hc0 := HR.out.alive hil
  go_enter Tryz.func45, Tryz.ntmps45
  go_wp2_with fail
  refine HC.out.mono ?_
  rintro e w1 ⟨rfl, hb⟩
  have hr1 := HR.out.below hb
  have HBL := Lib.hid hb
  obtain ⟨L, lv, i, c, a, hat⟩ := hr1
  have HAT := Lib.hid hat
  have hL := hat.okl.len
  obtain ⟨A, cc, rfl, h1, h2, hA⟩ := hat.tok
  unfold maxLen at h2
  obtain ⟨q1, q2, q3, q4⟩ := hat.st.resolve_right (fun h => h.1 hc0)
  have hil2 : i < L.length := by rw [q4, <- q3]; exact hil
  obtain ⟨t, ht⟩ : ∃ t, L[i]? = some t := ⟨_, List.getElem?_eq_getElem hil2⟩
  obtain ⟨g, rfl, _, hg, e0, e1, e2⟩ := hA _ t ht
  have hlt1 := lt_of_block hat.blk
  have hgb : g < b := by assumption
  have c0 : w1.cell? ⟨b, 0, none⟩ = some (.slice (some ⟨g, 0, none⟩) L.length cc) := kaO hat.blk 0
  have c1 : w1.cell? ⟨b, 1, none⟩ = some (.int .i64 (i : Int)) := kaO hat.blk 1
  have f1 : w1.frozen? ⟨b, 1, none⟩ = false := kcx hat.blk 1
  have hgn : g ≠ b := by omega
  have HX : Hid (txt r = t.text) := Lib.hid (by unfold txt Rd.cur; rw [q3, <- q4, ht]; rfl)
  have HE := Lib.hid (RdBy.below HBL.out hlt (HAT.out.setI hc0 hil2))
  clear hb hat hil ht q1 q2 q3 q4 hA
  obtain ⟨K, T, P⟩ := t
  simp only at e0 e1 e2 ⊢
  go_wp2
  repeat (first | (go_quiet (fail); go_wp2) | (go_region; go_wp2))
  all_goals go_ret
  all_goals exact ⟨(show Ending.returned (.string (str T)) = .returned (.string (str (txt r))) from by rw [HX.out]), HE.out.then_below (by repeat (first | exact Below.refl _ _ | refine Tr.below_drewN ?_ _ | with_reducible refine Below.alloc ?_ (by simp) _))⟩
theorem kbW {b : Nat} {r : Rd} {w : World} (hr : RdIn w b r) {n : Bytes} {r' : Rd} (h : kbz r = (n, r')) : Calls Tryz.prog 45 #[.pointer (some ⟨b, 0, none⟩)] w (fun e w' => e = .returned (.string (str n)) /\ RdBy w w' b r') := by
 have := knD b r w hr
 rw [h] at this; exact this
set_option maxHeartbeats 800000 in
theorem kn8 (b : Nat) (r : Rd) (n : Nat) (hn : n <= 1000000) (w : World) (hr : RdIn w b r) : Calls Tryz.prog 42 #[.pointer (some ⟨b, 0, none⟩), .int .i64 (n : Int)] w (fun e w' => e = .returned (.tuple #[]) /\ RdBy w w' b (kby n r).2) := by
 have HR := Lib.hid hr
 by_cases h : 200 <= n
 · have HT := Lib.hid (show (kby n r).2 = r.fail 7 by unfold kby; simp only; rw [if_pos h])
   rw [HT.out]
   have hd : decide ((200 : Int) <= (n : Int)) = true := decide_eq_true (by omega)
   have hd' : decide (200 <= n) = true := decide_eq_true h
   clear h HT hr
   go_enter Tryz.func42, Tryz.ntmps42
   go_wp2_with fail
   refine (keS b r 7 (by decide) _ HR.out).mono ?_
   rintro e w2 ⟨rfl, ht⟩
   have HT := Lib.hid ht
   clear ht
   go_wp2
   go_end0
   exact ⟨rfl, HT.out⟩
 · have HT := Lib.hid (show (kby n r).2 = r by unfold kby; simp only; rw [if_neg h])
   rw [HT.out]
   have hd : decide ((200 : Int) <= (n : Int)) = false := decide_eq_false (by omega)
   have hd' : decide (200 <= n) = false := decide_eq_false h
   clear h HT hr
   go_enter Tryz.func42, Tryz.ntmps42
   go_wp2
   go_end0
   exact ⟨rfl, RdBy.refl HR.out⟩
theorem kdo {b : Nat} {r : Rd} {n : Nat} (hn : n <= 1000000) {w : World} (hr : RdIn w b r) {r' : Rd} (h : (kby n r).2 = r') : Calls Tryz.prog 42 #[.pointer (some ⟨b, 0, none⟩), .int .i64 (n : Int)] w (fun e w' => e = .returned (.tuple #[]) /\ RdBy w w' b r') := by
 subst h; exact kn8 b r n hn w hr
end Go.Proofs.YtlhcajhgbkgjbaaGreatDoor.Rp


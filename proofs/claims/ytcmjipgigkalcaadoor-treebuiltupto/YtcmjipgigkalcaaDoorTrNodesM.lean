import Derived.Test.YtcmjipgigkalcaaDoorTrNode
import Derived.Test.YtcmjipgigkalcaaDoorTrVal
import Derived.Test.YtcmjipgigkalcaaDoorTrAwake
import Derived.Test.YtcmjipgigkalcaaDoorTrAlong
import Derived.Test.YtcmjipgigkalcaaDoorTrRefA
import Derived.Test.YtcmjipgigkalcaaDoorTrMath
import Derived.Test.YtcmjipgigkalcaaDoorTrRefT
import Derived.Test.YtcmjipgigkalcaaDoorTrDocC
import Derived.Test.YtcmjipgigkalcaaDoorTrGrow
/-
  WALKS over Node, Value, Print, Along where there is no such node; over Print of a node; the document's Along where there is none.
-/
namespace Go.Proofs.YtcmjipgigkalcaaDoor
open Go.RowKit Go.Shelf Go.Lib
set_option maxHeartbeats 1000000 in
theorem trNodeX (w : World) (B D n : Nat) (E : Nat → Tr.Ev Value) (L q cap nd : Nat) (h : Tr.TreeR w B D n E L q cap nd) (k : Int) (hk : k < 0 ∨ (nd : Int) ≤ k) :
    Calls Tryd.prog 12 #[.pointer (some ⟨D, 0, none⟩), .int .i64 k] w fun r w' => r = .returned (.tuple #[.agg #[.int .i64 0, .int .i64 0, .int .i64 0, .string ⟨#[]⟩, .slice none 0 0, .string ⟨#[]⟩, .int .i64 0, .int .i64 0], .int .i64 2]) ∧ Below w.heap.size w w' := by
  have hb1 : Below w.heap.size w (w.alloc (.cells #[.int .i64 0, .int .i64 0, .int .i64 0, .string ⟨#[]⟩, .slice none 0 0, .string ⟨#[]⟩, .int .i64 0, .int .i64 0] 39)) := (Below.refl _ _).alloc (Nat.le_refl _) _
  have c := trLacks _ B D n E L q cap nd (h.below hb1) k 0
  rw [if_pos hk] at c
  clear h hk hb1
  go_enter Tryd.func12, Tryd.ntmps12
  go_wp2_with fail
  refine c.mono ?_
  rintro e w1 ⟨rfl, rfl⟩
  clear c
  go_wp2_with fail
  refine bodyPost_ret (Tr.results_ct Tryd.results12 _ ⟨w.heap.size, 0, none⟩ rfl _ _ (Tr.load_box (heap_alloc_new w _) rfl)) rfl ?_
  exact ⟨rfl, (Below.refl _ _).alloc (Nat.le_refl _) _⟩
set_option maxHeartbeats 1000000 in
theorem trPrintX (w : World) (B D n : Nat) (E : Nat → Tr.Ev Value) (L q cap nd : Nat) (h : Tr.TreeR w B D n E L q cap nd) (k : Int) (hk : k < -1 ∨ (nd : Int) ≤ k) :
    Calls Tryd.prog 16 #[.pointer (some ⟨D, 0, none⟩), .int .i64 k] w fun r w' => r = .returned (.tuple #[.string ⟨#[]⟩, .int .i64 2]) ∧ Below w.heap.size w w' := by
  have c := trLacks w B D n E L q cap nd h k (-1)
  rw [if_pos hk] at c
  clear h hk
  go_enter Tryd.func16, Tryd.ntmps16
  go_wp2_with fail
  refine c.mono ?_
  rintro e w1 ⟨rfl, rfl⟩
  clear c
  go_wp2_with fail
  go_ret2
  exact ⟨rfl, Below.refl _ _⟩
set_option maxHeartbeats 2000000 in
theorem trValueX (w : World) (B D n : Nat) (E : Nat → Tr.Ev Value) (L q cap nd : Nat) (h : Tr.TreeR w B D n E L q cap nd) (k : Int) (hk : k < -1 ∨ (nd : Int) ≤ k) :
    Calls Tryd.prog 15 #[.pointer (some ⟨D, 0, none⟩), .int .i64 k] w fun r w' => r = .returned (.tuple #[.string ⟨#[]⟩, .int .i64 2]) ∧ Below w.heap.size w w' := by
  have hb1 : Below w.heap.size w (w.alloc (.cells #[.pointer (some ⟨D, 0, none⟩)] 25)) := (Below.refl _ _).alloc (Nat.le_refl _) _
  have c := trLacks _ B D n E L q cap nd (h.below hb1) k (-1)
  rw [if_pos hk] at c
  clear h hk hb1
  go_enter Tryd.func15, Tryd.ntmps15
  go_wp2_with fail
  refine c.mono ?_
  rintro e w1 ⟨rfl, rfl⟩
  clear c
  go_wp2_with fail
  go_ret2
  exact ⟨rfl, (Below.refl _ _).alloc (Nat.le_refl _) _⟩
namespace Tr
theorem keep4 {w w' : World} {a b c d : Addr} {x y z u : Value} (h : w.cell? a = some x ∧ w.cell? b = some y ∧ w.cell? c = some z ∧ w.cell? d = some u) (hb : Below w.heap.size w w') : w'.cell? a = some x ∧ w'.cell? b = some y ∧ w'.cell? c = some z ∧ w'.cell? d = some u :=
  ⟨(hb.cell (block_lt_of_cell h.1)).trans h.1, (hb.cell (block_lt_of_cell h.2.1)).trans h.2.1, (hb.cell (block_lt_of_cell h.2.2.1)).trans h.2.2.1, (hb.cell (block_lt_of_cell h.2.2.2)).trans h.2.2.2⟩
end Tr
set_option maxHeartbeats 4000000 in
theorem trPrintN (w : World) (B D n : Nat) (E : Nat → Tr.Ev Value) (L q cap nd : Nat) (h : Tr.TreeR w B D n E L q cap nd) (hs : ∀ i, i < n → Tr.Tiny (E i)) (hn : n ≤ 1048576) (j f z : Nat) (hj : j < nd) (hf : ((Tr.grun E n).nth j).fst = f) (hz : ((Tr.grun E n).nth j).fin = z) (hfz : f < z) (hzn : z ≤ n) (hl : (Tr.evsF E f (z - f)).length ≤ 70368744177664) :
    Calls Tryd.prog 16 #[.pointer (some ⟨D, 0, none⟩), .int .i64 (j : Nat)] w fun e w' => e = .returned (.tuple #[.string ⟨(Tr.evsF E f (z - f)).toArray⟩, .int .i64 0]) ∧ Below w.heap.size w w' := by
  have cL := trLacks w B D n E L q cap nd h (j : Nat) (-1)
  rw [if_neg (by omega)] at cL
  obtain ⟨b1, o1, cap1, e1, _, _, kc⟩ := h.evs.row.at (by omega)
  cases e1
  have hE : Tr.Evs w (.slice (some ⟨L, f * 8, none⟩) (z - f) (n - f)) (z - f) (fun i => E (f + i)) := by
    refine ⟨⟨_, n - f, rfl, by omega, by omega, (fun e => by cases e), fun _ => ⟨L, f * 8, rfl, fun i k u hi hu => ?_⟩⟩, fun i hi => h.evs.att (f + i) (by omega)⟩
    obtain ⟨p, c, e, _, _, _, c3⟩ := h.evs.row
    cases e
    obtain ⟨b, o, e2, c4⟩ := c3 (by omega)
    cases e2
    have := c4 (f + i) k u (by omega) hu
    rw [show 0 + (f + i) * 8 + k = f * 8 + i * 8 + k by omega] at this
    exact this
  have c0 := h.c0
  have c1 := h.c1
  obtain ⟨_, _, c2, c3⟩ := h.node hj
  rw [hf] at c2
  rw [hz] at c3
  have g1 : ¬ (j : Int) < 0 := by omega
  have g2 : (j : Int) < (nd : Int) := by omega
  have g3 : (f : Int) ≤ (z : Int) := by omega
  have g4 : (z : Int) ≤ (n : Int) := by omega
  have g5 : ¬ n = f := by omega
  have g6 : ¬ n - f = 0 := by omega
  have cP2 := trPrint _ (z - f) (fun i => E (f + i)) w.drew (hE.below (Below.refl _ _).drew (Nat.le_refl _)) (fun i hi => hs _ (by omega)) (by omega) hl
  have CP := hide' cP2
  have xx : w.drew.cell? ⟨D, 0, none⟩ = some (.slice (some ⟨L, 0, none⟩) n n) ∧ w.drew.cell? ⟨D, 1, none⟩ = some (.slice (some ⟨q, 0, none⟩) nd cap) ∧ w.drew.cell? ⟨q, j * 4 + 2, none⟩ = some (.int .i64 (f : Nat)) ∧ w.drew.cell? ⟨q, j * 4 + 3, none⟩ = some (.int .i64 (z : Nat)) := ⟨c0, c1, c2, c3⟩
  clear h hs hl cP2 hE kc hf hz hfz hzn hj
  go_enter Tryd.func16, Tryd.ntmps16
  go_wp2_with fail
  refine cL.mono ?_
  rintro e w1 ⟨rfl, rfl⟩
  clear cL
  go_wp2_with fail
  clear c0 c1 c2 c3
  go_region_held (fun w' => w'.cell? ⟨D, 0, none⟩ = some (.slice (some ⟨L, 0, none⟩) n n) ∧ w'.cell? ⟨D, 1, none⟩ = some (.slice (some ⟨q, 0, none⟩) nd cap) ∧ w'.cell? ⟨q, j * 4 + 2, none⟩ = some (.int .i64 (f : Nat)) ∧ w'.cell? ⟨q, j * 4 + 3, none⟩ = some (.int .i64 (z : Nat))) (first | (with_reducible exact xx) | (with_reducible exact zz)) (first | (go_at_call 34; refine CP.out.mono ?_; rintro r w2 ⟨rfl, hb2⟩; have zz := Tr.keep4 xx hb2))
  all_goals
    have HB := hide' ((Below.refl _ _).drew.trans hb2)
    clear hb2 xx zz CP
    go_wp2_with fail
    go_ret2
    exact ⟨rfl, HB.out⟩
set_option maxHeartbeats 2000000 in
theorem trAlongX (W : World) (B D n : Nat) (E : Nat → Tr.Ev Value) (L q cap nd : Nat) (h : Tr.TreeR W B D n E L q cap nd) (k ax : Int) (hk : k < -1 ∨ (nd : Int) ≤ k) :
    Calls Tryd.prog 31 #[.pointer (some ⟨D, 0, none⟩), .int .i64 k, .int .i64 ax] W fun e w' => e = .returned (.func (.func 55) #[] #[.pointer (some ⟨W.heap.size, 0, none⟩), .pointer (some ⟨W.heap.size + 1, 0, none⟩)]) ∧ w' = (W.alloc (.cells #[.int .i64 0] 3)).alloc (.cells #[.int .i64 0] 3) := by
  have cL := trLacks W B D n E L q cap nd h k (-1)
  rw [if_pos hk] at cL
  have cN := trNumbers 0 0 W
  clear hk h
  go_enter Tryd.func31, Tryd.ntmps31
  go_wp2_with fail
  refine cL.mono ?_
  rintro e w1 ⟨rfl, rfl⟩
  clear cL
  go_wp2_with fail
  refine cN.mono ?_
  rintro e w1 ⟨rfl, rfl⟩
  clear cN
  go_wp2_with fail
  go_ret
  exact ⟨rfl, rfl⟩
theorem trAlongXL (w : World) (B D n : Nat) (E : Nat → Tr.Ev Value) (L q cap nd : Nat) (h : Tr.TreeR w B D n E L q cap nd) (k ax : Int) (hk : k < -1 ∨ (nd : Int) ≤ k) :
    Calls Tryd.prog 20 #[.pointer (some ⟨D, 0, none⟩), .int .i64 k, .int .i64 ax] w fun e w' => Tr.AlE w [] e w' := by
  have hA1 : Below w.heap.size w (w.alloc (.cells #[.slice none 0 0] 52)) := (Below.refl _ _).alloc (Nat.le_refl _) _
  have cA := trAlongX (w.alloc (.cells #[.slice none 0 0] 52)) B D n E L q cap nd (h.below hA1) k ax hk
  obtain ⟨a, ha⟩ : ∃ a : Int, a = 0 := ⟨_, rfl⟩
  obtain ⟨b, hb⟩ : ∃ b : Int, b = 0 := ⟨_, rfl⟩
  have cA2 : Calls Tryd.prog 31 #[.pointer (some ⟨D, 0, none⟩), .int .i64 k, .int .i64 ax] (w.alloc (.cells #[.slice none 0 0] 52)) fun e w' => e = .returned (.func (.func 55) #[] #[.pointer (some ⟨(w.alloc (.cells #[.slice none 0 0] 52)).heap.size, 0, none⟩), .pointer (some ⟨(w.alloc (.cells #[.slice none 0 0] 52)).heap.size + 1, 0, none⟩)]) ∧ w' = ((w.alloc (.cells #[.slice none 0 0] 52)).alloc (.cells #[.int .i64 a] 3)).alloc (.cells #[.int .i64 b] 3) := by rw [ha, hb]; exact cA
  replace cA := cA2
  clear cA2
  rw [World.size_alloc] at cA
  obtain ⟨W0, hW0⟩ : ∃ W0, w.alloc (.cells #[.slice none 0 0] 52) = W0 := ⟨_, rfl⟩
  have hz0 : W0.heap.size = w.heap.size + 1 := by rw [← hW0]; simp
  rw [hW0] at cA
  obtain ⟨W1, hW1⟩ : ∃ W1, (W0.alloc (.cells #[.int .i64 a] 3)).alloc (.cells #[.int .i64 b] 3) = W1 := ⟨_, rfl⟩
  rw [hW1] at cA
  have hz1 : W1.heap.size = w.heap.size + 3 := by rw [← hW1]; simp; omega
  have hbl : Below (w.heap.size + 1) W0 W1 := by
    rw [← hW1]
    exact ((Below.refl _ _).alloc (by omega) _).alloc (by simp; omega) _
  have hbf : W1.cell? ⟨w.heap.size + 1, 0, none⟩ = some (.int .i64 a) := by
    rw [← hW1, ← hz0]
    rw [Lib.cell_of_heap ((Below.heap_alloc _ _ _ (by simp)).trans (World.alloc_heap_new W0 _))]
    rfl
  have hbe : W1.cell? ⟨w.heap.size + 1 + 1, 0, none⟩ = some (.int .i64 b) := by
    have h1 := World.alloc_heap_new (W0.alloc (.cells #[.int .i64 a] 3)) (.cells #[.int .i64 b] 3)
    rw [World.size_alloc, hz0] at h1
    rw [← hW1, Lib.cell_of_heap h1]
    rfl
  rw [← hW0] at cA hbl
  refine (trCollects (.pointer (some ⟨D, 0, none⟩)) k ax w W1 a b 55 #[.pointer (some ⟨w.heap.size + 1, 0, none⟩), .pointer (some ⟨w.heap.size + 1 + 1, 0, none⟩)] (enters_of Tryd.func55 (by kernel_rfl) rfl) cA hbl (Tr.Keep1 (w.heap.size + 1 + 1)) (fun ys => ys = Tr.numS a b) (fun pre => pre <+: Tr.numS a b) (Tr.numS a b).length (by rw [Tr.numS_length]; omega)
    (trNum_stops Fence.wide 5 trivial rfl (by omega) (w.heap.size + 1) (w.heap.size + 1 + 1) a b (by omega) (by omega) W1 hbf hbe) Tr.keep1_t (Tr.keep1_b (by omega)) (fun W W' hk => World.cell?_of_block (a := ⟨w.heap.size + 1 + 1, 0, none⟩) (hk (w.heap.size + 1 + 1) (by omega) (by omega)))).mono ?_
  rintro e w' ⟨v, ys, rfl, rfl, hI, hb'⟩
  refine ⟨v, rfl, Tr.io_of hI (by rw [Tr.vals_numS, ha, hb]; exact Tr.numL_nil (by omega)), hb'⟩
set_option maxHeartbeats 1000000 in
theorem refAlOut (v : Value) (m : Nat) (L : Nat → Tr.RN) (w : World) (k ax : Int) (h : Tr.NRow w v m L) (hk : k < -1 ∨ (m : Int) ≤ k) :
    Calls Tryd.prog 21 #[v, .int .i64 k, .int .i64 ax] w fun r w' => r = .returned (.slice none 0 0) ∧ Below w.heap.size w w' := by
  obtain ⟨p, cap, rfl, c1, c2, c3⟩ := h
  clear c3
  by_cases h1 : k < -1
  · clear hk
    go_enter Tryd.func21, Tryd.ntmps21
    go_wp2
    go_ret
    exact ⟨rfl, Below.refl _ _⟩
  · have h2 : k ≥ (m : Int) := by omega
    clear hk
    go_enter Tryd.func21, Tryd.ntmps21
    go_wp2
    go_ret
    exact ⟨rfl, Below.refl _ _⟩
end Go.Proofs.YtcmjipgigkalcaaDoor
/-
  The mathematics of the document's Along: the children are the nodes behind whose parent is the node.
-/
namespace Go.Proofs.YtcmjipgigkalcaaDoor
open Go.RowKit Go.Shelf Go.Lib
namespace Tr
theorem chL_filter {E : Nat → Ev Value} {n nd : Nat} (h : Shape E (grun E n) nd n) {k : Int} (h0 : -1 ≤ k) (hk : k < nd) :
    (numL (k + 1) (bh E n nd k)).filter (fun x => decide (((grun E n).nth x.toNat).par = k)) = chL E n nd k := by
  rw [← chL_flat h h0 hk]
  have hb2 := (bh_up h h0 hk).2
  have key : ∀ l : List Int, (∀ c ∈ l, ((grun E n).nth c.toNat).par = k ∧ k + 1 ≤ c ∧ c < bh E n nd k) →
      (l.flatMap (fun c => c :: numL (c + 1) (bh E n nd c))).filter (fun x => decide (((grun E n).nth x.toNat).par = k)) = l := by
    intro l
    induction l with
    | nil => intro _; rfl
    | cons c l ih =>
      intro hl
      obtain ⟨h1, h2, h3⟩ := hl c (List.mem_cons_self ..)
      have ec : bh E n nd c = ((grun E n).nth c.toNat).beh := by unfold bh; rw [if_neg (by omega)]
      have hz : (numL (c + 1) (bh E n nd c)).filter (fun x => decide (((grun E n).nth x.toNat).par = k)) = [] := by
        rw [List.filter_eq_nil_iff]
        intro x hx
        obtain ⟨a1, a2⟩ := numL_mem.1 hx
        rw [ec] at a2
        have := (h.within (p := c.toNat) (m := x.toNat) (by omega) (by omega) (by omega)).2
        simp
        omega
      rw [List.flatMap_cons, List.cons_append, List.filter_cons_of_pos (by simpa using h1), List.filter_append, hz, List.nil_append, ih (fun c' hc' => hl c' (List.mem_cons_of_mem _ hc'))]
  exact key _ (fun c hc => ⟨chL_par h h0 hk c hc, chL_mem hc⟩)
end Tr
end Go.Proofs.YtcmjipgigkalcaaDoor
/-
  MATHEMATICS of the document's nodes (layer 9): what its Nodes collects is what grow's nodes say.
-/
namespace Go.Proofs.YtcmjipgigkalcaaDoor
namespace Tr
variable {V : Type}
/-- a node as the document's Nodes has it, but for its event -/
structure NR where
  par : Int
  last : Int
  at_ : Int
  clo : Int
  val : List UInt8
  deriving Inhabited
structure Rs where
  L : Nat → NR
  nd : Nat
  op : List Nat
/-- an element's last node and its text, behind one node more -/
def rput (m : Nat) (tx : List UInt8) (x : NR) : NR := { x with last := m, val := x.val ++ tx }
def ropen (op : List Nat) (m : Nat) (tx : List UInt8) (L : Nat → NR) (j : Nat) : NR := if j ∈ op then rput m tx (L j) else L j
def rtop (op : List Nat) : Int := match op.getLast? with | none => -1 | some p => (p : Int)
def rnew (E : Nat → Ev V) (s : Rs) (i : Nat) : NR := ⟨rtop s.op, s.nd, i, -1, (E i).tx.data.toList⟩
def rstep (E : Nat → Ev V) (s : Rs) (i : Nat) : Rs :=
  if (E i).kind = 2 then ⟨fun j => if j = (E i).num.toNat then { s.L j with clo := i } else s.L j, s.nd, s.op.dropLast⟩
  else if (E i).kind = 0 then ⟨fun j => if j = s.nd then rnew E s i else ropen s.op s.nd (E i).tx.data.toList s.L j, s.nd + 1, s.op ++ [s.nd]⟩
  else ⟨fun j => if j = s.nd then { rnew E s i with clo := i } else ropen s.op s.nd (E i).tx.data.toList s.L j, s.nd + 1, s.op⟩
def rrun (E : Nat → Ev V) : Nat → Rs
  | 0 => ⟨fun _ => default, 0, []⟩
  | i + 1 => rstep E (rrun E i) i
/-- the text of nodes a .. b - 1, where f says where a node's event stands -/
def txs (E : Nat → Ev V) (f : Nat → Nat) (a b : Nat) : List UInt8 := (List.range' a (b - a)).flatMap fun k => (E (f k)).tx.data.toList
theorem txs_more (E : Nat → Ev V) (f : Nat → Nat) {a b : Nat} (h : a ≤ b) : txs E f a (b + 1) = txs E f a b ++ (E (f b)).tx.data.toList := by
  unfold txs
  rw [show b + 1 - a = (b - a) + 1 by omega, List.range'_concat, List.flatMap_append]
  simp [show a + (b - a) = b by omega]
theorem txs_congr {E : Nat → Ev V} {f g : Nat → Nat} {a b : Nat} (h : ∀ k, a ≤ k → k < b → f k = g k) : txs E f a b = txs E g a b := by
  unfold txs
  simp only [List.flatMap]
  congr 1
  refine List.map_congr_left fun k hk => ?_
  rw [List.mem_range'_1] at hk
  rw [h k hk.1 (by omega)]
theorem txs_one (E : Nat → Ev V) (f : Nat → Nat) (a : Nat) : txs E f a (a + 1) = (E (f a)).tx.data.toList := by
  unfold txs
  simp [show a + 1 - a = 1 by omega]
def fa (g : Gs) (k : Nat) : Nat := (g.nth k).fst.toNat
/-- what holds between the two -/
structure RI (E : Nat → Ev V) (s : Ds) (g : Gs) (r : Rs) : Prop where
  nd : r.nd = s.nd
  op : r.op = s.op.map fun o => (E o).num.toNat
  par : ∀ m, m < s.nd → (r.L m).par = (g.nth m).par ∧ (r.L m).at_ = (g.nth m).fst
  opn : ∀ m, m ∈ r.op → (r.L m).clo = -1 ∧ (r.L m).last = (s.nd : Int) - 1 ∧ (r.L m).val = txs E (fa g) m s.nd
  cls : ∀ m, m < s.nd → m ∉ r.op → (r.L m).clo = (g.nth m).fin - 1 ∧ (r.L m).last = (g.nth m).beh - 1 ∧ (r.L m).val = txs E (fa g) m (g.nth m).beh.toNat
theorem RI.start (E : Nat → Ev V) : RI E ⟨[], 0⟩ ⟨[], -1⟩ ⟨fun _ => default, 0, []⟩ :=
  ⟨rfl, rfl, fun m h => absurd h (Nat.not_lt_zero m), (fun _ h => nomatch h), fun m h => absurd h (Nat.not_lt_zero m)⟩
/-- the number of an open element -/
theorem GI.num {E : Nat → Ev V} {s : Ds} {g : Gs} {i : Nat} (h : GI E s g i) {k o : Nat} (e : s.op[k]? = some o) : ((E o).num.toNat : Int) = (E o).num ∧ (E o).num.toNat < s.nd ∧ dp E g (E o).num.toNat = k + 1 := by
  obtain ⟨m, h1, h2, _, _, _, h3, _⟩ := h.opn k o e
  rw [h1]
  exact ⟨rfl, by simpa using h2, by simpa using h3⟩
theorem RI.get {E : Nat → Ev V} {s : Ds} {g : Gs} {r : Rs} (h : RI E s g r) (k : Nat) : r.op[k]? = s.op[k]?.map fun o => (E o).num.toNat := by rw [h.op, List.getElem?_map]
theorem RI.dpk {E : Nat → Ev V} {s : Ds} {g : Gs} {r : Rs} {i : Nat} (h : RI E s g r) (hg : GI E s g i) {k m : Nat} (e : r.op[k]? = some m) : m < s.nd ∧ dp E g m = k + 1 ∧ ∃ o, s.op[k]? = some o ∧ (E o).num = m := by
  rw [h.get] at e
  rcases ho : s.op[k]? with _ | o
  · rw [ho] at e; cases e
  · rw [ho] at e
    obtain rfl : (E o).num.toNat = m := by simpa using e
    have := hg.num ho
    exact ⟨this.2.1, this.2.2, o, rfl, this.1.symm⟩
theorem RI.inj {E : Nat → Ev V} {s : Ds} {g : Gs} {r : Rs} {i : Nat} (h : RI E s g r) (hg : GI E s g i) {k k' m : Nat} (e : r.op[k]? = some m) (e' : r.op[k']? = some m) : k = k' := by
  have := (h.dpk hg e).2.1
  have := (h.dpk hg e').2.1
  omega
theorem RI.lt {E : Nat → Ev V} {s : Ds} {g : Gs} {r : Rs} {i : Nat} (h : RI E s g r) (hg : GI E s g i) {m : Nat} (hm : m ∈ r.op) : m < s.nd := by
  obtain ⟨k, e⟩ := List.mem_iff_getElem?.1 hm
  exact (h.dpk hg e).1
theorem RI.top {E : Nat → Ev V} {s : Ds} {g : Gs} {r : Rs} {i : Nat} (h : RI E s g r) (hg : GI E s g i) : rtop r.op = g.last := by
  unfold rtop
  rw [hg.top, h.op, List.getLast?_map]
  rcases ho : s.op.getLast? with _ | o
  · rfl
  · rw [List.getLast?_eq_getElem?] at ho
    exact (hg.num ho).1
/-- a node more -/
theorem RI.node {E : Nat → Ev V} {s : Ds} {g : Gs} {r : Rs} {i : Nat} (h : RI E s g r) (hg : GI E s g i) (d : Nd) (l : Int) (hd : d.par = g.last) (hf : d.fst = i) (x : NR) (hx : x.par = rtop r.op ∧ x.at_ = i) :
    let g' : Gs := ⟨g.ns ++ [d], l⟩
    let L' : Nat → NR := fun j => if j = r.nd then x else ropen r.op r.nd (E i).tx.data.toList r.L j
    (∀ m, m < s.nd + 1 → (L' m).par = (g'.nth m).par ∧ (L' m).at_ = (g'.nth m).fst) ∧ (∀ m, m < s.nd → g'.nth m = g.nth m) ∧ g'.nth s.nd = d ∧
    (∀ m, m ∈ r.op → (L' m).clo = -1 ∧ (L' m).last = ((s.nd + 1 : Nat) : Int) - 1 ∧ (L' m).val = txs E (fa g') m (s.nd + 1)) ∧
    (∀ m, m < s.nd → m ∉ r.op → (L' m).clo = (g'.nth m).fin - 1 ∧ (L' m).last = (g'.nth m).beh - 1 ∧ (L' m).val = txs E (fa g') m (g'.nth m).beh.toNat) := by
  intro g' L'
  have e1 : ∀ m, m < s.nd → g'.nth m = g.nth m := fun m hm => nth_app _ _ _ _ (by rw [hg.len]; exact hm)
  have e2 : g'.nth s.nd = d := by rw [← hg.len]; exact nth_new _ _ _
  have ef : ∀ k, k < s.nd → fa g' k = fa g k := fun k hk => by unfold fa; rw [e1 k hk]
  have en : fa g' s.nd = i := by unfold fa; rw [e2, hf]; simp
  have eL : ∀ m, m ≠ s.nd → L' m = ropen r.op r.nd (E i).tx.data.toList r.L m := fun m hm => if_neg (by rw [h.nd]; exact hm)
  refine ⟨fun m hm => ?_, e1, e2, fun m hm => ?_, fun m hm hn => ?_⟩
  · by_cases c : m = s.nd
    · subst c
      have : L' s.nd = x := if_pos h.nd.symm
      rw [this, e2, hx.1, hx.2, hd, hf, h.top hg]
      exact ⟨rfl, rfl⟩
    · rw [eL m c, e1 m (by omega)]
      have := h.par m (by omega)
      unfold ropen
      split
      · exact this
      · exact this
  · have hl := h.lt hg hm
    obtain ⟨a1, a2, a3⟩ := h.opn m hm
    rw [eL m (by omega)]
    unfold ropen
    rw [if_pos hm]
    refine ⟨a1, by show ((r.nd : Nat) : Int) = _; rw [h.nd]; omega, ?_⟩
    show (r.L m).val ++ _ = _
    rw [txs_more E _ (by omega), en, a3, txs_congr (f := fa g') (g := fa g) fun k _ hk => ef k hk]
  · obtain ⟨a1, a2, a3⟩ := h.cls m hm hn
    rw [eL m (by omega), e1 m hm]
    unfold ropen
    rw [if_neg hn]
    refine ⟨a1, a2, a3.trans (txs_congr fun k _ hk => (ef k ?_).symm)⟩
    rcases hg.beh m hm with ⟨k', o, b1, b2⟩ | ⟨b, z, b1, _, _, _, _, b2, _⟩
    · have := hg.num b1
      exact absurd (by rw [h.op]; exact List.mem_map.2 ⟨o, List.mem_of_getElem? b1, by omega⟩) hn
    · rw [b1] at hk
      simp at hk
      omega
theorem RI.step {ok : Ev V → Bool} {E : Nat → Ev V} {s s' : Ds} {g : Gs} {r : Rs} {i : Nat} (h : RI E s g r) (hg : GI E s g i) (hs : dstep ok E s i = some s') : RI E s' (gstep E g i) (rstep E r i) := by
  unfold dstep at hs
  split at hs
  · cases hs
  next h0 =>
  split at hs
  · next hk =>
    split at hs
    · next hc =>
      cases hs
      unfold gstep rstep
      rw [if_pos hk, if_neg (by omega), if_pos hk]
      obtain ⟨p1, p2, p3, p4, p5⟩ := h.node hg ⟨g.last, 0, i, 0⟩ (E i).num rfl rfl (rnew E r i) ⟨rfl, rfl⟩
      refine ⟨by rw [h.nd], ?_, p1, fun m hm => ?_, fun m hm hn => ?_⟩
      · show r.op ++ [r.nd] = _
        rw [List.map_append, h.op, h.nd]
        simp [hc.1]
      · rcases List.mem_append.1 hm with c | c
        · exact p4 m c
        · obtain rfl : m = r.nd := by simpa using c
          dsimp only
          rw [if_pos rfl]
          refine ⟨rfl, by show ((r.nd : Nat) : Int) = _; rw [h.nd]; omega, ?_⟩
          show (E i).tx.data.toList = _
          rw [h.nd, txs_one]
          unfold fa
          rw [p3]
          simp
      · dsimp only at hm
        have hn1 : m ∉ r.op := fun c => hn (List.mem_append_left _ c)
        have hn2 : m ≠ r.nd := fun c => hn (List.mem_append_right _ (by simp [c]))
        exact p5 m (by rw [h.nd] at hn2; omega) hn1
    · cases hs
  next hk0 =>
  split at hs
  · next hk =>
    split at hs
    · next hc =>
      cases hs
      unfold gstep rstep
      rw [if_neg hk0, if_pos hk, if_neg (by omega), if_neg hk0]
      obtain ⟨p1, p2, p3, p4, p5⟩ := h.node hg ⟨g.last, (E i).num + 1, i, i + 1⟩ g.last rfl rfl { rnew E r i with clo := i } ⟨rfl, rfl⟩
      refine ⟨by rw [h.nd], h.op, p1, p4, fun m hm hn => ?_⟩
      dsimp only at hm
      by_cases c : m = s.nd
      · subst c
        rw [p3]
        dsimp only
        rw [if_pos h.nd.symm]
        refine ⟨by show (i : Int) = (i : Int) + 1 - 1; omega, by show ((r.nd : Nat) : Int) = (E i).num + 1 - 1; rw [h.nd, hc.2.2.1]; omega, ?_⟩
        show (E i).tx.data.toList = _
        rw [show ((E i).num + 1).toNat = s.nd + 1 by rw [hc.2.2.1]; omega, txs_one]
        unfold fa
        rw [p3]
        simp
      · exact p5 m (by omega) hn
    · cases hs
  next hk1 =>
  split at hs
  · next hk =>
    split at hs
    · cases hs
    next o ho =>
    split at hs
    · next hc =>
      cases hs
      unfold gstep rstep
      rw [if_neg hk0, if_neg hk1, if_pos hk]
      obtain ⟨m, c1, c2, c3, c4⟩ := hg.close ho
      have hnum : (E i).num = m := by
        unfold closes at hc
        simp at hc
        rw [hc.1]
        exact c3
      have hlen := hg.len
      have e1 : ((⟨g.ns.set g.last.toNat ⟨(g.ns[g.last.toNat]?.getD default).par, g.ns.length, (g.ns[g.last.toNat]?.getD default).fst, i + 1⟩, (g.ns[g.last.toNat]?.getD default).par⟩ : Gs)) = ⟨g.ns.set m ⟨(g.nth m).par, g.ns.length, (g.nth m).fst, i + 1⟩, (g.nth m).par⟩ := by rw [c1]; rfl
      rw [e1]
      obtain ⟨g', hg'⟩ : ∃ g' : Gs, g' = ⟨g.ns.set m ⟨(g.nth m).par, g.ns.length, (g.nth m).fst, i + 1⟩, (g.nth m).par⟩ := ⟨_, rfl⟩
      rw [← hg']
      have n1 : g'.nth m = ⟨(g.nth m).par, g.ns.length, (g.nth m).fst, i + 1⟩ := by rw [hg']; simp [Gs.nth, hlen, c2]
      have n2 : ∀ x, x ≠ m → g'.nth x = g.nth x := fun x hx => by rw [hg']; simp [Gs.nth, List.getElem?_set_ne (Ne.symm hx)]
      have nf : ∀ x, (g'.nth x).fst = (g.nth x).fst ∧ (g'.nth x).par = (g.nth x).par := fun x => by
        by_cases e : x = m
        · subst e; rw [n1]; exact ⟨rfl, rfl⟩
        · rw [n2 x e]; exact ⟨rfl, rfl⟩
      have ef : fa g' = fa g := by funext k; unfold fa; rw [(nf k).1]
      have hop : r.op.dropLast = s.op.dropLast.map fun o => (E o).num.toNat := by rw [h.op, List.map_dropLast]
      rw [List.getLast?_eq_getElem?] at ho
      have htop : r.op[s.op.length - 1]? = some m := by rw [h.get, ho]; simp [c3]
      have hrl : r.op.length = s.op.length := by rw [h.op, List.length_map]
      have hmem : ∀ x, x ∈ r.op.dropLast → x ∈ r.op ∧ x ≠ m := fun x hx => by
        obtain ⟨k, hk'⟩ := List.mem_iff_getElem?.1 hx
        rw [List.getElem?_dropLast] at hk'
        split at hk'
        · next hlt =>
          refine ⟨List.mem_of_getElem? hk', fun e => ?_⟩
          subst e
          have := h.inj hg hk' htop
          omega
        · cases hk'
      have hmem2 : ∀ x, x ∈ r.op → x ≠ m → x ∈ r.op.dropLast := fun x hx hne => by
        obtain ⟨k, hk'⟩ := List.mem_iff_getElem?.1 hx
        have hkl := (List.getElem?_eq_some_iff.1 hk').1
        refine List.mem_of_getElem? (i := k) ?_
        rw [List.getElem?_dropLast, if_pos ?_]
        · exact hk'
        · rcases Nat.lt_or_ge k (r.op.length - 1) with c | c
          · exact c
          · have : k = s.op.length - 1 := by omega
            subst this
            rw [htop] at hk'
            exact absurd (Option.some.inj hk').symm hne
      have hL : ∀ x, x ≠ m → (if x = (E i).num.toNat then { r.L x with clo := (i : Int) } else r.L x) = r.L x := fun x hx => if_neg (by rw [hnum]; simpa using hx)
      have hM : (if m = (E i).num.toNat then { r.L m with clo := (i : Int) } else r.L m) = { r.L m with clo := (i : Int) } := if_pos (by rw [hnum]; simp)
      refine ⟨h.nd, hop, fun x hx => ?_, fun x hx => ?_, fun x hx hn => ?_⟩
      · dsimp only at hx ⊢
        rw [(nf x).1, (nf x).2]
        have := h.par x hx
        by_cases e : x = m
        · subst e; rw [hM]; exact this
        · rw [hL x e]; exact this
      · obtain ⟨a1, a2⟩ := hmem x hx
        dsimp only
        rw [hL x a2, ef]
        exact h.opn x a1
      · dsimp only at hx ⊢
        rw [ef]
        by_cases e : x = m
        · subst e
          rw [hM, n1]
          obtain ⟨b1, b2, b3⟩ := h.opn x (List.mem_of_getElem? htop)
          refine ⟨by show (i : Int) = (i : Int) + 1 - 1; omega, by show (r.L x).last = ((g.ns.length : Nat) : Int) - 1; rw [b2, hlen], ?_⟩
          show (r.L x).val = txs E (fa g) x ((g.ns.length : Nat) : Int).toNat
          rw [b3, hlen, Int.toNat_natCast]
        · rw [hL x e, n2 x e]
          exact h.cls x hx fun c => hn (hmem2 x c e)
    · cases hs
  · cases hs
theorem rrun_inv {ok : Ev V → Bool} {E : Nat → Ev V} : ∀ (i : Nat) (s : Ds), drun ok E i = some s → RI E s (grun E i) (rrun E i)
  | 0, s, h => by cases h; exact RI.start E
  | i + 1, s, h => by
    unfold drun at h
    split at h
    · cases h
    · next s0 h0 => exact (rrun_inv i s0 h0).step (grun_inv i s0 h0) h
/-- at the end -/
theorem rrun_doc {ok : Ev V → Bool} {E : Nat → Ev V} {n : Nat} (h : doc ok E n = true) : ∃ nd, Shape E (grun E n) nd n ∧ (rrun E n).nd = nd ∧ ∀ m, m < nd → ((rrun E n).L m).par = ((grun E n).nth m).par ∧ ((rrun E n).L m).at_ = ((grun E n).nth m).fst ∧ ((rrun E n).L m).clo = ((grun E n).nth m).fin - 1 ∧ ((rrun E n).L m).last = ((grun E n).nth m).beh - 1 ∧ ((rrun E n).L m).val = txs E (fa (grun E n)) m ((grun E n).nth m).beh.toNat := by
  obtain ⟨nd, h1, h2⟩ := doc_shape h
  have r := rrun_inv n _ h1
  refine ⟨nd, h2, r.nd, fun m hm => ?_⟩
  have a := r.par m hm
  have b := r.cls m hm (by rw [r.op]; simp)
  exact ⟨a.1, a.2, b.1, b.2.1, b.2.2⟩
end Tr
end Go.Proofs.YtcmjipgigkalcaaDoor
/-
  The document's nodes of layer 9, as they are collected: the row's cells.
-/
namespace Go.Proofs.YtcmjipgigkalcaaDoor
open Go.RowKit Go.Shelf Go.Lib
namespace Tr
/-- a node with its event -/
def rnd (E : Nat → Ev Value) (x : NR) : RN := ⟨E x.at_.toNat, x.par, x.last, x.at_, x.clo, ⟨x.val.toArray⟩⟩
def rcs (E : Nat → Ev Value) (L : Nat → NR) (nd : Nat) : List Value := (List.range nd).flatMap fun j => (rnd E (L j)).cs.toList
theorem rcs_snoc (E : Nat → Ev Value) (L : Nat → NR) (nd : Nat) : rcs E L (nd + 1) = rcs E L nd ++ (rnd E (L nd)).cs.toList := by
  unfold rcs
  rw [List.range_succ, List.flatMap_append]
  simp
theorem rcs_length (E : Nat → Ev Value) (L : Nat → NR) : ∀ nd, (rcs E L nd).length = nd * 13
  | 0 => rfl
  | nd + 1 => by
    rw [rcs_snoc, List.length_append, rcs_length E L nd]
    show _ + 13 = _
    omega
theorem rcs_get (E : Nat → Ev Value) (L : Nat → NR) : ∀ nd j k, j < nd → k < 13 → (rcs E L nd)[j * 13 + k]? = (rnd E (L j)).cs[k]?
  | 0, j, k, h, _ => absurd h (Nat.not_lt_zero _)
  | nd + 1, j, k, h, hk => by
    rw [rcs_snoc]
    by_cases c : j < nd
    · rw [List.getElem?_append_left (by rw [rcs_length]; omega)]
      exact rcs_get E L nd j k c hk
    · obtain rfl : j = nd := by omega
      rw [List.getElem?_append_right (by rw [rcs_length]; omega), rcs_length, show j * 13 + k - j * 13 = k by omega, Array.getElem?_toList]
theorem rcs_congr {E : Nat → Ev Value} {L L' : Nat → NR} : ∀ nd, (∀ j, j < nd → L j = L' j) → rcs E L nd = rcs E L' nd
  | 0, _ => rfl
  | nd + 1, h => by
    rw [rcs_snoc, rcs_snoc, rcs_congr nd fun j hj => h j (by omega), h nd (by omega)]
theorem rcs_set {E : Nat → Ev Value} {L : Nat → NR} {p k : Nat} {u : Value} {x : NR} (hk : k < 13) (h : (rnd E (L p)).cs.toList.set k u = (rnd E x).cs.toList) : ∀ nd, p < nd → (rcs E L nd).set (p * 13 + k) u = rcs E (fun j => if j = p then x else L j) nd
  | 0, hp => absurd hp (Nat.not_lt_zero _)
  | nd + 1, hp => by
    rw [rcs_snoc, rcs_snoc]
    by_cases c : p < nd
    · rw [List.set_append_left _ _ (by rw [rcs_length]; omega), rcs_set hk h nd c, if_neg (by omega)]
    · obtain rfl : p = nd := by omega
      rw [List.set_append_right _ _ (by rw [rcs_length]; omega), rcs_length, show p * 13 + k - p * 13 = k by omega, h, if_pos rfl]
      congr 1
      exact rcs_congr _ fun j hj => by rw [if_neg (by omega)]
theorem rn_one (x : RN) (h : x.ev.av.oneCell' = true) : ∀ u ∈ x.cs.toList, u.oneCell' = true := by
  intro u hu
  simp [RN.cs] at hu
  rcases hu with rfl | rfl | rfl | rfl | rfl | rfl | rfl | rfl | rfl | rfl | rfl | rfl | rfl <;> first | rfl | exact h
/-- the row, as a row of nodes -/
theorem NRow.of {W : World} {B t : Nat} {v : Value} {nd : Nat} {E : Nat → Ev Value} {L : Nat → NR} (h : W.ownsRow B t 13 v nd (rcs E L nd)) : NRow W v nd (fun j => rnd E (L j)) := by
  obtain ⟨p, cap, rfl, h1, h2, h3, _⟩ := owns_sl h
  refine ⟨p, cap, rfl, h1, h2, fun h0 => ?_⟩
  obtain ⟨g, rfl⟩ := h3 h0
  refine ⟨g, 0, rfl, fun i j u hi hu => ?_⟩
  have hj : j < 13 := (Array.getElem?_eq_some_iff.1 hu).1
  have := h.cells (g := g) rfl (i * 13 + j) u (by rw [rcs_get E L nd i j hi hj]; exact hu)
  rw [Go.WideShapes.add_plain] at this
  rw [Nat.zero_add] at this
  rw [Nat.zero_add]
  exact this
theorem rnInfo : (Tryd.prog.info? 46).map (fun i => (i.zero, i.size, i.bytes)) = some (some (.agg (ev0 ++ #[.int .i64 0, .int .i64 0, .int .i64 0, .int .i64 0, .string ⟨#[]⟩])), 13, 144) := by kernel_rfl
/-- numbers as cells -/
def ocs (l : List Nat) : List Value := l.map fun (x : Nat) => Value.int .i64 x
theorem ocs_length (l : List Nat) : (ocs l).length = l.length := by simp [ocs]
end Tr
end Go.Proofs.YtcmjipgigkalcaaDoor
/-
  What the document's Beginning of layer 9 answers; numbers in a row.
-/
namespace Go.Proofs.YtcmjipgigkalcaaDoor
open Go.RowKit Go.Shelf Go.Lib
namespace Tr
/-- what Beginning answers -/
def begA (E : Nat → Ev Value) (n : Nat) : Value := match drun okB E n with | none => .tuple #[.bool false, .int .i64 0, .bool false] | some s => .tuple #[.bool true, .int .i64 s.op.length, .bool (decide (0 < n) && decide (s.op.length = 0))]
def opI (l : List Nat) : List Int := l.map fun (x : Nat) => (x : Int)
theorem opI_length (l : List Nat) : (opI l).length = l.length := by simp [opI]
theorem opI_app (l : List Nat) (i : Nat) : opI (l ++ [i]) = opI l ++ [(i : Int)] := by simp [opI]
theorem opI_get (l : List Nat) (k o : Nat) (h : l[k]? = some o) : (opI l)[k]? = some (o : Int) := by simp [opI, h]
theorem opI_take (l : List Nat) (k : Nat) : opI (l.take k) = (opI l).take k := by simp [opI]
theorem ic_take (l : List Int) (k : Nat) : ic (l.take k) = (ic l).take k := by simp [ic]
/-- between two events -/
structure BS (w : World) (E : Nat → Ev Value) (i : Nat) (s : Ds) (o : Value) (wr : World) : Prop where
  run : drun okB E i = some s
  row : wr.ownsRow w.heap.size 3 1 o s.op.length (ic (opI s.op))
  bel : Below w.heap.size w wr
theorem beg_stop {E : Nat → Ev Value} {i n : Nat} {s : Ds} (h : drun okB E i = some s) (h2 : dstep okB E s i = none) (hi : i < n) : begA E n = .tuple #[.bool false, .int .i64 0, .bool false] := by
  have h3 : drun okB E (i + 1) = none := by unfold drun; rw [h]; exact h2
  have h4 := drun_stop h3 (n - (i + 1))
  rw [show i + 1 + (n - (i + 1)) = n by omega] at h4
  unfold begA
  rw [h4]
end Tr
end Go.Proofs.YtcmjipgigkalcaaDoor
/-
  The document's nodes of layer 9 while they are collected: memory and mathematics.
-/
namespace Go.Proofs.YtcmjipgigkalcaaDoor
open Go.RowKit Go.Shelf Go.Lib
namespace Tr
theorem owns_blk {w w' : World} {B : Nat} {e : TypeId} {size : Nat} {v : Value} {n : Nat} {ys : List Value} (h : w.ownsRow B e size v n ys) (hk : ∀ g, v.ownBlock = some g → w'.heap[g]? = w.heap[g]?) : w'.ownsRow B e size v n ys := by
  refine ⟨h.1, ?_⟩
  rcases h.2 with h1 | ⟨g, cap, cur, hv, hb1, hg, rest⟩
  · exact .inl h1
  · exact .inr ⟨g, cap, cur, hv, hb1, (hk g (by rw [hv]; rfl)).trans hg, rest⟩
theorem owns_ty {w : World} {B : Nat} {e : TypeId} {size : Nat} {v : Value} {n g : Nat} {ys : List Value} (h : w.ownsRow B e size v n ys) (hv : v.ownBlock = some g) : ∃ cur, w.heap[g]? = some (.cells cur e (0, 0)) := by
  rcases h.2 with ⟨rfl, _⟩ | ⟨g', cap, cur, rfl, _, hg, _⟩
  · cases hv
  · cases hv
    exact ⟨cur, hg⟩
/-- the two rows between two events -/
structure NS (w : World) (E : Nat → Ev Value) (nd : Nat) (op : List Nat) (L : Nat → NR) (v o : Value) (wx : World) : Prop where
  lst : wx.ownsRow w.heap.size 46 13 v nd (rcs E L nd)
  opn : wx.ownsRow w.heap.size 3 1 o op.length (ic (opI op))
  bel : Below w.heap.size w wx
theorem NS.keep {w wx wy : World} {E : Nat → Ev Value} {nd : Nat} {op : List Nat} {L : Nat → NR} {v o : Value} (h : NS w E nd op L v o wx) (hb : Below wx.heap.size wx wy) : NS w E nd op L v o wy :=
  ⟨keepB h.lst hb (Nat.le_refl _), keepB h.opn hb (Nat.le_refl _), h.bel.trans (hb.mono h.bel.size)⟩
theorem NS.congr {w wx : World} {E : Nat → Ev Value} {nd : Nat} {op : List Nat} {L L' : Nat → NR} {v o : Value} (h : NS w E nd op L v o wx) (e : ∀ j, j < nd → L j = L' j) : NS w E nd op L' v o wx :=
  ⟨by rw [← rcs_congr nd e]; exact h.lst, h.opn, h.bel⟩
theorem NS.apart {w wx : World} {E : Nat → Ev Value} {nd : Nat} {op : List Nat} {L : Nat → NR} {v o : Value} (h : NS w E nd op L v o wx) {g q : Nat} (h1 : v.ownBlock = some q) (h2 : o.ownBlock = some g) : g ≠ q := by
  rintro rfl
  obtain ⟨c1, e1⟩ := owns_ty h.lst h1
  obtain ⟨c2, e2⟩ := owns_ty h.opn h2
  rw [e1] at e2
  injection e2 with e2
  injection e2 with _ e3
  exact absurd e3 (by decide)
theorem NS.boxed {w wx : World} {E : Nat → Ev Value} {nd : Nat} {op : List Nat} {L : Nat → NR} {v o : Value} (h : NS w E nd op L v o wx) {b q : Nat} {c : Array Value} (h1 : v.ownBlock = some q) (h2 : wx.heap[b]? = some (.cells c 39 (0, 0))) : b ≠ q := by
  rintro rfl
  obtain ⟨c1, e1⟩ := owns_ty h.lst h1
  rw [e1] at h2
  injection h2 with e2
  injection e2 with _ e3
  exact absurd e3 (by decide)
theorem NS.cell {w wx : World} {E : Nat → Ev Value} {nd : Nat} {op : List Nat} {L : Nat → NR} {q cap : Nat} {o : Value} (h : NS w E nd op L (.slice (some ⟨q, 0, none⟩) nd cap) o wx) {j k : Nat} {u : Value} (hj : j < nd) (hk : k < 13) (hu : (rnd E (L j)).cs[k]? = some u) : wx.cell? ⟨q, j * 13 + k, none⟩ = some u := by
  have := h.lst.cells (g := q) rfl (j * 13 + k) u (by rw [rcs_get E L nd j k hj hk]; exact hu)
  rw [Go.WideShapes.add_plain, Nat.zero_add] at this
  exact this
theorem NS.top {w wx : World} {E : Nat → Ev Value} {nd : Nat} {op : List Nat} {L : Nat → NR} {g n cap : Nat} {v : Value} (h : NS w E nd op L v (.slice (some ⟨g, 0, none⟩) n cap) wx) {k p : Nat} (hk : op[k]? = some p) : wx.cell? ⟨g, k, none⟩ = some (.int .i64 (p : Int)) := by
  have := h.opn.cells (g := g) rfl k (.int .i64 (p : Int)) (ic_get _ _ _ (opI_get _ _ _ hk))
  rw [Go.WideShapes.add_plain, Nat.zero_add] at this
  exact this
theorem NS.set {w wx : World} {E : Nat → Ev Value} {nd : Nat} {op : List Nat} {L : Nat → NR} {q cap : Nat} {o : Value} (h : NS w E nd op L (.slice (some ⟨q, 0, none⟩) nd cap) o wx) {p k : Nat} {u : Value} {x : NR} (hp : p < nd) (hk : k < 13) (hx : (rnd E (L p)).cs.toList.set k u = (rnd E x).cs.toList) :
    NS w E nd op (fun j => if j = p then x else L j) (.slice (some ⟨q, 0, none⟩) nd cap) o (wx.setCell ⟨q, p * 13 + k, none⟩ u) := by
  have r := (h.lst.stored (p * 13 + k) u).1
  rw [rcs_set hk hx nd hp] at r
  refine ⟨r, owns_blk h.opn fun g hg => Below.heap_setCell _ _ _ _ (show g ≠ q from h.apart rfl hg), h.bel.setCell (p := ⟨q, p * 13 + k, none⟩) (by show w.heap.size ≤ q; exact (h.lst.lt q rfl).1) _⟩
/-- the nodes while the open ones are gone through -/
def Lk (E : Nat → Ev Value) (r : Rs) (i k : Nat) (j : Nat) : NR := if j = r.nd then rnew E r i else ropen (r.op.take k) r.nd (E i).tx.data.toList r.L j
theorem Lk_zero (E : Nat → Ev Value) (r : Rs) (i j : Nat) (hj : j < r.nd) : Lk E r i 0 j = r.L j := by
  unfold Lk ropen
  rw [if_neg (by omega), List.take_zero, if_neg (by simp)]
theorem Lk_new (E : Nat → Ev Value) (r : Rs) (i k : Nat) : Lk E r i k r.nd = rnew E r i := if_pos rfl
theorem Lk_at (E : Nat → Ev Value) (r : Rs) (i k p : Nat) (hp : p < r.nd) (hn : p ∉ r.op.take k) : Lk E r i k p = r.L p := by
  unfold Lk ropen
  rw [if_neg (by omega), if_neg hn]
theorem Lk_step (E : Nat → Ev Value) (r : Rs) (i k p : Nat) (hk : r.op[k]? = some p) (hp : p < r.nd) (j : Nat) : Lk E r i (k + 1) j = if j = p then rput r.nd (E i).tx.data.toList (r.L p) else Lk E r i k j := by
  unfold Lk ropen
  rw [List.take_add_one, hk]
  by_cases c : j = p
  · subst c
    rw [if_neg (by omega), if_pos rfl, if_pos (by simp)]
  · rw [if_neg c]
    have : (j ∈ r.op.take k ++ (some p).toList) ↔ j ∈ r.op.take k := by simp [c]
    simp only [this]
theorem Lk_end (E : Nat → Ev Value) (r : Rs) (i j : Nat) : Lk E r i r.op.length j = if j = r.nd then rnew E r i else ropen r.op r.nd (E i).tx.data.toList r.L j := by
  unfold Lk
  rw [List.take_length]
/-- the row behind the append -/
theorem NS.push {w wr W2 w4 : World} {E : Nat → Ev Value} {r : Rs} {i : Nat} {v o v' : Value} {ob : Obj} {cs : List Value} (h : NS w E r.nd r.op r.L v o wr) (hb : Below wr.heap.size wr W2) (hc : cs = (rnd E (rnew E r i)).cs.toList)
    (hown : w4.ownsRow w.heap.size 46 13 v' (r.nd + 1) (rcs E r.L r.nd ++ cs)) (hg : (W2.alloc ob).grownBy w4 v.ownBlock) : NS w E (r.nd + 1) r.op (Lk E r i 0) v' o w4 ∧ ∀ k, wr.heap.size ≤ k → k < W2.heap.size → w4.heap[k]? = W2.heap[k]? := by
  have hlt := h.lst.lt
  have hsz := hb.size
  have hA : Below wr.heap.size wr (W2.alloc ob) := hb.alloc hb.size _
  have kp : ∀ k, k < wr.heap.size → v.ownBlock ≠ some k → w4.heap[k]? = wr.heap[k]? := fun k hk hn => (hg.block k (by simp; omega) (fun e => hn e.symm)).trans (hA.block k hk)
  refine ⟨⟨?_, owns_blk h.opn fun g e => kp g (h.opn.lt g e).2 (fun e2 => h.apart e2 e rfl), ?_⟩, fun k h1 h2 => ?_⟩
  · rw [rcs_snoc, Lk_new, rcs_congr r.nd (fun j hj => Lk_zero E r i j hj), ← hc]
    exact hown
  · exact (h.bel.trans (hA.mono h.bel.size)).grown hg (by have := h.bel.size; simp; omega) (fun k hk => (hlt k hk).1)
  · rw [hg.block k (by simp; omega) (fun e => by have := (hlt k e.symm).2; omega)]
    exact Below.block ((Below.refl W2.heap.size W2).alloc (Nat.le_refl _) ob) k h2
/-- an open element more -/
theorem NS.grow {w wl w2 : World} {E : Nat → Ev Value} {nd nd' : Nat} {op : List Nat} {L : Nat → NR} {v o o' : Value} {ob : Obj} (h : NS w E nd op L v o wl) (hown : w2.ownsRow w.heap.size 3 1 o' (op.length + 1) (ic (opI op) ++ [.int .i64 (nd' : Int)])) (hg : (wl.alloc ob).grownBy w2 o.ownBlock) : NS w E nd (op ++ [nd']) L v o' w2 := by
  have hA : Below wl.heap.size wl (wl.alloc ob) := (Below.refl _ _).alloc (Nat.le_refl _) _
  refine ⟨owns_blk h.lst fun g e => ?_, ?_, ?_⟩
  · have hlt := (h.lst.lt g e).2
    rw [hg.block g (by simp; omega) (fun e2 => h.apart e e2.symm rfl)]
    exact hA.block g hlt
  · rw [opI_app, ic_app, List.length_append]
    exact hown
  · exact (h.bel.alloc h.bel.size ob).grown hg (by have := h.bel.size; simp; omega) (fun k hk => (h.opn.lt k hk).1)
theorem put_str (a : List UInt8) (t : ByteArray) : (⟨a.toArray⟩ : ByteArray) ++ t = ⟨(a ++ t.data.toList).toArray⟩ := by
  cases t with
  | mk d =>
    rw [ByteArray.mk_append_mk]
/-- the last node in an open element -/
theorem NS.step1 {w wx : World} {E : Nat → Ev Value} {r : Rs} {i k p nd q cap : Nat} {o : Value} (h : NS w E (nd + 1) r.op (Lk E r i k) (.slice (some ⟨q, 0, none⟩) (nd + 1) cap) o wx) (hp : p < nd) (hL : Lk E r i k p = r.L p) :
    NS w E (nd + 1) r.op (fun j => if j = p then { r.L p with last := (nd : Int) } else Lk E r i k j) (.slice (some ⟨q, 0, none⟩) (nd + 1) cap) o (wx.setCell ⟨q, p * 13 + 9, none⟩ (.int .i64 (nd : Nat))).drew :=
  (h.set (p := p) (k := 9) (u := .int .i64 (nd : Nat)) (x := { r.L p with last := (nd : Int) }) (by omega) (by omega) (by rw [hL]; rfl)).keep (Below.refl _ _).drew
/-- its text -/
theorem NS.step2 {w wx : World} {E : Nat → Ev Value} {r : Rs} {i k p nd q cap : Nat} {o : Value} {V tx : ByteArray} (h : NS w E (nd + 1) r.op (fun j => if j = p then { r.L p with last := (nd : Int) } else Lk E r i k j) (.slice (some ⟨q, 0, none⟩) (nd + 1) cap) o wx) (hp : p < nd) (hnd : r.nd = nd) (hk : r.op[k]? = some p) (hV : (⟨(r.L p).val.toArray⟩ : ByteArray) = V) (ht : (E i).tx = tx) :
    NS w E (nd + 1) r.op (Lk E r i (k + 1)) (.slice (some ⟨q, 0, none⟩) (nd + 1) cap) o (wx.setCell ⟨q, p * 13 + 12, none⟩ (.string (V ++ tx))).drew := by
  refine ((h.set (p := p) (k := 12) (u := .string (V ++ tx)) (x := rput r.nd (E i).tx.data.toList (r.L p)) (by omega) (by omega) ?_).congr fun j _ => ?_).keep (Below.refl _ _).drew
  · rw [if_pos rfl, ← hV, put_str, ht, hnd]
    rfl
  · rw [Lk_step E r i k p hk (by rw [hnd]; exact hp) j]
    by_cases c : j = p
    · rw [if_pos c, if_pos c]
    · rw [if_neg c, if_neg c, if_neg c]
/-- texts are no longer than this -/
theorem rrun_val {E : Nat → Ev Value} {n : Nat} (hs : ∀ i, i < n → Tiny (E i)) : ∀ i, i ≤ n → ∀ m, ((rrun E i).L m).val.length ≤ 1048576 * i
  | 0, _, m => by show ([] : List UInt8).length ≤ _; simp
  | i + 1, hi, m => by
    have ih := rrun_val hs i (by omega)
    have ht : (E i).tx.data.toList.length ≤ 1048576 := (hs i (by omega)).2.1
    have h1 := ih m
    have hnew : (rnew E (rrun E i) i).val.length ≤ 1048576 * (i + 1) := by show (E i).tx.data.toList.length ≤ _; omega
    have hop : (ropen (rrun E i).op (rrun E i).nd (E i).tx.data.toList (rrun E i).L m).val.length ≤ 1048576 * (i + 1) := by
      unfold ropen rput
      split
      · show ((_ : List UInt8) ++ _).length ≤ _
        rw [List.length_append]
        omega
      · omega
    unfold rrun rstep
    split
    · dsimp only
      split
      · show ((rrun E i).L m).val.length ≤ _
        omega
      · omega
    · split
      · dsimp only
        split
        · exact hnew
        · exact hop
      · dsimp only
        split
        · exact hnew
        · exact hop
/-- what comes next -/
theorem rrun_next {E : Nat → Ev Value} {s s' : Ds} {i : Nat} (hr : RI E s (grun E i) (rrun E i)) (hg : GI E s (grun E i) i) (hs : dstep okB E s i = some s') :
    ((E i).kind = 2 ∧ ∃ k p : Nat, (rrun E i).op.length = k + 1 ∧ (rrun E i).op[k]? = some p ∧ (E i).num = p ∧ p < (rrun E i).nd ∧ rrun E (i + 1) = ⟨fun j => if j = p then { (rrun E i).L j with clo := (i : Int) } else (rrun E i).L j, (rrun E i).nd, (rrun E i).op.dropLast⟩) ∨
    ((E i).kind = 0 ∧ (E i).num = ((rrun E i).nd : Nat) ∧ rrun E (i + 1) = ⟨Lk E (rrun E i) i (rrun E i).op.length, (rrun E i).nd + 1, (rrun E i).op ++ [(rrun E i).nd]⟩) ∨
    ((E i).kind = 1 ∧ (E i).num = ((rrun E i).nd : Nat) ∧ rrun E (i + 1) = ⟨fun j => if j = (rrun E i).nd then { rnew E (rrun E i) i with clo := (i : Int) } else Lk E (rrun E i) i (rrun E i).op.length j, (rrun E i).nd + 1, (rrun E i).op⟩) := by
  have he : rrun E (i + 1) = rstep E (rrun E i) i := rfl
  unfold dstep at hs
  split at hs
  · cases hs
  split at hs
  · next hk =>
    split at hs
    · next hc =>
      refine .inr (.inl ⟨hk, by rw [hr.nd]; exact hc.1, ?_⟩)
      rw [he]
      unfold rstep
      rw [if_neg (by omega), if_pos hk]
      congr 1
      funext j
      rw [Lk_end]
    · cases hs
  next hk0 =>
  split at hs
  · next hk =>
    split at hs
    · next hc =>
      refine .inr (.inr ⟨hk, by rw [hr.nd]; exact hc.2.2.1, ?_⟩)
      rw [he]
      unfold rstep
      rw [if_neg (by omega), if_neg hk0]
      congr 1
      funext j
      rw [Lk_end]
      split
      · rfl
      · rfl
    · cases hs
  next hk1 =>
  split at hs
  · next hk =>
    split at hs
    · cases hs
    next o ho =>
    split at hs
    · next hc =>
      rw [List.getLast?_eq_getElem?] at ho
      have hl : s.op.length - 1 < s.op.length := (List.getElem?_eq_some_iff.1 ho).1
      have hn := hg.num ho
      have hnum : (E i).num = (E o).num := by
        unfold closes at hc
        simp at hc
        exact hc.1
      refine .inl ⟨hk, s.op.length - 1, (E o).num.toNat, by rw [hr.op, List.length_map]; omega, ?_, by rw [hnum]; exact hn.1.symm, by rw [hr.nd]; exact hn.2.1, ?_⟩
      · rw [hr.get, ho]
        rfl
      · rw [he]
        unfold rstep
        rw [if_pos hk, hnum]
    · cases hs
  · cases hs
end Tr
end Go.Proofs.YtcmjipgigkalcaaDoor

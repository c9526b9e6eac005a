/-
  THE WALK over gimletlaw01.RunesPlaces: of any two texts.
-/
import Derived.Test.YtacmenmneilamabDoorRnPl
import Derived.Test.YtacmenmneilamabDoorRnAwake
import Derived.Deep.QuietTactic
import Derived.BigQuiet
namespace Go.Proofs.YtacmenmneilamabDoor
open Go.RowKit Go.Shelf

theorem tx_append (L M : List Nat) : Rn.tx L ++ Rn.tx M = Rn.tx (L ++ M) := by
  unfold Rn.tx
  rw [Rn.arr_lf, Rn.arr_lf, Rn.arr_lf, Rn.cat_append]
  rfl
theorem tx_size (L : List Nat) : (Rn.tx L).size = (Rn.cat L).length := Rn.arr_size _ _

/-- At of a text that is these characters, behind the first k -/
theorem at_cat (N : List Nat) (hN : ∀ r ∈ N, Rn.scal r) (k : Nat) (b cap : Nat) (a : Nat) (w : World) (ha : a = (Rn.cat (N.take k)).length) (hc : (Rn.cat N).length ≤ cap) (hm : cap ≤ maxLen) (hbig : (Rn.cat N).length ≤ 4611686018427387904)
    (hp : Bytes w b 0 (Rn.cat N).length (Rn.lf (Rn.cat N))) (rn ln co : Nat) (h : Rn.lc N k 0 1 1 = (rn, ln, co)) :
    Calls Tryd.prog 7 #[.slice (some ⟨b, 0, none⟩) (Rn.cat N).length cap, .int .i64 a] w fun e w' =>
      e = .returned (.tuple #[.agg #[.int .i64 a, .int .i64 rn, .int .i64 ln, .int .i64 co], .int .i64 0]) ∧ Below w.heap.size w w' := by
  have hle : a ≤ (Rn.cat N).length := by
    have e : Rn.cat N = Rn.cat (N.take k) ++ Rn.cat (N.drop k) := by rw [← Rn.cat_append, List.take_append_drop]
    rw [ha, e, List.length_append]
    omega
  have := at_in (Rn.lf (Rn.cat N)) (Rn.cat N).length b 0 cap a w (Rn.lf_lt _) hle hc hm hbig hp
  rw [show Rn.plc (Rn.lf (Rn.cat N)) (Rn.cat N).length a = (rn, ln, co) by rw [ha, Rn.plc_cat N hN k, h]] at this
  exact this
theorem byte_cat (L M : List Nat) (h : ∀ r ∈ L ++ M, Rn.scal r) (w : World) (h9 : L.length ≤ 9223372036854775807) :
    Calls Tryd.prog 8 #[.string (Rn.tx (L ++ M)), .int .i64 L.length] w fun e w' => e = .returned (.tuple #[.int .i64 (Rn.cat L).length, .int .i64 0]) ∧ Below w.heap.size w w' := by
  have := byte_pos (Rn.lf (Rn.cat (L ++ M))) (Rn.cat (L ++ M)).length L.length w (Rn.lf_lt _) h9
  rw [Rn.byt_cat L M h] at this
  exact this

set_option maxRecDepth 100000 in
set_option maxHeartbeats 4000000 in
theorem lawPlaces_any (f : Nat → Nat) (m : Nat) (g : Nat → Nat) (n : Nat) (w : World) (hT : Lib.Utf8Tabs 0 1 w) (hf : ∀ j, f j < 256) (hg : ∀ j, g j < 256) (hm : m ≤ 1099511627776) (hn : n ≤ 1099511627776) :
    Calls Tryd.prog 3 #[.string (Rn.arr f m), .string (Rn.arr g n)] w fun e w' => e = .returned (.bool true) ∧ Below w.heap.size w w' := by
  have cA := awake_any w hT
  go_enter Tryd.func3, Tryd.ntmps3
  go_wp2_with fail
  refine cA.mono ?_
  rintro e w1 ⟨rfl, hb1⟩
  clear cA
  go_wp2_with fail
  refine (mend_cat f m w1 hf (by omega)).mono ?_
  rintro e w2 ⟨L, -, rfl, hb2, hl1, hs1⟩
  have hB2 := hb1.trans (hb2.mono hb1.size)
  go_wp2_with fail
  refine (mend_cat g n w2 hg (by omega)).mono ?_
  rintro e w3 ⟨M, -, rfl, hb3, hl2, hs2⟩
  have hB3 := hB2.trans (hb3.mono hB2.size)
  have hadd := tx_append L M
  have z1 := tx_size L
  have z2 := tx_size M
  have z3 := tx_size (L ++ M)
  have hs3 : ∀ r ∈ L ++ M, Rn.scal r := fun r hr => (List.mem_append.1 hr).elim (hs1 r) (hs2 r)
  have zz : (Rn.cat L).length + (Rn.cat M).length = (Rn.cat (L ++ M)).length := by rw [Rn.cat_append, List.length_append]
  have t1 : (Rn.cat L).length = (Rn.cat ((L ++ M).take L.length)).length := by rw [List.take_left]
  have t2 : (Rn.cat (L ++ M)).length = (Rn.cat ((L ++ M).take (L ++ M).length)).length := by rw [List.take_length]
  have t3 : (Rn.cat M).length = (Rn.cat (M.take M.length)).length := by rw [List.take_length]
  have g1 := Rn.cat_ge L
  have g2 := Rn.cat_ge M
  obtain ⟨pl, pc, rl, rc, qr, ql, qc, hP, hR, hQ, q1, q2, q3, p1, p2, p3, p4, r1, r2, r3, r4⟩ := Rn.places L M
  have hcv := fun (N : List Nat) W => Lib.run_convert_string_bytes (P := Tryd.prog) W 9 24 5 (Rn.tx N) Tryd.underlying9 Tryd.underlying24 Tryd.underlying5
  simp only [tx_size] at hcv
  have hcv1 := hcv (L ++ M)
  have hcv2 := hcv M
  clear hcv
  have hby : ∀ (N : List Nat) W, Bytes (Lib.bytesWorld W 5 (Rn.tx N)) W.heap.size 0 (Rn.cat N).length (Rn.lf (Rn.cat N)) := fun N W => bytes_bytesWorld W 5 _ _ (Rn.lf_lt _)
  have cAt1 := fun b cap W hc hm hbig hp => at_cat (L ++ M) hs3 L.length b cap _ W t1 hc hm hbig hp _ _ _ hP
  have cAt2 := fun b cap W hc hm hbig hp => at_cat (L ++ M) hs3 (L ++ M).length b cap _ W t2 hc hm hbig hp _ _ _ hQ
  have cAt3 := fun b cap W hc hm hbig hp => at_cat M hs2 M.length b cap _ W t3 hc hm hbig hp _ _ _ hR
  have cBy := fun W h9 => byte_cat L M hs3 W h9
  have hby1 := hby (L ++ M) w3
  have hbM := hby M
  have hgc := grownCap_ge w3 (Rn.cat (L ++ M)).length 0 5
  have hgm := grownCap_le_maxLen w3 (Rn.cat (L ++ M)).length 0 5 (by unfold maxLen; omega)
  have hb4 := below_bytesWorld w3 5 (Rn.tx (L ++ M))
  have hz4 : (Lib.bytesWorld w3 5 (Rn.tx (L ++ M))).heap.size = w3.heap.size + 1 := Lib.bytesWorld_size _ _ _
  clear hP hQ hR t1 t2 t3 hby
  have Q1 := hide' q1
  have Q2 := hide' q2
  have Q3 := hide' q3
  clear q1 q2 q3
  generalize hcap : grownCap w3 (Rn.cat (L ++ M)).length 0 5 = cap at *
  generalize hw4 : Lib.bytesWorld w3 5 (Rn.tx (L ++ M)) = w4 at *
  have HW := hide' hw4
  have hv1 : (convert 9 24 (.string (Rn.tx (L ++ M)))).run Tryd.prog w3 = .ok (.slice (some ⟨w3.heap.size, 0, none⟩) (Rn.cat (L ++ M)).length cap) w4 := by rw [hcv1, hcap, hw4]
  clear hcv1 hcap hw4
  generalize (Rn.cat (L ++ M)).length = z at *
  have hB4 := hB3.trans (hb4.mono hB3.size)
  go_wp2_with fail
  refine (cAt1 _ _ _ hgc hgm (by omega) hby1).mono ?_
  rintro e w5 ⟨rfl, hb5⟩
  clear cAt1
  have hB5 := hB4.trans (hb5.mono hB4.size)
  have hby5 := hby1.below hb5 (Nat.le_refl _)
  go_wp2_with fail
  generalize hcl : (Rn.cat L).length = cl at *
  generalize hcm : (Rn.cat M).length = cm at *
  obtain ⟨P, hPP⟩ : ∃ P, (#[Value.int .i64 cl, .int .i64 L.length, .int .i64 pl, .int .i64 pc] : Array Value) = P := ⟨_, rfl⟩
  obtain ⟨w6, hw6⟩ : ∃ w6, w5.alloc (.cells #[Value.int .i64 cl, .int .i64 L.length, .int .i64 pl, .int .i64 pc] 26) = w6 := ⟨_, rfl⟩
  have hP6 : w6.heap[w5.heap.size]? = some (.cells P 26 (0, 0)) := by rw [← hw6, hPP]; exact World.alloc_heap_new w5 _
  have hs6 : w6.heap.size = w5.heap.size + 1 := by rw [← hw6]; simp
  have hb6 : Below w5.heap.size w5 w6 := by rw [← hw6]; exact (Below.refl _ _).alloc (Nat.le_refl _) _
  rw [hw6]
  have HW6 := hide' hw6
  clear hw6
  have hB6 := hB5.trans (hb6.mono hB5.size)
  have hby6 := hby5.below hb6 (Nat.le_refl _)
  refine (cAt2 _ _ _ hgc hgm (by omega) hby6).mono ?_
  rintro e w7 ⟨rfl, hb7⟩
  clear cAt2 hby1 hby5 hby6
  have hB7 := hB6.trans (hb7.mono hB6.size)
  have hP7 := (hb7.block _ (by omega : w5.heap.size < w6.heap.size)).trans hP6
  have hz7 := hb7.size
  go_wp2_with fail
  obtain ⟨w8, hw8⟩ : ∃ w8, w7.alloc (.cells #[Value.int .i64 z, .int .i64 qr, .int .i64 ql, .int .i64 qc] 26) = w8 := ⟨_, rfl⟩
  have hQ8 : w8.heap[w7.heap.size]? = some (.cells #[Value.int .i64 z, .int .i64 qr, .int .i64 ql, .int .i64 qc] 26 (0, 0)) := by rw [← hw8]; exact World.alloc_heap_new w7 _
  have hs8 : w8.heap.size = w7.heap.size + 1 := by rw [← hw8]; simp
  have hb8 : Below w7.heap.size w7 w8 := by rw [← hw8]; exact (Below.refl _ _).alloc (Nat.le_refl _) _
  rw [hw8]
  clear hw8
  have hB8 := hB7.trans (hb8.mono hB7.size)
  have hP8 := (hb8.block _ (by omega : w5.heap.size < w7.heap.size)).trans hP7
  have hby8 := hbM w8
  have hgc8 := grownCap_ge w8 cm 0 5
  have hgm8 := grownCap_le_maxLen w8 cm 0 5 (by unfold maxLen; omega)
  have hb9 := below_bytesWorld w8 5 (Rn.tx M)
  have hz9 : (Lib.bytesWorld w8 5 (Rn.tx M)).heap.size = w8.heap.size + 1 := Lib.bytesWorld_size _ _ _
  rw [← hs8]
  generalize grownCap w8 cm 0 5 = cap8 at *
  generalize Lib.bytesWorld w8 5 (Rn.tx M) = w9 at *
  have hB9 := hB8.trans (hb9.mono hB8.size)
  have hP9 := (hb9.block _ (by omega : w5.heap.size < w8.heap.size)).trans hP8
  have hQ9 := (hb9.block _ (by omega : w7.heap.size < w8.heap.size)).trans hQ8
  refine (cAt3 _ _ _ hgc8 hgm8 (by omega) hby8).mono ?_
  rintro e w10 ⟨rfl, hb10⟩
  clear cAt3 hby8 hbM hcv2
  have hB10 := hB9.trans (hb10.mono hB9.size)
  have hP10 := (hb10.block _ (by omega : w5.heap.size < w9.heap.size)).trans hP9
  have hQ10 := (hb10.block _ (by omega : w7.heap.size < w9.heap.size)).trans hQ9
  have hz10 := hb10.size
  clear hP6 hP7 hP8 hP9 hQ8 hQ9 hb5 hb6 hb7 hb8 hb9 hb10
  obtain ⟨w11, hw11⟩ : ∃ w11, w10.alloc (.cells #[Value.int .i64 cm, .int .i64 M.length, .int .i64 rl, .int .i64 rc] 26) = w11 := ⟨_, rfl⟩
  have hR11 : w11.heap[w10.heap.size]? = some (.cells #[Value.int .i64 cm, .int .i64 M.length, .int .i64 rl, .int .i64 rc] 26 (0, 0)) := by rw [← hw11]; exact World.alloc_heap_new w10 _
  have hs11 : w11.heap.size = w10.heap.size + 1 := by rw [← hw11]; simp
  have hb11 : Below w10.heap.size w10 w11 := by rw [← hw11]; exact (Below.refl _ _).alloc (Nat.le_refl _) _
  have hB11 := hB10.trans (hb11.mono hB10.size)
  have hP11 := (hb11.block _ (by omega : w5.heap.size < w10.heap.size)).trans hP10
  have hQ11 := (hb11.block _ (by omega : w7.heap.size < w10.heap.size)).trans hQ10
  subst hPP
  have cc : w11.cell? ⟨w5.heap.size, 1, none⟩ = some (.int .i64 L.length) := by rw [Lib.cell_of_heap hP11]; rfl
  go_wp2_with fail
  refine (cBy w11 (by omega)).mono ?_
  rintro e w12 ⟨rfl, hb12⟩
  have hB12 := hB11.trans (hb12.mono hB11.size)
  have hP12 := (hb12.block _ (by omega : w5.heap.size < w11.heap.size)).trans hP11
  have hQ12 := (hb12.block _ (by omega : w7.heap.size < w11.heap.size)).trans hQ11
  have hR12 := (hb12.block _ (by omega : w10.heap.size < w11.heap.size)).trans hR11
  have k1 : w12.cell? ⟨w5.heap.size, 1, none⟩ = some (.int .i64 L.length) := by rw [Lib.cell_of_heap hP12]; rfl
  have k2 : w12.cell? ⟨w5.heap.size, 2, none⟩ = some (.int .i64 pl) := by rw [Lib.cell_of_heap hP12]; rfl
  have k3 : w12.cell? ⟨w5.heap.size, 3, none⟩ = some (.int .i64 pc) := by rw [Lib.cell_of_heap hP12]; rfl
  have j0 : w12.cell? ⟨w7.heap.size, 0, none⟩ = some (.int .i64 z) := by rw [Lib.cell_of_heap hQ12]; rfl
  have j1 : w12.cell? ⟨w7.heap.size, 1, none⟩ = some (.int .i64 qr) := by rw [Lib.cell_of_heap hQ12]; rfl
  have j2 : w12.cell? ⟨w7.heap.size, 2, none⟩ = some (.int .i64 ql) := by rw [Lib.cell_of_heap hQ12]; rfl
  have j3 : w12.cell? ⟨w7.heap.size, 3, none⟩ = some (.int .i64 qc) := by rw [Lib.cell_of_heap hQ12]; rfl
  have i1 : w12.cell? ⟨w10.heap.size, 1, none⟩ = some (.int .i64 M.length) := by rw [Lib.cell_of_heap hR12]; rfl
  have i2 : w12.cell? ⟨w10.heap.size, 2, none⟩ = some (.int .i64 rl) := by rw [Lib.cell_of_heap hR12]; rfl
  have i3 : w12.cell? ⟨w10.heap.size, 3, none⟩ = some (.int .i64 rc) := by rw [Lib.cell_of_heap hR12]; rfl
  clear hP10 hP11 hP12 hQ10 hQ11 hQ12 hR11 hR12 hb11 hb12 hw11 cBy cc hv1
  have n1 : ((cl : Int) != cl) = false := by simp
  have n2 : ((qr : Int) != (L.length : Int) + M.length) = false := by have := Q1.out; simp; omega
  have n3 : ((z : Int) != z) = false := by simp
  have n4 : ((ql : Int) != (pl : Int) + rl - 1) = false := by have := Q2.out; simp; omega
  have n5 : rl = 1 → ((qc : Int) == (pc : Int) + rc - 1) = true := by intro h; have := Q3.out; rw [if_pos h] at this; simp; omega
  have n6 : rl ≠ 1 → ((qc : Int) == (rc : Int)) = true := by intro h; have := Q3.out; rw [if_neg h] at this; simp; omega
  have N5 := hide' n5
  have N6 := hide' n6
  clear n5 n6
  go_wp2
  all_goals go_ret
  all_goals first
    | exact ⟨rfl, hB12⟩
    | (rename_i h
       exact ⟨ret_bool (N5.out (by simp at h; omega)), hB12⟩)
    | (rename_i h
       exact ⟨ret_bool (N6.out (by simp at h; omega)), hB12⟩)
end Go.Proofs.YtacmenmneilamabDoor

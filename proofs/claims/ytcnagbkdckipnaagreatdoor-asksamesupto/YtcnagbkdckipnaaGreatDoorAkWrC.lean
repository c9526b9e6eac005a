/-
  THE WALK over ask.writeCompared (gen_akwr.py writes this text).
-/
import Derived.Test.YtcnagbkdckipnaaGreatDoorAkWrA
namespace Go.Proofs.YtcnagbkdckipnaaGreatDoor
open Go.RowKit Go.Lib Go.Sort
namespace Ak
/-- a path with its attribute -/
def wC (st : List Sp) (aa : ByteArray) : List UInt8 := (if (em aa || !aloneB st) = true then wP true st else []) ++ (if em aa = true then [] else ((if aloneB st = true then [] else [47]) ++ [64]) ++ by_ aa)
theorem alone_one (x : Sv) (ax te : Int) (nm : ByteArray) (p : Option Addr) (c : Nat) (wh : List Xv) (h : x = .mk ax te nm p c wh) : aloneB (cSs [x]) = hereB ax te wh.length := by
  subst h
  simp [cSs, cS, aloneB, cXs_map]
theorem alone_no (st : List Sv) (h : st.length ≠ 1) : aloneB (cSs st) = false := by
  match st, h with
  | [], _ => simp [cSs, aloneB]
  | [a], h => exact absurd rfl h
  | a :: b :: l, _ => simp [cSs, aloneB]
end Ak
set_option maxRecDepth 100000 in
set_option maxHeartbeats 16000000 in
theorem wrCompared {w0 : World} {B b : Nat} (op : Int) (pa : Option Addr) (la ca : Nat) (ps : Option Addr) (cc : Nat) (st : List Ak.Sv) (aa : ByteArray) (cm : Int) (tx : ByteArray) (nu : Int) (hrow : Ak.RowS w0 ps cc st) (hg : Ak.gSs (Ak.cSs st)) (hpp : Ak.WrPP w0 B b st) (W : World) (out : List UInt8) (hP : Ak.PrS w0 B b out W) (hL : out.length + (Ak.wC (Ak.cSs st) aa).length ≤ 70368744177664) :
    Calls Tryz.prog 138 #[.pointer (some ⟨b, 0, none⟩), .agg #[.int .i64 op, .slice pa la ca, .slice ps st.length cc, .string aa, .int .i64 cm, .string tx, .int .i64 nu]] W (Ak.WrE w0 B b W (out ++ Ak.wC (Ak.cSs st) aa)) := by
  obtain ⟨ls, hls⟩ : ∃ k, st.length = k := ⟨_, rfl⟩
  have hCP := fun (w : World) (o3 : List UInt8) (h1 : Ak.PrS w0 B b o3 w) (h2 : o3.length + (Ak.wP true (Ak.cSs st)).length ≤ 70368744177664) => hpp ps cc hrow hg w o3 h1 h2
  rw [hls] at hCP ⊢
  have hal := Ak.alone_no st
  obtain ⟨h1, h2, h3⟩ := hrow
  rw [hls] at h1 h3 hal
  obtain ⟨wp, hwp⟩ : ∃ u, Ak.wP true (Ak.cSs st) = u := ⟨_, rfl⟩
  obtain ⟨ans, hans⟩ : ∃ a, out ++ Ak.wC (Ak.cSs st) aa = a := ⟨_, rfl⟩
  rw [hans]
  unfold Ak.wC at hans hL
  rw [hwp] at hans hL hCP
  have HCP := hide' hCP
  have hbox : Below W.heap.size W (W.alloc (.cells #[.int .i64 op, .slice pa la ca, .slice ps ls cc, .string aa, .int .i64 cm, .string tx, .int .i64 nu] 121)) := (Below.refl _ _).alloc (Nat.le_refl _) _
  have HP1 := hide' (hP.below hbox)
  have HK1 : Hid (Ak.Kp b W (W.alloc (.cells #[.int .i64 op, .slice pa la ca, .slice ps ls cc, .string aa, .int .i64 cm, .string tx, .int .i64 nu] 121))) := hide' (Ak.Kp.of_below hbox)
  have HX1 := hide' (Ak.heap_new W (.cells #[.int .i64 op, .slice pa la ca, .slice ps ls cc, .string aa, .int .i64 cm, .string tx, .int .i64 nu] 121))
  have hbl := (Ak.IsB.lt hP.ib).2
  have s1 : (W.alloc (.cells #[.int .i64 op, .slice pa la ca, .slice ps ls cc, .string aa, .int .i64 cm, .string tx, .int .i64 nu] 121)).heap.size = W.heap.size + 1 := World.size_alloc W _
  obtain ⟨te, hte⟩ : ∃ t, Ak.em aa = t := ⟨_, rfl⟩
  rw [hte] at hans hL
  unfold Ak.em at hte
  clear hpp hg hwp hP hCP hbox
  by_cases hl1 : ls = 1
  · have g1 : ((ls : Int) == 1) = true := by simp; omega
    have t1 : (0 : Int) < (ls : Int) := by omega
    obtain ⟨g, o, rfl, hel⟩ := h3 (by omega)
    obtain ⟨x, hx⟩ := List.length_eq_one_iff.1 (hls.trans hl1)
    obtain ⟨hrg, _⟩ := hel 0 x (by rw [hx]; rfl)
    rw [Nat.zero_mul, Nat.add_zero] at hrg
    obtain ⟨ax, te', nm, pw, cw, lw⟩ := x
    obtain ⟨lx, hlx⟩ : ∃ lx, lw.length = lx := ⟨_, rfl⟩
    have hrg2 : w0.rangeAt g o [.int .i64 ax, .int .i64 te', .string nm, .slice pw lx cw] := by rw [← hlx]; exact hrg
    have ha1 : Ak.aloneB (Ak.cSs st) = Ak.hereB ax te' lx := by rw [hx, ← hlx]; exact Ak.alone_one _ ax te' nm pw cw lw rfl
    rw [ha1] at hans hL
    have q0 := HP1.out.cell (hrg2 0 _ rfl)
    have q1 := HP1.out.cell (hrg2 1 _ rfl)
    have q2 := HP1.out.cell (hrg2 2 _ rfl)
    have q3 := HP1.out.cell (hrg2 3 _ rfl)
    rw [Nat.add_zero] at q0
    have CH := wrHere (W.alloc (.cells #[.int .i64 op, .slice pa la ca, .slice (some ⟨g, o, none⟩) ls cc, .string aa, .int .i64 cm, .string tx, .int .i64 nu] 121)) ax te' nm pw lx cw
    obtain ⟨t, ht⟩ : ∃ t, Ak.hereB ax te' lx = t := ⟨_, rfl⟩
    rw [ht] at CH hans hL
    have HAn := hide' hans
    have HLt := hide' hL
    clear h1 h2 h3 hls hal hel hrg hrg2 hx hlx ha1 ht hl1 hans hL
    cases te with
    | true =>
      go_enter Tryz.func138, Tryz.ntmps138
      go_wp2_with fail
      refine CH.mono ?_
      rintro e w2 ⟨rfl, hb2⟩
      have HP2 := hide' (HP1.out.below hb2)
      have HK2 := hide' (HK1.out.trans (Ak.Kp.of_below (b := b) hb2))
      have HX2 := hide' ((hb2.block W.heap.size (by omega)).trans HX1.out)
      have c2_0 : w2.cell? ⟨W.heap.size, 0, none⟩ = some (.int .i64 op) := by rw [Lib.cell_of_heap HX2.out]; rfl
      have c2_1 : w2.cell? ⟨W.heap.size, 1, none⟩ = some (.slice pa la ca) := by rw [Lib.cell_of_heap HX2.out]; rfl
      have c2_2 : w2.cell? ⟨W.heap.size, 2, none⟩ = some (.slice (some ⟨g, o, none⟩) ls cc) := by rw [Lib.cell_of_heap HX2.out]; rfl
      have c2_3 : w2.cell? ⟨W.heap.size, 3, none⟩ = some (.string aa) := by rw [Lib.cell_of_heap HX2.out]; rfl
      have c2_4 : w2.cell? ⟨W.heap.size, 4, none⟩ = some (.int .i64 cm) := by rw [Lib.cell_of_heap HX2.out]; rfl
      have c2_5 : w2.cell? ⟨W.heap.size, 5, none⟩ = some (.string tx) := by rw [Lib.cell_of_heap HX2.out]; rfl
      have c2_6 : w2.cell? ⟨W.heap.size, 6, none⟩ = some (.int .i64 nu) := by rw [Lib.cell_of_heap HX2.out]; rfl
      clear hb2 CH
      go_wp2_with fail
      refine (HCP.out _ _ HP2.out (by have := HLt.out; simp at this ⊢; omega)).mono ?_
      rintro e w3 ⟨rfl, hp, hk⟩
      have HP3 := hide' hp
      have HK3 := hide' (HK2.out.trans hk)
      have HX3 := hide' (hk.keep HX2.out (by omega) (by decide))
      have c3_0 : w3.cell? ⟨W.heap.size, 0, none⟩ = some (.int .i64 op) := by rw [Lib.cell_of_heap HX3.out]; rfl
      have c3_1 : w3.cell? ⟨W.heap.size, 1, none⟩ = some (.slice pa la ca) := by rw [Lib.cell_of_heap HX3.out]; rfl
      have c3_2 : w3.cell? ⟨W.heap.size, 2, none⟩ = some (.slice (some ⟨g, o, none⟩) ls cc) := by rw [Lib.cell_of_heap HX3.out]; rfl
      have c3_3 : w3.cell? ⟨W.heap.size, 3, none⟩ = some (.string aa) := by rw [Lib.cell_of_heap HX3.out]; rfl
      have c3_4 : w3.cell? ⟨W.heap.size, 4, none⟩ = some (.int .i64 cm) := by rw [Lib.cell_of_heap HX3.out]; rfl
      have c3_5 : w3.cell? ⟨W.heap.size, 5, none⟩ = some (.string tx) := by rw [Lib.cell_of_heap HX3.out]; rfl
      have c3_6 : w3.cell? ⟨W.heap.size, 6, none⟩ = some (.int .i64 nu) := by rw [Lib.cell_of_heap HX3.out]; rfl
      clear hp hk
      go_wp2_with fail
      first | go_end0 | refine bodyPost_ret (results_none rfl _ _ _) rfl ?_
      have hE : out ++ wp = ans := by rw [← HAn.out]; simp
      exact ⟨rfl, hE ▸ HP3.out, HK3.out⟩
    | false =>
      cases t with
      | true =>
        go_enter Tryz.func138, Tryz.ntmps138
        go_wp2_with fail
        refine CH.mono ?_
        rintro e w2 ⟨rfl, hb2⟩
        have HP2 := hide' (HP1.out.below hb2)
        have HK2 := hide' (HK1.out.trans (Ak.Kp.of_below (b := b) hb2))
        have HX2 := hide' ((hb2.block W.heap.size (by omega)).trans HX1.out)
        have c2_0 : w2.cell? ⟨W.heap.size, 0, none⟩ = some (.int .i64 op) := by rw [Lib.cell_of_heap HX2.out]; rfl
        have c2_1 : w2.cell? ⟨W.heap.size, 1, none⟩ = some (.slice pa la ca) := by rw [Lib.cell_of_heap HX2.out]; rfl
        have c2_2 : w2.cell? ⟨W.heap.size, 2, none⟩ = some (.slice (some ⟨g, o, none⟩) ls cc) := by rw [Lib.cell_of_heap HX2.out]; rfl
        have c2_3 : w2.cell? ⟨W.heap.size, 3, none⟩ = some (.string aa) := by rw [Lib.cell_of_heap HX2.out]; rfl
        have c2_4 : w2.cell? ⟨W.heap.size, 4, none⟩ = some (.int .i64 cm) := by rw [Lib.cell_of_heap HX2.out]; rfl
        have c2_5 : w2.cell? ⟨W.heap.size, 5, none⟩ = some (.string tx) := by rw [Lib.cell_of_heap HX2.out]; rfl
        have c2_6 : w2.cell? ⟨W.heap.size, 6, none⟩ = some (.int .i64 nu) := by rw [Lib.cell_of_heap HX2.out]; rfl
        clear hb2 CH
        go_wp2_with fail
        refine (wrByte (w0 := w0) (B := B) (b := b) HP2.out (by have := HLt.out; simp at this ⊢; omega) 64).mono ?_
        rintro e w3 ⟨rfl, hp, hk⟩
        have HP3 := hide' hp
        have HK3 := hide' (HK2.out.trans hk)
        have HX3 := hide' (hk.keep HX2.out (by omega) (by decide))
        have c3_0 : w3.cell? ⟨W.heap.size, 0, none⟩ = some (.int .i64 op) := by rw [Lib.cell_of_heap HX3.out]; rfl
        have c3_1 : w3.cell? ⟨W.heap.size, 1, none⟩ = some (.slice pa la ca) := by rw [Lib.cell_of_heap HX3.out]; rfl
        have c3_2 : w3.cell? ⟨W.heap.size, 2, none⟩ = some (.slice (some ⟨g, o, none⟩) ls cc) := by rw [Lib.cell_of_heap HX3.out]; rfl
        have c3_3 : w3.cell? ⟨W.heap.size, 3, none⟩ = some (.string aa) := by rw [Lib.cell_of_heap HX3.out]; rfl
        have c3_4 : w3.cell? ⟨W.heap.size, 4, none⟩ = some (.int .i64 cm) := by rw [Lib.cell_of_heap HX3.out]; rfl
        have c3_5 : w3.cell? ⟨W.heap.size, 5, none⟩ = some (.string tx) := by rw [Lib.cell_of_heap HX3.out]; rfl
        have c3_6 : w3.cell? ⟨W.heap.size, 6, none⟩ = some (.int .i64 nu) := by rw [Lib.cell_of_heap HX3.out]; rfl
        clear hp hk
        go_wp2_with fail
        refine (wrStr (w0 := w0) (B := B) (b := b) HP3.out aa (by have := HLt.out; simp at this ⊢; omega)).mono ?_
        rintro e w4 ⟨rfl, hp, hk⟩
        have HP4 := hide' hp
        have HK4 := hide' (HK3.out.trans hk)
        clear hp hk
        go_wp2_with fail
        first | go_end0 | refine bodyPost_ret (results_none rfl _ _ _) rfl ?_
        have hE : (out ++ [64]) ++ Ak.by_ aa = ans := by rw [← HAn.out]; simp
        exact ⟨rfl, hE ▸ HP4.out, HK4.out⟩
      | false =>
        go_enter Tryz.func138, Tryz.ntmps138
        go_wp2_with fail
        refine CH.mono ?_
        rintro e w2 ⟨rfl, hb2⟩
        have HP2 := hide' (HP1.out.below hb2)
        have HK2 := hide' (HK1.out.trans (Ak.Kp.of_below (b := b) hb2))
        have HX2 := hide' ((hb2.block W.heap.size (by omega)).trans HX1.out)
        have c2_0 : w2.cell? ⟨W.heap.size, 0, none⟩ = some (.int .i64 op) := by rw [Lib.cell_of_heap HX2.out]; rfl
        have c2_1 : w2.cell? ⟨W.heap.size, 1, none⟩ = some (.slice pa la ca) := by rw [Lib.cell_of_heap HX2.out]; rfl
        have c2_2 : w2.cell? ⟨W.heap.size, 2, none⟩ = some (.slice (some ⟨g, o, none⟩) ls cc) := by rw [Lib.cell_of_heap HX2.out]; rfl
        have c2_3 : w2.cell? ⟨W.heap.size, 3, none⟩ = some (.string aa) := by rw [Lib.cell_of_heap HX2.out]; rfl
        have c2_4 : w2.cell? ⟨W.heap.size, 4, none⟩ = some (.int .i64 cm) := by rw [Lib.cell_of_heap HX2.out]; rfl
        have c2_5 : w2.cell? ⟨W.heap.size, 5, none⟩ = some (.string tx) := by rw [Lib.cell_of_heap HX2.out]; rfl
        have c2_6 : w2.cell? ⟨W.heap.size, 6, none⟩ = some (.int .i64 nu) := by rw [Lib.cell_of_heap HX2.out]; rfl
        clear hb2 CH
        go_wp2_with fail
        refine (HCP.out _ _ HP2.out (by have := HLt.out; simp at this ⊢; omega)).mono ?_
        rintro e w3 ⟨rfl, hp, hk⟩
        have HP3 := hide' hp
        have HK3 := hide' (HK2.out.trans hk)
        have HX3 := hide' (hk.keep HX2.out (by omega) (by decide))
        have c3_0 : w3.cell? ⟨W.heap.size, 0, none⟩ = some (.int .i64 op) := by rw [Lib.cell_of_heap HX3.out]; rfl
        have c3_1 : w3.cell? ⟨W.heap.size, 1, none⟩ = some (.slice pa la ca) := by rw [Lib.cell_of_heap HX3.out]; rfl
        have c3_2 : w3.cell? ⟨W.heap.size, 2, none⟩ = some (.slice (some ⟨g, o, none⟩) ls cc) := by rw [Lib.cell_of_heap HX3.out]; rfl
        have c3_3 : w3.cell? ⟨W.heap.size, 3, none⟩ = some (.string aa) := by rw [Lib.cell_of_heap HX3.out]; rfl
        have c3_4 : w3.cell? ⟨W.heap.size, 4, none⟩ = some (.int .i64 cm) := by rw [Lib.cell_of_heap HX3.out]; rfl
        have c3_5 : w3.cell? ⟨W.heap.size, 5, none⟩ = some (.string tx) := by rw [Lib.cell_of_heap HX3.out]; rfl
        have c3_6 : w3.cell? ⟨W.heap.size, 6, none⟩ = some (.int .i64 nu) := by rw [Lib.cell_of_heap HX3.out]; rfl
        clear hp hk
        go_wp2_with fail
        refine (wrByte (w0 := w0) (B := B) (b := b) HP3.out (by have := HLt.out; simp at this ⊢; omega) 47).mono ?_
        rintro e w4 ⟨rfl, hp, hk⟩
        have HP4 := hide' hp
        have HK4 := hide' (HK3.out.trans hk)
        have HX4 := hide' (hk.keep HX3.out (by omega) (by decide))
        have c4_0 : w4.cell? ⟨W.heap.size, 0, none⟩ = some (.int .i64 op) := by rw [Lib.cell_of_heap HX4.out]; rfl
        have c4_1 : w4.cell? ⟨W.heap.size, 1, none⟩ = some (.slice pa la ca) := by rw [Lib.cell_of_heap HX4.out]; rfl
        have c4_2 : w4.cell? ⟨W.heap.size, 2, none⟩ = some (.slice (some ⟨g, o, none⟩) ls cc) := by rw [Lib.cell_of_heap HX4.out]; rfl
        have c4_3 : w4.cell? ⟨W.heap.size, 3, none⟩ = some (.string aa) := by rw [Lib.cell_of_heap HX4.out]; rfl
        have c4_4 : w4.cell? ⟨W.heap.size, 4, none⟩ = some (.int .i64 cm) := by rw [Lib.cell_of_heap HX4.out]; rfl
        have c4_5 : w4.cell? ⟨W.heap.size, 5, none⟩ = some (.string tx) := by rw [Lib.cell_of_heap HX4.out]; rfl
        have c4_6 : w4.cell? ⟨W.heap.size, 6, none⟩ = some (.int .i64 nu) := by rw [Lib.cell_of_heap HX4.out]; rfl
        clear hp hk
        go_wp2_with fail
        refine (wrByte (w0 := w0) (B := B) (b := b) HP4.out (by have := HLt.out; simp at this ⊢; omega) 64).mono ?_
        rintro e w5 ⟨rfl, hp, hk⟩
        have HP5 := hide' hp
        have HK5 := hide' (HK4.out.trans hk)
        have HX5 := hide' (hk.keep HX4.out (by omega) (by decide))
        have c5_0 : w5.cell? ⟨W.heap.size, 0, none⟩ = some (.int .i64 op) := by rw [Lib.cell_of_heap HX5.out]; rfl
        have c5_1 : w5.cell? ⟨W.heap.size, 1, none⟩ = some (.slice pa la ca) := by rw [Lib.cell_of_heap HX5.out]; rfl
        have c5_2 : w5.cell? ⟨W.heap.size, 2, none⟩ = some (.slice (some ⟨g, o, none⟩) ls cc) := by rw [Lib.cell_of_heap HX5.out]; rfl
        have c5_3 : w5.cell? ⟨W.heap.size, 3, none⟩ = some (.string aa) := by rw [Lib.cell_of_heap HX5.out]; rfl
        have c5_4 : w5.cell? ⟨W.heap.size, 4, none⟩ = some (.int .i64 cm) := by rw [Lib.cell_of_heap HX5.out]; rfl
        have c5_5 : w5.cell? ⟨W.heap.size, 5, none⟩ = some (.string tx) := by rw [Lib.cell_of_heap HX5.out]; rfl
        have c5_6 : w5.cell? ⟨W.heap.size, 6, none⟩ = some (.int .i64 nu) := by rw [Lib.cell_of_heap HX5.out]; rfl
        clear hp hk
        go_wp2_with fail
        refine (wrStr (w0 := w0) (B := B) (b := b) HP5.out aa (by have := HLt.out; simp at this ⊢; omega)).mono ?_
        rintro e w6 ⟨rfl, hp, hk⟩
        have HP6 := hide' hp
        have HK6 := hide' (HK5.out.trans hk)
        clear hp hk
        go_wp2_with fail
        first | go_end0 | refine bodyPost_ret (results_none rfl _ _ _) rfl ?_
        have hE : (((out ++ wp) ++ [47]) ++ [64]) ++ Ak.by_ aa = ans := by rw [← HAn.out]; simp
        exact ⟨rfl, hE ▸ HP6.out, HK6.out⟩
  · have g1 : ((ls : Int) == 1) = false := by simp; omega
    rw [hal hl1] at hans hL
    have HAn := hide' hans
    have HLt := hide' hL
    clear h1 h2 h3 hls hal hl1 hans hL
    cases te with
    | true =>
      go_enter Tryz.func138, Tryz.ntmps138
      go_wp2_with fail
      refine (HCP.out _ _ HP1.out (by have := HLt.out; simp at this ⊢; omega)).mono ?_
      rintro e w2 ⟨rfl, hp, hk⟩
      have HP2 := hide' hp
      have HK2 := hide' (HK1.out.trans hk)
      have HX2 := hide' (hk.keep HX1.out (by omega) (by decide))
      have c2_0 : w2.cell? ⟨W.heap.size, 0, none⟩ = some (.int .i64 op) := by rw [Lib.cell_of_heap HX2.out]; rfl
      have c2_1 : w2.cell? ⟨W.heap.size, 1, none⟩ = some (.slice pa la ca) := by rw [Lib.cell_of_heap HX2.out]; rfl
      have c2_2 : w2.cell? ⟨W.heap.size, 2, none⟩ = some (.slice ps ls cc) := by rw [Lib.cell_of_heap HX2.out]; rfl
      have c2_3 : w2.cell? ⟨W.heap.size, 3, none⟩ = some (.string aa) := by rw [Lib.cell_of_heap HX2.out]; rfl
      have c2_4 : w2.cell? ⟨W.heap.size, 4, none⟩ = some (.int .i64 cm) := by rw [Lib.cell_of_heap HX2.out]; rfl
      have c2_5 : w2.cell? ⟨W.heap.size, 5, none⟩ = some (.string tx) := by rw [Lib.cell_of_heap HX2.out]; rfl
      have c2_6 : w2.cell? ⟨W.heap.size, 6, none⟩ = some (.int .i64 nu) := by rw [Lib.cell_of_heap HX2.out]; rfl
      clear hp hk
      go_wp2_with fail
      first | go_end0 | refine bodyPost_ret (results_none rfl _ _ _) rfl ?_
      have hE : out ++ wp = ans := by rw [← HAn.out]; simp
      exact ⟨rfl, hE ▸ HP2.out, HK2.out⟩
    | false =>
      go_enter Tryz.func138, Tryz.ntmps138
      go_wp2_with fail
      refine (HCP.out _ _ HP1.out (by have := HLt.out; simp at this ⊢; omega)).mono ?_
      rintro e w2 ⟨rfl, hp, hk⟩
      have HP2 := hide' hp
      have HK2 := hide' (HK1.out.trans hk)
      have HX2 := hide' (hk.keep HX1.out (by omega) (by decide))
      have c2_0 : w2.cell? ⟨W.heap.size, 0, none⟩ = some (.int .i64 op) := by rw [Lib.cell_of_heap HX2.out]; rfl
      have c2_1 : w2.cell? ⟨W.heap.size, 1, none⟩ = some (.slice pa la ca) := by rw [Lib.cell_of_heap HX2.out]; rfl
      have c2_2 : w2.cell? ⟨W.heap.size, 2, none⟩ = some (.slice ps ls cc) := by rw [Lib.cell_of_heap HX2.out]; rfl
      have c2_3 : w2.cell? ⟨W.heap.size, 3, none⟩ = some (.string aa) := by rw [Lib.cell_of_heap HX2.out]; rfl
      have c2_4 : w2.cell? ⟨W.heap.size, 4, none⟩ = some (.int .i64 cm) := by rw [Lib.cell_of_heap HX2.out]; rfl
      have c2_5 : w2.cell? ⟨W.heap.size, 5, none⟩ = some (.string tx) := by rw [Lib.cell_of_heap HX2.out]; rfl
      have c2_6 : w2.cell? ⟨W.heap.size, 6, none⟩ = some (.int .i64 nu) := by rw [Lib.cell_of_heap HX2.out]; rfl
      clear hp hk
      go_wp2_with fail
      refine (wrByte (w0 := w0) (B := B) (b := b) HP2.out (by have := HLt.out; simp at this ⊢; omega) 47).mono ?_
      rintro e w3 ⟨rfl, hp, hk⟩
      have HP3 := hide' hp
      have HK3 := hide' (HK2.out.trans hk)
      have HX3 := hide' (hk.keep HX2.out (by omega) (by decide))
      have c3_0 : w3.cell? ⟨W.heap.size, 0, none⟩ = some (.int .i64 op) := by rw [Lib.cell_of_heap HX3.out]; rfl
      have c3_1 : w3.cell? ⟨W.heap.size, 1, none⟩ = some (.slice pa la ca) := by rw [Lib.cell_of_heap HX3.out]; rfl
      have c3_2 : w3.cell? ⟨W.heap.size, 2, none⟩ = some (.slice ps ls cc) := by rw [Lib.cell_of_heap HX3.out]; rfl
      have c3_3 : w3.cell? ⟨W.heap.size, 3, none⟩ = some (.string aa) := by rw [Lib.cell_of_heap HX3.out]; rfl
      have c3_4 : w3.cell? ⟨W.heap.size, 4, none⟩ = some (.int .i64 cm) := by rw [Lib.cell_of_heap HX3.out]; rfl
      have c3_5 : w3.cell? ⟨W.heap.size, 5, none⟩ = some (.string tx) := by rw [Lib.cell_of_heap HX3.out]; rfl
      have c3_6 : w3.cell? ⟨W.heap.size, 6, none⟩ = some (.int .i64 nu) := by rw [Lib.cell_of_heap HX3.out]; rfl
      clear hp hk
      go_wp2_with fail
      refine (wrByte (w0 := w0) (B := B) (b := b) HP3.out (by have := HLt.out; simp at this ⊢; omega) 64).mono ?_
      rintro e w4 ⟨rfl, hp, hk⟩
      have HP4 := hide' hp
      have HK4 := hide' (HK3.out.trans hk)
      have HX4 := hide' (hk.keep HX3.out (by omega) (by decide))
      have c4_0 : w4.cell? ⟨W.heap.size, 0, none⟩ = some (.int .i64 op) := by rw [Lib.cell_of_heap HX4.out]; rfl
      have c4_1 : w4.cell? ⟨W.heap.size, 1, none⟩ = some (.slice pa la ca) := by rw [Lib.cell_of_heap HX4.out]; rfl
      have c4_2 : w4.cell? ⟨W.heap.size, 2, none⟩ = some (.slice ps ls cc) := by rw [Lib.cell_of_heap HX4.out]; rfl
      have c4_3 : w4.cell? ⟨W.heap.size, 3, none⟩ = some (.string aa) := by rw [Lib.cell_of_heap HX4.out]; rfl
      have c4_4 : w4.cell? ⟨W.heap.size, 4, none⟩ = some (.int .i64 cm) := by rw [Lib.cell_of_heap HX4.out]; rfl
      have c4_5 : w4.cell? ⟨W.heap.size, 5, none⟩ = some (.string tx) := by rw [Lib.cell_of_heap HX4.out]; rfl
      have c4_6 : w4.cell? ⟨W.heap.size, 6, none⟩ = some (.int .i64 nu) := by rw [Lib.cell_of_heap HX4.out]; rfl
      clear hp hk
      go_wp2_with fail
      refine (wrStr (w0 := w0) (B := B) (b := b) HP4.out aa (by have := HLt.out; simp at this ⊢; omega)).mono ?_
      rintro e w5 ⟨rfl, hp, hk⟩
      have HP5 := hide' hp
      have HK5 := hide' (HK4.out.trans hk)
      clear hp hk
      go_wp2_with fail
      first | go_end0 | refine bodyPost_ret (results_none rfl _ _ _) rfl ?_
      have hE : (((out ++ wp) ++ [47]) ++ [64]) ++ Ak.by_ aa = ans := by rw [← HAn.out]; simp
      exact ⟨rfl, hE ▸ HP5.out, HK5.out⟩
end Go.Proofs.YtcnagbkdckipnaaGreatDoor

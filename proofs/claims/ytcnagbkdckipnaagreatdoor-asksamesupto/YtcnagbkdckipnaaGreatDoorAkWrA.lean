/-
  THE WALK over ask.writeParts (gen_akwr.py writes this text).
-/
import Derived.Test.YtcnagbkdckipnaaGreatDoorAkWrS
namespace Go.Proofs.YtcnagbkdckipnaaGreatDoor
open Go.RowKit Go.Lib Go.Sort
set_option maxRecDepth 100000 in
set_option maxHeartbeats 16000000 in
theorem wrParts {w0 : World} {B b : Nat} (oo : Int) (po : Option Addr) (co : Nat) (l : List Ak.Xv) (so : Option Addr) (sco ns : Nat) (ao : ByteArray) (mo : Int) (to_ : ByteArray) (no : Int) (bt : ByteArray) (hrow : Ak.RowX w0 po co l) (hgx : Ak.gXs (Ak.cXs l)) (ih : ∀ a ∈ l, Ak.WrXX w0 B b a) (W : World) (out : List UInt8) (hP : Ak.PrS w0 B b out W) (hL : out.length + (Ak.wA oo (Ak.by_ bt) true (Ak.cXs l)).length ≤ 70368744177664) :
    Calls Tryz.prog 130 #[.pointer (some ⟨b, 0, none⟩), .agg #[.int .i64 oo, .slice po l.length co, .slice so ns sco, .string ao, .int .i64 mo, .string to_, .int .i64 no], .string bt] W (Ak.WrE w0 B b W (out ++ Ak.wA oo (Ak.by_ bt) true (Ak.cXs l))) := by
  obtain ⟨h1, h2, h3⟩ := hrow
  obtain ⟨n, hn⟩ : ∃ n, l.length = n := ⟨_, rfl⟩
  rw [hn] at h1 h3 ⊢
  obtain ⟨ans, hans⟩ : ∃ a, out ++ Ak.wA oo (Ak.by_ bt) true (Ak.cXs l) = a := ⟨_, rfl⟩
  rw [hans]
  have hbox : Below W.heap.size W (W.alloc (.cells #[.int .i64 oo, .slice po n co, .slice so ns sco, .string ao, .int .i64 mo, .string to_, .int .i64 no] 121)) := (Below.refl _ _).alloc (Nat.le_refl _) _
  have HA0 : Hid (out ++ Ak.wA oo (Ak.by_ bt) true (Ak.cXs (l.drop 0)) = ans) := hide' (by rw [List.drop_zero]; exact hans)
  have HL0 : Hid (out.length + (Ak.wA oo (Ak.by_ bt) true (Ak.cXs (l.drop 0))).length ≤ 70368744177664) := hide' (by rw [List.drop_zero]; exact hL)
  have HP0 := hide' (hP.below hbox)
  have HK0 : Hid (Ak.Kp b W (W.alloc (.cells #[.int .i64 oo, .slice po n co, .slice so ns sco, .string ao, .int .i64 mo, .string to_, .int .i64 no] 121))) := hide' (Ak.Kp.of_below hbox)
  have HX0 := hide' (Ak.heap_new W (.cells #[.int .i64 oo, .slice po n co, .slice so ns sco, .string ao, .int .i64 mo, .string to_, .int .i64 no] 121))
  have hbl := (Ak.IsB.lt hP.ib).2
  have HN := hide' hn
  have HNC : Hid (n ≤ 9223372036854775807) := hide' (by omega)
  have H3 := hide' h3
  have HG := hide' hgx
  have IH := hide' ih
  clear h1 h2 h3 hgx hP hL ih hn hans hbox
  go_enter Tryz.func130, Tryz.ntmps130
  go_wp2_with fail
  go_loopw [11] (fun v wr => ∃ (i : Nat) (o2 : List UInt8), v = .int .i64 i ∧ i ≤ n ∧ Hid (o2 ++ Ak.wA oo (Ak.by_ bt) (decide (i = 0)) (Ak.cXs (l.drop i)) = ans) ∧ Hid (o2.length + (Ak.wA oo (Ak.by_ bt) (decide (i = 0)) (Ak.cXs (l.drop i))).length ≤ 70368744177664) ∧ Hid (Ak.PrS w0 B b o2 wr) ∧ Hid (Ak.Kp b W wr) ∧ Hid (wr.heap[W.heap.size]? = some (.cells #[.int .i64 oo, .slice po n co, .slice so ns sco, .string ao, .int .i64 mo, .string to_, .int .i64 no] 121 (0, 0)))) (fun v _ => n - (RowKit.intOf v).toNat)
  case atStart => exact ⟨0, out, rfl, Nat.zero_le _, HA0, HL0, HP0, HK0, HX0⟩
  case round =>
    obtain ⟨i, o2, rfl, hi, HA, HL, HP, HK, HX⟩ := hrel
    clear HA0 HL0 HP0 HK0 HX0
    by_cases hlt : i < n
    · have t1 : (i : Int) < (n : Int) := by omega
      have t0 : (0 : Int) ≤ i := by omega
      obtain ⟨g, o, rfl, hel⟩ := H3.out (by omega)
      obtain ⟨x, hx⟩ : ∃ x, l[i]? = some x := ⟨_, List.getElem?_eq_getElem (by rw [HN.out]; exact hlt)⟩
      obtain ⟨hrg, hok⟩ := hel i x hx
      have hcl := IH.out x (List.mem_of_getElem? hx) hok (Ak.gXs_at l i x HG.out hx)
      have hst := Ak.wA_at oo (Ak.by_ bt) (decide (i = 0)) l i x hx
      have ha := HA.out
      have hl := HL.out
      rw [hst] at ha hl
      obtain ⟨ws, hws⟩ : ∃ u, Ak.wX (Ak.cX x) = u := ⟨_, rfl⟩
      rw [hws] at ha hl hcl
      obtain ⟨rr, hrr⟩ : ∃ u, Ak.wA oo (Ak.by_ bt) false (Ak.cXs (l.drop (i + 1))) = u := ⟨_, rfl⟩
      rw [hrr] at ha hl
      have HRR := hide' hrr
      obtain ⟨op, pa, ca, ar, ps, cc, st', aa, cm, tx, nu⟩ := x
      rw [show Ak.opX (Ak.cX (.mk op pa ca ar ps cc st' aa cm tx nu)) = op by simp [Ak.cX, Ak.opX]] at ha hl
      obtain ⟨la, hla⟩ : ∃ k, ar.length = k := ⟨_, rfl⟩
      obtain ⟨ls, hls⟩ : ∃ k, st'.length = k := ⟨_, rfl⟩
      have hrg2 : w0.rangeAt g (o + i * 7) [.int .i64 op, .slice pa la ca, .slice ps ls cc, .string aa, .int .i64 cm, .string tx, .int .i64 nu] := by rw [← hla, ← hls]; exact hrg
      have HC : Hid (∀ (w : World) (o3 : List UInt8), Ak.PrS w0 B b o3 w → o3.length + ws.length ≤ 70368744177664 → Calls Tryz.prog 117 #[.pointer (some ⟨b, 0, none⟩), .agg #[.int .i64 op, .slice pa la ca, .slice ps ls cc, .string aa, .int .i64 cm, .string tx, .int .i64 nu]] w (Ak.WrE w0 B b w (o3 ++ ws))) := hide' (fun w o3 h1 h2 => by rw [← hla, ← hls]; exact hcl w o3 h1 h2)
      have hEl : Below wr.heap.size wr (wr.alloc (.cells #[.int .i64 op, .slice pa la ca, .slice ps ls cc, .string aa, .int .i64 cm, .string tx, .int .i64 nu] 121)) := (Below.refl _ _).alloc (Nat.le_refl _) _
      have HPa := hide' (HP.out.below hEl)
      have HKa := hide' (HK.out.trans (Ak.Kp.of_below (b := b) hEl))
      have HEa := hide' (Ak.heap_new wr (.cells #[.int .i64 op, .slice pa la ca, .slice ps ls cc, .string aa, .int .i64 cm, .string tx, .int .i64 nu] 121))
      have hwl := (Array.getElem?_eq_some_iff.1 HX.out).1
      have HXa := hide' ((hEl.block W.heap.size hwl).trans HX.out)
      have hbr := (Ak.IsB.lt HP.out.ib).2
      have sa : (wr.alloc (.cells #[.int .i64 op, .slice pa la ca, .slice ps ls cc, .string aa, .int .i64 cm, .string tx, .int .i64 nu] 121)).heap.size = wr.heap.size + 1 := World.size_alloc wr _
      have q0 := HP.out.cell (hrg2 0 _ rfl)
      have q1 := HP.out.cell (hrg2 1 _ rfl)
      have q2 := HP.out.cell (hrg2 2 _ rfl)
      have q3 := HP.out.cell (hrg2 3 _ rfl)
      have q4 := HP.out.cell (hrg2 4 _ rfl)
      have q5 := HP.out.cell (hrg2 5 _ rfl)
      have q6 := HP.out.cell (hrg2 6 _ rfl)
      rw [Nat.add_zero] at q0
      have bx : wr.cell? ⟨W.heap.size, 0, none⟩ = some (.int .i64 oo) := by rw [Lib.cell_of_heap HX.out]; rfl
      have tw : IntKind.i64.wrap ((i : Int) + 1) = (i : Int) + 1 := by have := HNC.out; rw [IntKind.wrap_i64]; omega
      obtain ⟨t, ht⟩ : ∃ t, Ak.nbB oo op = t := ⟨_, rfl⟩
      have CN := hide' (fun w : World => ht ▸ ckNeeds w oo op)
      rw [ht] at ha hl
      have h1i : decide (i + 1 = 0) = false := by simp
      clear hel hrg hrg2 hok hcl hst hx hla hls hws hrr HA HL HP HK HX H3 IH HG hEl ht
      by_cases h0 : i = 0
      · have t2 : ¬ (0 : Int) < (i : Int) := by omega
        rw [show (decide (i = 0)) = true from decide_eq_true h0, if_pos rfl, List.nil_append] at ha hl
        have bx1 : (wr.alloc (.cells #[.int .i64 op, .slice pa la ca, .slice ps ls cc, .string aa, .int .i64 cm, .string tx, .int .i64 nu] 121)).cell? ⟨W.heap.size, 0, none⟩ = some (.int .i64 oo) := by rw [Lib.cell_of_heap HXa.out]; rfl
        clear h0
        cases t with
        | true =>
          rw [if_pos rfl] at ha hl
          have HAx := hide' ha
          have HLx := hide' hl
          clear ha hl
          go_wp2_with fail
          refine (CN.out _).mono ?_
          rintro e wf ⟨rfl, hb⟩
          have HPf := hide' (HPa.out.below hb)
          have HKf := hide' (HKa.out.trans (Ak.Kp.of_below (b := b) hb))
          have HEf := hide' ((hb.block wr.heap.size (Array.getElem?_eq_some_iff.1 HEa.out).1).trans HEa.out)
          have HXf := hide' ((hb.block W.heap.size (Array.getElem?_eq_some_iff.1 HXa.out).1).trans HXa.out)
          have f0 : wf.cell? ⟨wr.heap.size, 0, none⟩ = some (.int .i64 op) := by rw [Lib.cell_of_heap HEf.out]; rfl
          have f1 : wf.cell? ⟨wr.heap.size, 1, none⟩ = some (.slice pa la ca) := by rw [Lib.cell_of_heap HEf.out]; rfl
          have f2 : wf.cell? ⟨wr.heap.size, 2, none⟩ = some (.slice ps ls cc) := by rw [Lib.cell_of_heap HEf.out]; rfl
          have f3 : wf.cell? ⟨wr.heap.size, 3, none⟩ = some (.string aa) := by rw [Lib.cell_of_heap HEf.out]; rfl
          have f4 : wf.cell? ⟨wr.heap.size, 4, none⟩ = some (.int .i64 cm) := by rw [Lib.cell_of_heap HEf.out]; rfl
          have f5 : wf.cell? ⟨wr.heap.size, 5, none⟩ = some (.string tx) := by rw [Lib.cell_of_heap HEf.out]; rfl
          have f6 : wf.cell? ⟨wr.heap.size, 6, none⟩ = some (.int .i64 nu) := by rw [Lib.cell_of_heap HEf.out]; rfl
          have fx : wf.cell? ⟨W.heap.size, 0, none⟩ = some (.int .i64 oo) := by rw [Lib.cell_of_heap HXf.out]; rfl
          clear hb
          clear CN
          go_wp2_with fail
          refine (wrByte (w0 := w0) (B := B) (b := b) HPf.out (by have := HLx.out; simp at this ⊢; omega) 40).mono ?_
          rintro e wh ⟨rfl, hp, hk⟩
          have HPh := hide' hp
          have HKh := hide' (HKf.out.trans hk)
          have HEh := hide' (hk.keep HEf.out (by omega) (by decide))
          have HXh := hide' (hk.keep HXf.out (by omega) (by decide))
          have h0 : wh.cell? ⟨wr.heap.size, 0, none⟩ = some (.int .i64 op) := by rw [Lib.cell_of_heap HEh.out]; rfl
          have h1 : wh.cell? ⟨wr.heap.size, 1, none⟩ = some (.slice pa la ca) := by rw [Lib.cell_of_heap HEh.out]; rfl
          have h2 : wh.cell? ⟨wr.heap.size, 2, none⟩ = some (.slice ps ls cc) := by rw [Lib.cell_of_heap HEh.out]; rfl
          have h3 : wh.cell? ⟨wr.heap.size, 3, none⟩ = some (.string aa) := by rw [Lib.cell_of_heap HEh.out]; rfl
          have h4 : wh.cell? ⟨wr.heap.size, 4, none⟩ = some (.int .i64 cm) := by rw [Lib.cell_of_heap HEh.out]; rfl
          have h5 : wh.cell? ⟨wr.heap.size, 5, none⟩ = some (.string tx) := by rw [Lib.cell_of_heap HEh.out]; rfl
          have h6 : wh.cell? ⟨wr.heap.size, 6, none⟩ = some (.int .i64 nu) := by rw [Lib.cell_of_heap HEh.out]; rfl
          have hx : wh.cell? ⟨W.heap.size, 0, none⟩ = some (.int .i64 oo) := by rw [Lib.cell_of_heap HXh.out]; rfl
          clear hp hk
          clear f0 f1 f2 f3 f4 f5 f6 fx
          go_wp2_with fail
          refine (HC.out _ _ HPh.out (by have := HLx.out; simp at this ⊢; omega)).mono ?_
          rintro e wj ⟨rfl, hp, hk⟩
          have HPj := hide' hp
          have HKj := hide' (HKh.out.trans hk)
          have HEj := hide' (hk.keep HEh.out (by omega) (by decide))
          have HXj := hide' (hk.keep HXh.out (by omega) (by decide))
          have j0 : wj.cell? ⟨wr.heap.size, 0, none⟩ = some (.int .i64 op) := by rw [Lib.cell_of_heap HEj.out]; rfl
          have j1 : wj.cell? ⟨wr.heap.size, 1, none⟩ = some (.slice pa la ca) := by rw [Lib.cell_of_heap HEj.out]; rfl
          have j2 : wj.cell? ⟨wr.heap.size, 2, none⟩ = some (.slice ps ls cc) := by rw [Lib.cell_of_heap HEj.out]; rfl
          have j3 : wj.cell? ⟨wr.heap.size, 3, none⟩ = some (.string aa) := by rw [Lib.cell_of_heap HEj.out]; rfl
          have j4 : wj.cell? ⟨wr.heap.size, 4, none⟩ = some (.int .i64 cm) := by rw [Lib.cell_of_heap HEj.out]; rfl
          have j5 : wj.cell? ⟨wr.heap.size, 5, none⟩ = some (.string tx) := by rw [Lib.cell_of_heap HEj.out]; rfl
          have j6 : wj.cell? ⟨wr.heap.size, 6, none⟩ = some (.int .i64 nu) := by rw [Lib.cell_of_heap HEj.out]; rfl
          have jx : wj.cell? ⟨W.heap.size, 0, none⟩ = some (.int .i64 oo) := by rw [Lib.cell_of_heap HXj.out]; rfl
          clear hp hk
          clear h0 h1 h2 h3 h4 h5 h6 hx
          go_wp2_with fail
          refine (wrByte (w0 := w0) (B := B) (b := b) HPj.out (by have := HLx.out; simp at this ⊢; omega) 41).mono ?_
          rintro e wk ⟨rfl, hp, hk⟩
          have HPk := hide' hp
          have HKk := hide' (HKj.out.trans hk)
          have HEk := hide' (hk.keep HEj.out (by omega) (by decide))
          have HXk := hide' (hk.keep HXj.out (by omega) (by decide))
          have k0 : wk.cell? ⟨wr.heap.size, 0, none⟩ = some (.int .i64 op) := by rw [Lib.cell_of_heap HEk.out]; rfl
          have k1 : wk.cell? ⟨wr.heap.size, 1, none⟩ = some (.slice pa la ca) := by rw [Lib.cell_of_heap HEk.out]; rfl
          have k2 : wk.cell? ⟨wr.heap.size, 2, none⟩ = some (.slice ps ls cc) := by rw [Lib.cell_of_heap HEk.out]; rfl
          have k3 : wk.cell? ⟨wr.heap.size, 3, none⟩ = some (.string aa) := by rw [Lib.cell_of_heap HEk.out]; rfl
          have k4 : wk.cell? ⟨wr.heap.size, 4, none⟩ = some (.int .i64 cm) := by rw [Lib.cell_of_heap HEk.out]; rfl
          have k5 : wk.cell? ⟨wr.heap.size, 5, none⟩ = some (.string tx) := by rw [Lib.cell_of_heap HEk.out]; rfl
          have k6 : wk.cell? ⟨wr.heap.size, 6, none⟩ = some (.int .i64 nu) := by rw [Lib.cell_of_heap HEk.out]; rfl
          have kx : wk.cell? ⟨W.heap.size, 0, none⟩ = some (.int .i64 oo) := by rw [Lib.cell_of_heap HXk.out]; rfl
          clear hp hk
          clear j0 j1 j2 j3 j4 j5 j6 jx
          clear k0 k1 k2 k3 k4 k5 k6 kx
          have HA5 : Hid ((((o2 ++ [40]) ++ ws) ++ [41]) ++ Ak.wA oo (Ak.by_ bt) (decide (i + 1 = 0)) (Ak.cXs (l.drop (i + 1))) = ans) := hide' (by rw [h1i, HRR.out]; have := HAx.out; simpa [List.append_assoc] using this)
          have HL5 : Hid (((((o2 ++ [40]) ++ ws) ++ [41])).length + (Ak.wA oo (Ak.by_ bt) (decide (i + 1 = 0)) (Ak.cXs (l.drop (i + 1)))).length ≤ 70368744177664) := hide' (by rw [h1i, HRR.out]; have := HLx.out; simp at this ⊢; omega)
          have HLT := hide' hlt
          clear hlt h1i
          go_wp2_with fail
          exact ⟨⟨i + 1, _, rfl, HLT.out, HA5, HL5, HPk, HKk, HXk⟩, by have := HLT.out; simp [RowKit.intOf]; omega⟩
        | false =>
          rw [if_neg (by decide)] at ha hl
          have HAx := hide' ha
          have HLx := hide' hl
          clear ha hl
          go_wp2_with fail
          refine (CN.out _).mono ?_
          rintro e wf ⟨rfl, hb⟩
          have HPf := hide' (HPa.out.below hb)
          have HKf := hide' (HKa.out.trans (Ak.Kp.of_below (b := b) hb))
          have HEf := hide' ((hb.block wr.heap.size (Array.getElem?_eq_some_iff.1 HEa.out).1).trans HEa.out)
          have HXf := hide' ((hb.block W.heap.size (Array.getElem?_eq_some_iff.1 HXa.out).1).trans HXa.out)
          have f0 : wf.cell? ⟨wr.heap.size, 0, none⟩ = some (.int .i64 op) := by rw [Lib.cell_of_heap HEf.out]; rfl
          have f1 : wf.cell? ⟨wr.heap.size, 1, none⟩ = some (.slice pa la ca) := by rw [Lib.cell_of_heap HEf.out]; rfl
          have f2 : wf.cell? ⟨wr.heap.size, 2, none⟩ = some (.slice ps ls cc) := by rw [Lib.cell_of_heap HEf.out]; rfl
          have f3 : wf.cell? ⟨wr.heap.size, 3, none⟩ = some (.string aa) := by rw [Lib.cell_of_heap HEf.out]; rfl
          have f4 : wf.cell? ⟨wr.heap.size, 4, none⟩ = some (.int .i64 cm) := by rw [Lib.cell_of_heap HEf.out]; rfl
          have f5 : wf.cell? ⟨wr.heap.size, 5, none⟩ = some (.string tx) := by rw [Lib.cell_of_heap HEf.out]; rfl
          have f6 : wf.cell? ⟨wr.heap.size, 6, none⟩ = some (.int .i64 nu) := by rw [Lib.cell_of_heap HEf.out]; rfl
          have fx : wf.cell? ⟨W.heap.size, 0, none⟩ = some (.int .i64 oo) := by rw [Lib.cell_of_heap HXf.out]; rfl
          clear hb
          clear CN
          go_wp2_with fail
          refine (HC.out _ _ HPf.out (by have := HLx.out; simp at this ⊢; omega)).mono ?_
          rintro e wk ⟨rfl, hp, hk⟩
          have HPk := hide' hp
          have HKk := hide' (HKf.out.trans hk)
          have HEk := hide' (hk.keep HEf.out (by omega) (by decide))
          have HXk := hide' (hk.keep HXf.out (by omega) (by decide))
          have k0 : wk.cell? ⟨wr.heap.size, 0, none⟩ = some (.int .i64 op) := by rw [Lib.cell_of_heap HEk.out]; rfl
          have k1 : wk.cell? ⟨wr.heap.size, 1, none⟩ = some (.slice pa la ca) := by rw [Lib.cell_of_heap HEk.out]; rfl
          have k2 : wk.cell? ⟨wr.heap.size, 2, none⟩ = some (.slice ps ls cc) := by rw [Lib.cell_of_heap HEk.out]; rfl
          have k3 : wk.cell? ⟨wr.heap.size, 3, none⟩ = some (.string aa) := by rw [Lib.cell_of_heap HEk.out]; rfl
          have k4 : wk.cell? ⟨wr.heap.size, 4, none⟩ = some (.int .i64 cm) := by rw [Lib.cell_of_heap HEk.out]; rfl
          have k5 : wk.cell? ⟨wr.heap.size, 5, none⟩ = some (.string tx) := by rw [Lib.cell_of_heap HEk.out]; rfl
          have k6 : wk.cell? ⟨wr.heap.size, 6, none⟩ = some (.int .i64 nu) := by rw [Lib.cell_of_heap HEk.out]; rfl
          have kx : wk.cell? ⟨W.heap.size, 0, none⟩ = some (.int .i64 oo) := by rw [Lib.cell_of_heap HXk.out]; rfl
          clear hp hk
          clear f0 f1 f2 f3 f4 f5 f6 fx
          clear k0 k1 k2 k3 k4 k5 k6 kx
          have HA5 : Hid ((o2 ++ ws) ++ Ak.wA oo (Ak.by_ bt) (decide (i + 1 = 0)) (Ak.cXs (l.drop (i + 1))) = ans) := hide' (by rw [h1i, HRR.out]; have := HAx.out; simpa [List.append_assoc] using this)
          have HL5 : Hid (((o2 ++ ws)).length + (Ak.wA oo (Ak.by_ bt) (decide (i + 1 = 0)) (Ak.cXs (l.drop (i + 1)))).length ≤ 70368744177664) := hide' (by rw [h1i, HRR.out]; have := HLx.out; simp at this ⊢; omega)
          have HLT := hide' hlt
          clear hlt h1i
          go_wp2_with fail
          exact ⟨⟨i + 1, _, rfl, HLT.out, HA5, HL5, HPk, HKk, HXk⟩, by have := HLT.out; simp [RowKit.intOf]; omega⟩
      · have t2 : (0 : Int) < (i : Int) := by omega
        rw [show (decide (i = 0)) = false from decide_eq_false h0, if_neg (by decide)] at ha hl
        have bx1 : (wr.alloc (.cells #[.int .i64 op, .slice pa la ca, .slice ps ls cc, .string aa, .int .i64 cm, .string tx, .int .i64 nu] 121)).cell? ⟨W.heap.size, 0, none⟩ = some (.int .i64 oo) := by rw [Lib.cell_of_heap HXa.out]; rfl
        clear h0
        cases t with
        | true =>
          rw [if_pos rfl] at ha hl
          have HAx := hide' ha
          have HLx := hide' hl
          clear ha hl
          go_wp2_with fail
          refine (wrStr (w0 := w0) (B := B) (b := b) HPa.out bt (by have := HLx.out; simp at this ⊢; omega)).mono ?_
          rintro e wd ⟨rfl, hp, hk⟩
          have HPd := hide' hp
          have HKd := hide' (HKa.out.trans hk)
          have HEd := hide' (hk.keep HEa.out (by omega) (by decide))
          have HXd := hide' (hk.keep HXa.out (by omega) (by decide))
          have d0 : wd.cell? ⟨wr.heap.size, 0, none⟩ = some (.int .i64 op) := by rw [Lib.cell_of_heap HEd.out]; rfl
          have d1 : wd.cell? ⟨wr.heap.size, 1, none⟩ = some (.slice pa la ca) := by rw [Lib.cell_of_heap HEd.out]; rfl
          have d2 : wd.cell? ⟨wr.heap.size, 2, none⟩ = some (.slice ps ls cc) := by rw [Lib.cell_of_heap HEd.out]; rfl
          have d3 : wd.cell? ⟨wr.heap.size, 3, none⟩ = some (.string aa) := by rw [Lib.cell_of_heap HEd.out]; rfl
          have d4 : wd.cell? ⟨wr.heap.size, 4, none⟩ = some (.int .i64 cm) := by rw [Lib.cell_of_heap HEd.out]; rfl
          have d5 : wd.cell? ⟨wr.heap.size, 5, none⟩ = some (.string tx) := by rw [Lib.cell_of_heap HEd.out]; rfl
          have d6 : wd.cell? ⟨wr.heap.size, 6, none⟩ = some (.int .i64 nu) := by rw [Lib.cell_of_heap HEd.out]; rfl
          have dx : wd.cell? ⟨W.heap.size, 0, none⟩ = some (.int .i64 oo) := by rw [Lib.cell_of_heap HXd.out]; rfl
          clear hp hk
          go_wp2_with fail
          refine (CN.out _).mono ?_
          rintro e wf ⟨rfl, hb⟩
          have HPf := hide' (HPd.out.below hb)
          have HKf := hide' (HKd.out.trans (Ak.Kp.of_below (b := b) hb))
          have HEf := hide' ((hb.block wr.heap.size (Array.getElem?_eq_some_iff.1 HEd.out).1).trans HEd.out)
          have HXf := hide' ((hb.block W.heap.size (Array.getElem?_eq_some_iff.1 HXd.out).1).trans HXd.out)
          have f0 : wf.cell? ⟨wr.heap.size, 0, none⟩ = some (.int .i64 op) := by rw [Lib.cell_of_heap HEf.out]; rfl
          have f1 : wf.cell? ⟨wr.heap.size, 1, none⟩ = some (.slice pa la ca) := by rw [Lib.cell_of_heap HEf.out]; rfl
          have f2 : wf.cell? ⟨wr.heap.size, 2, none⟩ = some (.slice ps ls cc) := by rw [Lib.cell_of_heap HEf.out]; rfl
          have f3 : wf.cell? ⟨wr.heap.size, 3, none⟩ = some (.string aa) := by rw [Lib.cell_of_heap HEf.out]; rfl
          have f4 : wf.cell? ⟨wr.heap.size, 4, none⟩ = some (.int .i64 cm) := by rw [Lib.cell_of_heap HEf.out]; rfl
          have f5 : wf.cell? ⟨wr.heap.size, 5, none⟩ = some (.string tx) := by rw [Lib.cell_of_heap HEf.out]; rfl
          have f6 : wf.cell? ⟨wr.heap.size, 6, none⟩ = some (.int .i64 nu) := by rw [Lib.cell_of_heap HEf.out]; rfl
          have fx : wf.cell? ⟨W.heap.size, 0, none⟩ = some (.int .i64 oo) := by rw [Lib.cell_of_heap HXf.out]; rfl
          clear hb
          clear d0 d1 d2 d3 d4 d5 d6 dx
          clear CN
          go_wp2_with fail
          refine (wrByte (w0 := w0) (B := B) (b := b) HPf.out (by have := HLx.out; simp at this ⊢; omega) 40).mono ?_
          rintro e wh ⟨rfl, hp, hk⟩
          have HPh := hide' hp
          have HKh := hide' (HKf.out.trans hk)
          have HEh := hide' (hk.keep HEf.out (by omega) (by decide))
          have HXh := hide' (hk.keep HXf.out (by omega) (by decide))
          have h0 : wh.cell? ⟨wr.heap.size, 0, none⟩ = some (.int .i64 op) := by rw [Lib.cell_of_heap HEh.out]; rfl
          have h1 : wh.cell? ⟨wr.heap.size, 1, none⟩ = some (.slice pa la ca) := by rw [Lib.cell_of_heap HEh.out]; rfl
          have h2 : wh.cell? ⟨wr.heap.size, 2, none⟩ = some (.slice ps ls cc) := by rw [Lib.cell_of_heap HEh.out]; rfl
          have h3 : wh.cell? ⟨wr.heap.size, 3, none⟩ = some (.string aa) := by rw [Lib.cell_of_heap HEh.out]; rfl
          have h4 : wh.cell? ⟨wr.heap.size, 4, none⟩ = some (.int .i64 cm) := by rw [Lib.cell_of_heap HEh.out]; rfl
          have h5 : wh.cell? ⟨wr.heap.size, 5, none⟩ = some (.string tx) := by rw [Lib.cell_of_heap HEh.out]; rfl
          have h6 : wh.cell? ⟨wr.heap.size, 6, none⟩ = some (.int .i64 nu) := by rw [Lib.cell_of_heap HEh.out]; rfl
          have hx : wh.cell? ⟨W.heap.size, 0, none⟩ = some (.int .i64 oo) := by rw [Lib.cell_of_heap HXh.out]; rfl
          clear hp hk
          clear f0 f1 f2 f3 f4 f5 f6 fx
          go_wp2_with fail
          refine (HC.out _ _ HPh.out (by have := HLx.out; simp at this ⊢; omega)).mono ?_
          rintro e wj ⟨rfl, hp, hk⟩
          have HPj := hide' hp
          have HKj := hide' (HKh.out.trans hk)
          have HEj := hide' (hk.keep HEh.out (by omega) (by decide))
          have HXj := hide' (hk.keep HXh.out (by omega) (by decide))
          have j0 : wj.cell? ⟨wr.heap.size, 0, none⟩ = some (.int .i64 op) := by rw [Lib.cell_of_heap HEj.out]; rfl
          have j1 : wj.cell? ⟨wr.heap.size, 1, none⟩ = some (.slice pa la ca) := by rw [Lib.cell_of_heap HEj.out]; rfl
          have j2 : wj.cell? ⟨wr.heap.size, 2, none⟩ = some (.slice ps ls cc) := by rw [Lib.cell_of_heap HEj.out]; rfl
          have j3 : wj.cell? ⟨wr.heap.size, 3, none⟩ = some (.string aa) := by rw [Lib.cell_of_heap HEj.out]; rfl
          have j4 : wj.cell? ⟨wr.heap.size, 4, none⟩ = some (.int .i64 cm) := by rw [Lib.cell_of_heap HEj.out]; rfl
          have j5 : wj.cell? ⟨wr.heap.size, 5, none⟩ = some (.string tx) := by rw [Lib.cell_of_heap HEj.out]; rfl
          have j6 : wj.cell? ⟨wr.heap.size, 6, none⟩ = some (.int .i64 nu) := by rw [Lib.cell_of_heap HEj.out]; rfl
          have jx : wj.cell? ⟨W.heap.size, 0, none⟩ = some (.int .i64 oo) := by rw [Lib.cell_of_heap HXj.out]; rfl
          clear hp hk
          clear h0 h1 h2 h3 h4 h5 h6 hx
          go_wp2_with fail
          refine (wrByte (w0 := w0) (B := B) (b := b) HPj.out (by have := HLx.out; simp at this ⊢; omega) 41).mono ?_
          rintro e wk ⟨rfl, hp, hk⟩
          have HPk := hide' hp
          have HKk := hide' (HKj.out.trans hk)
          have HEk := hide' (hk.keep HEj.out (by omega) (by decide))
          have HXk := hide' (hk.keep HXj.out (by omega) (by decide))
          have k0 : wk.cell? ⟨wr.heap.size, 0, none⟩ = some (.int .i64 op) := by rw [Lib.cell_of_heap HEk.out]; rfl
          have k1 : wk.cell? ⟨wr.heap.size, 1, none⟩ = some (.slice pa la ca) := by rw [Lib.cell_of_heap HEk.out]; rfl
          have k2 : wk.cell? ⟨wr.heap.size, 2, none⟩ = some (.slice ps ls cc) := by rw [Lib.cell_of_heap HEk.out]; rfl
          have k3 : wk.cell? ⟨wr.heap.size, 3, none⟩ = some (.string aa) := by rw [Lib.cell_of_heap HEk.out]; rfl
          have k4 : wk.cell? ⟨wr.heap.size, 4, none⟩ = some (.int .i64 cm) := by rw [Lib.cell_of_heap HEk.out]; rfl
          have k5 : wk.cell? ⟨wr.heap.size, 5, none⟩ = some (.string tx) := by rw [Lib.cell_of_heap HEk.out]; rfl
          have k6 : wk.cell? ⟨wr.heap.size, 6, none⟩ = some (.int .i64 nu) := by rw [Lib.cell_of_heap HEk.out]; rfl
          have kx : wk.cell? ⟨W.heap.size, 0, none⟩ = some (.int .i64 oo) := by rw [Lib.cell_of_heap HXk.out]; rfl
          clear hp hk
          clear j0 j1 j2 j3 j4 j5 j6 jx
          clear k0 k1 k2 k3 k4 k5 k6 kx
          have HA5 : Hid (((((o2 ++ Ak.by_ bt) ++ [40]) ++ ws) ++ [41]) ++ Ak.wA oo (Ak.by_ bt) (decide (i + 1 = 0)) (Ak.cXs (l.drop (i + 1))) = ans) := hide' (by rw [h1i, HRR.out]; have := HAx.out; simpa [List.append_assoc] using this)
          have HL5 : Hid ((((((o2 ++ Ak.by_ bt) ++ [40]) ++ ws) ++ [41])).length + (Ak.wA oo (Ak.by_ bt) (decide (i + 1 = 0)) (Ak.cXs (l.drop (i + 1)))).length ≤ 70368744177664) := hide' (by rw [h1i, HRR.out]; have := HLx.out; simp at this ⊢; omega)
          have HLT := hide' hlt
          clear hlt h1i
          go_wp2_with fail
          exact ⟨⟨i + 1, _, rfl, HLT.out, HA5, HL5, HPk, HKk, HXk⟩, by have := HLT.out; simp [RowKit.intOf]; omega⟩
        | false =>
          rw [if_neg (by decide)] at ha hl
          have HAx := hide' ha
          have HLx := hide' hl
          clear ha hl
          go_wp2_with fail
          refine (wrStr (w0 := w0) (B := B) (b := b) HPa.out bt (by have := HLx.out; simp at this ⊢; omega)).mono ?_
          rintro e wd ⟨rfl, hp, hk⟩
          have HPd := hide' hp
          have HKd := hide' (HKa.out.trans hk)
          have HEd := hide' (hk.keep HEa.out (by omega) (by decide))
          have HXd := hide' (hk.keep HXa.out (by omega) (by decide))
          have d0 : wd.cell? ⟨wr.heap.size, 0, none⟩ = some (.int .i64 op) := by rw [Lib.cell_of_heap HEd.out]; rfl
          have d1 : wd.cell? ⟨wr.heap.size, 1, none⟩ = some (.slice pa la ca) := by rw [Lib.cell_of_heap HEd.out]; rfl
          have d2 : wd.cell? ⟨wr.heap.size, 2, none⟩ = some (.slice ps ls cc) := by rw [Lib.cell_of_heap HEd.out]; rfl
          have d3 : wd.cell? ⟨wr.heap.size, 3, none⟩ = some (.string aa) := by rw [Lib.cell_of_heap HEd.out]; rfl
          have d4 : wd.cell? ⟨wr.heap.size, 4, none⟩ = some (.int .i64 cm) := by rw [Lib.cell_of_heap HEd.out]; rfl
          have d5 : wd.cell? ⟨wr.heap.size, 5, none⟩ = some (.string tx) := by rw [Lib.cell_of_heap HEd.out]; rfl
          have d6 : wd.cell? ⟨wr.heap.size, 6, none⟩ = some (.int .i64 nu) := by rw [Lib.cell_of_heap HEd.out]; rfl
          have dx : wd.cell? ⟨W.heap.size, 0, none⟩ = some (.int .i64 oo) := by rw [Lib.cell_of_heap HXd.out]; rfl
          clear hp hk
          go_wp2_with fail
          refine (CN.out _).mono ?_
          rintro e wf ⟨rfl, hb⟩
          have HPf := hide' (HPd.out.below hb)
          have HKf := hide' (HKd.out.trans (Ak.Kp.of_below (b := b) hb))
          have HEf := hide' ((hb.block wr.heap.size (Array.getElem?_eq_some_iff.1 HEd.out).1).trans HEd.out)
          have HXf := hide' ((hb.block W.heap.size (Array.getElem?_eq_some_iff.1 HXd.out).1).trans HXd.out)
          have f0 : wf.cell? ⟨wr.heap.size, 0, none⟩ = some (.int .i64 op) := by rw [Lib.cell_of_heap HEf.out]; rfl
          have f1 : wf.cell? ⟨wr.heap.size, 1, none⟩ = some (.slice pa la ca) := by rw [Lib.cell_of_heap HEf.out]; rfl
          have f2 : wf.cell? ⟨wr.heap.size, 2, none⟩ = some (.slice ps ls cc) := by rw [Lib.cell_of_heap HEf.out]; rfl
          have f3 : wf.cell? ⟨wr.heap.size, 3, none⟩ = some (.string aa) := by rw [Lib.cell_of_heap HEf.out]; rfl
          have f4 : wf.cell? ⟨wr.heap.size, 4, none⟩ = some (.int .i64 cm) := by rw [Lib.cell_of_heap HEf.out]; rfl
          have f5 : wf.cell? ⟨wr.heap.size, 5, none⟩ = some (.string tx) := by rw [Lib.cell_of_heap HEf.out]; rfl
          have f6 : wf.cell? ⟨wr.heap.size, 6, none⟩ = some (.int .i64 nu) := by rw [Lib.cell_of_heap HEf.out]; rfl
          have fx : wf.cell? ⟨W.heap.size, 0, none⟩ = some (.int .i64 oo) := by rw [Lib.cell_of_heap HXf.out]; rfl
          clear hb
          clear d0 d1 d2 d3 d4 d5 d6 dx
          clear CN
          go_wp2_with fail
          refine (HC.out _ _ HPf.out (by have := HLx.out; simp at this ⊢; omega)).mono ?_
          rintro e wk ⟨rfl, hp, hk⟩
          have HPk := hide' hp
          have HKk := hide' (HKf.out.trans hk)
          have HEk := hide' (hk.keep HEf.out (by omega) (by decide))
          have HXk := hide' (hk.keep HXf.out (by omega) (by decide))
          have k0 : wk.cell? ⟨wr.heap.size, 0, none⟩ = some (.int .i64 op) := by rw [Lib.cell_of_heap HEk.out]; rfl
          have k1 : wk.cell? ⟨wr.heap.size, 1, none⟩ = some (.slice pa la ca) := by rw [Lib.cell_of_heap HEk.out]; rfl
          have k2 : wk.cell? ⟨wr.heap.size, 2, none⟩ = some (.slice ps ls cc) := by rw [Lib.cell_of_heap HEk.out]; rfl
          have k3 : wk.cell? ⟨wr.heap.size, 3, none⟩ = some (.string aa) := by rw [Lib.cell_of_heap HEk.out]; rfl
          have k4 : wk.cell? ⟨wr.heap.size, 4, none⟩ = some (.int .i64 cm) := by rw [Lib.cell_of_heap HEk.out]; rfl
          have k5 : wk.cell? ⟨wr.heap.size, 5, none⟩ = some (.string tx) := by rw [Lib.cell_of_heap HEk.out]; rfl
          have k6 : wk.cell? ⟨wr.heap.size, 6, none⟩ = some (.int .i64 nu) := by rw [Lib.cell_of_heap HEk.out]; rfl
          have kx : wk.cell? ⟨W.heap.size, 0, none⟩ = some (.int .i64 oo) := by rw [Lib.cell_of_heap HXk.out]; rfl
          clear hp hk
          clear f0 f1 f2 f3 f4 f5 f6 fx
          clear k0 k1 k2 k3 k4 k5 k6 kx
          have HA5 : Hid (((o2 ++ Ak.by_ bt) ++ ws) ++ Ak.wA oo (Ak.by_ bt) (decide (i + 1 = 0)) (Ak.cXs (l.drop (i + 1))) = ans) := hide' (by rw [h1i, HRR.out]; have := HAx.out; simpa [List.append_assoc] using this)
          have HL5 : Hid ((((o2 ++ Ak.by_ bt) ++ ws)).length + (Ak.wA oo (Ak.by_ bt) (decide (i + 1 = 0)) (Ak.cXs (l.drop (i + 1)))).length ≤ 70368744177664) := hide' (by rw [h1i, HRR.out]; have := HLx.out; simp at this ⊢; omega)
          have HLT := hide' hlt
          clear hlt h1i
          go_wp2_with fail
          exact ⟨⟨i + 1, _, rfl, HLT.out, HA5, HL5, HPk, HKk, HXk⟩, by have := HLT.out; simp [RowKit.intOf]; omega⟩
    · have t1 : ¬ (i : Int) < (n : Int) := by omega
      have ha := HA.out
      rw [Ak.wA_end _ _ _ l i (by have := HN.out; omega), List.append_nil] at ha
      subst ha
      go_wp2_with fail
      first | go_end0 | refine bodyPost_ret (results_none rfl _ _ _) rfl ?_
      exact ⟨rfl, HP.out, HK.out⟩
end Go.Proofs.YtcnagbkdckipnaaGreatDoor

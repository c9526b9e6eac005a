/-
  THE WALK over the document's hunt: Add.
-/
import Derived.Test.YtgbldbohadacmaaHtRefF
import Derived.Deep.RegionLaw
import Derived.Laws.AppendOwnNone
namespace Go.Proofs.Ytgbldbohadacmaa
open Go.RowKit Go.Lib
namespace Ht
/-- append at a step of a region that draws: a row that came, nil or not -/
theorem step_app {P : Program} (w : World) {ops : Array Oper} {o : Oper} {a : Act} {K : Act → World → Prop} {Q : Exit → Act → World → Prop} {F : Prop} (hgd : o.guard = none) (s x : Operand) (t : TypeId)
    (ho : o.op = .call { callee := .builtin .append, args := #[s, x], argTypes := #[t, t] })
    (base : Nat) (e : TypeId) (i : TypeInfo) (z : Value) (size bytes : Nat) (ht : P.underlying t = some (.slice e)) (hi : P.info? e = some i) (hz : i.zero = some z)
    (hsize : i.size = size) (hby : i.bytes = bytes) (hzs : z.cells.size = size) (hsz : 0 < size)
    (v : Value) (n : Nat) (xs : List Value) (hs : a.eval s = v) (hown : w.ownsRow base e size v n xs)
    (po : Option Addr) (m c : Nat) (hpo : po = none → m = 0 ∧ c = 0) (news : List Value) (hx : a.eval x = .slice po m c) (hl : news.length = m * size) (hnews : ∀ ad, po = some ad → ∀ j u, news[j]? = some u → w.cell? (ad.add j) = some u) (h1 : ∀ u ∈ news, u.oneCell' = true)
    (h63 : n + m ≤ maxLen) (hbytes : (n + m) * bytes ≤ 140737488355328) (hbase : base ≤ w.heap.size)
    (h : ∀ v' w', w'.ownsRow base e size v' (n + m) (xs ++ news) → w.grownBy w' v.ownBlock → (v'.ownBlock = v.ownBlock ∨ v'.ownBlock = some w.heap.size) → K (a.put o.dst v') w') :
    if Region.wanted o (yielded ops a.tmps) = true then Oper.wp P o a w K Q else F := by
  have hw : Region.wanted o (yielded ops a.tmps) = true := by simp [Region.wanted, hgd]
  rw [if_pos hw]
  cases po with
  | some ad =>
    obtain ⟨v', w', hr, h2, h3, h4, h5⟩ := run_append_own_at (P := P) w base t o.type e i z size bytes ht hi hz hsize hby hzs hsz v n xs hown ad m c news hl (hnews ad rfl) h1 h63 hbytes hbase
    unfold Oper.wp execOp
    simp only [ho, resolve, invoke, builtin, Sem.run_bind, Sem.run_pure, Result.andThen_ok, List.map_toArray, List.map_cons, List.map_nil, hs, hx, hr]
    exact h v' w' h2 h3 h5
  | none =>
    obtain ⟨rfl, rfl⟩ := hpo rfl
    obtain rfl : news = [] := List.eq_nil_of_length_eq_zero (by rw [hl]; omega)
    have hr := run_append_owned_none (P := P) (w := w) base t o.type e i size ht hi v n xs hown
    unfold Oper.wp execOp
    simp only [ho, resolve, invoke, builtin, Sem.run_bind, Sem.run_pure, Result.andThen_ok, List.map_toArray, List.map_cons, List.map_nil, hs, hx, hr]
    exact h v w (by rw [List.append_nil]; exact hown) ⟨rfl, rfl, rfl, Nat.le_refl _, fun _ _ _ => rfl⟩ (.inl rfl)
theorem keepc {w w' : World} {a : Addr} {x : Value} (h : w.cell? a = some x) (k : Below w.heap.size w w') : w'.cell? a = some x := (k.cell (p := a) (block_lt_of_cell h)).trans h
theorem own_slice {w : World} {B : Nat} {v : Value} {L : List Nat} (h : w.ownsRow B 3 1 v L.length (ic L)) : ∃ p c, v = .slice p L.length c ∧ (p = none → L.length = 0 ∧ c = 0) ∧ ∀ ad, p = some ad → ∀ j u, (ic L)[j]? = some u → w.cell? (ad.add j) = some u := by
  rcases h.2 with ⟨h1, h2⟩ | ⟨g, cap, cur, h1, h2, h3, h4, h5, h6, h7⟩
  · exact ⟨none, 0, by rw [h1, h2], fun _ => ⟨h2, rfl⟩, fun ad e => nomatch e⟩
  · refine ⟨_, cap, h1, (fun e => nomatch e), fun ad e j u hu => ?_⟩
    cases e
    exact h.cells (g := g) (by rw [h1]; rfl) j u hu
/-- nothing but the Hunt's block and the row of what came changed -/
def Rb (b : Nat) (vc : Value) (w w' : World) : Prop := w'.os = w.os ∧ w'.tape = w.tape ∧ w'.output = w.output ∧ w.heap.size ≤ w'.heap.size ∧ ∀ k, k < w.heap.size → k ≠ b → vc.ownBlock ≠ some k → w'.heap[k]? = w.heap[k]?
theorem gb {w1 w2 : World} {b B : Nat} {vc : Value} {e : TypeId} {n : Nat} {xs : List Value} (hg : w1.grownBy w2 vc.ownBlock) (ho : w1.ownsRow B e 1 vc n xs) (hbB : b < B) (hlt : b < w1.heap.size) : w2.heap[b]? = w1.heap[b]? :=
  hg.block b hlt (fun e => by have := (ho.lt b e.symm).1; omega)
theorem own_join {w : World} {B : Nat} {v : Value} {L R : List Nat} (h : w.ownsRow B 3 1 v (L.length + R.length) (ic L ++ ic R)) : w.ownsRow B 3 1 v (L ++ R).length (ic (L ++ R)) := by
  rw [ic_app, List.length_append]
  exact h
theorem Rb.of {w w1 w2 : World} {b : Nat} {vc v : Value} {i : Nat} (h1 : Below w.heap.size w.drew w1) (h2 : w1.grownBy w2 vc.ownBlock) : Rb b vc w (w2.setCell ⟨b, i, none⟩ v) := by
  have h3 := Hb.set w2 b i v
  have s1 : w.heap.size ≤ w1.heap.size := h1.size
  have s2 : w1.heap.size ≤ w2.heap.size := h2.size
  refine ⟨h3.os.trans (h2.os.trans h1.os), h3.tape.trans (h2.tape.trans h1.tape), h3.output.trans (h2.output.trans h1.output), Nat.le_trans s1 (Nat.le_trans s2 h3.size), fun k hk hb hv => ?_⟩
  exact (h3.block k (by omega) hb).trans ((h2.block k (by omega) (fun e => hv e.symm)).trans (h1.block k hk))
end Ht
set_option maxRecDepth 100000 in
set_option maxHeartbeats 4000000 in
theorem htRefAdd {w : World} {b B : Nat} {c N : Int} {va vc : Value} {L : List Nat} (h : Ht.RC w b c N va vc false) (ho : w.ownsRow B 3 1 vc L.length (Ht.ic L)) (hbB : b < B) (hBw : B ≤ w.heap.size)
    (f : Nat → Nat) (n : Nat) (hf : ∀ j, f j < 256) (hn : n ≤ 1099511627776) (hL : L.length ≤ 1099511627776) :
    Calls Try.prog 16 #[.pointer (some ⟨b, 0, none⟩), .string (Rn.arr f n)] w fun e w' => e = .returned (.int .i64 0) ∧ ∃ v', Ht.RC w' b c N va v' false ∧ w'.ownsRow B 3 1 v' (L ++ Wd.R f n 0).length (Ht.ic (L ++ Wd.R f n 0)) ∧ (v'.ownBlock = vc.ownBlock ∨ ∃ g, w.heap.size ≤ g ∧ v'.ownBlock = some g) ∧ Ht.Rb b vc w w' := by
  obtain ⟨i0, hi, hz0, hz1, hz2⟩ := info_parts htInfoI
  obtain ⟨-, -, -, c3, c4, fz⟩ := h.cells
  have f3 := fz 3
  have CR := hide' (fun w1 => htRefRunes f n w1 hf hn)
  have hR := Wd.R_length f n 0 hf
  obtain ⟨R, hRe⟩ : ∃ R, Wd.R f n 0 = R := ⟨_, rfl⟩
  rw [hRe] at CR hR ⊢
  clear hRe hf fz
  obtain ⟨pc, cc, rfl, -, -⟩ := Ht.own_slice ho
  have HC := hide' h
  have HO := hide' (show w.drew.ownsRow B 3 1 (.slice pc L.length cc) L.length (Ht.ic L) from Ht.own_below ho (Below.refl _ _).drew)
  have x3 : w.drew.cell? ⟨b, 3, none⟩ = some (.slice pc L.length cc) := c3
  have HbB := hide' hbB
  have HBw := hide' hBw
  clear h ho hbB hBw
  go_enter Try.func16, Try.ntmps16
  go_wp2_with fail
  go_region_law (first
    | (rw [if_pos (by simp [Region.wanted])]; go_simp; go_at_call 15; refine (CR.out _).mono ?_; rintro r w1 ⟨v1, rfl, hr1, hb1⟩; obtain ⟨p1, cp1, rfl, hp1, hq1⟩ := Ht.own_slice hr1; have y3 := Ht.keepc x3 hb1; have HO1 := hide' (Ht.own_below HO.out hb1); have HB1 := hide' hb1; have RC1 := hide' (Ht.RC.below (w := w.drew) HC.out hb1))
    | (refine Ht.step_app w1 rfl (.tmp 13) (.tmp 15) 44 rfl B 3 i0 (.int .i64 0) 1 8 Try.underlying44 hi hz0 hz1 hz2 rfl (by decide) (.slice pc L.length cc) L.length (Ht.ic L) (by simp [Act.eval]) HO1.out p1 R.length cp1 hp1 (Ht.ic R) (by simp [Act.eval]) (by rw [Ht.ic_length]; omega) hq1 (Ht.ic_one R) (by unfold maxLen; omega) (by omega) (Nat.le_trans HBw.out HB1.out.size) ?_; intro v' w2 hown hgrow hat; have HJ := hide' (Ht.own_join hown); obtain ⟨pv, cv, rfl, -, -⟩ := Ht.own_slice HJ.out; have k2 := Ht.gb hgrow HO1.out HbB.out RC1.out.lt; have RC2 := hide' (RC1.out.of_block k2); have z3 := RC2.out.cells.2.2.2.1; have zf := RC2.out.cells.2.2.2.2.2 3))
  all_goals
    have hne : Value.ownBlock (.slice pv (L ++ R).length cv) ≠ some b := fun e => by have := (HJ.out.lt b e).1; have := HbB.out; omega
    have HRB := hide' (Ht.Rb.of (w := w) (b := b) (i := 3) (v := .slice pv (L ++ R).length cv) HB1.out hgrow)
    have HJ2 := hide' (HJ.out.setOther (i := 3) hne (.slice pv (L ++ R).length cv))
    have HS1 := hide' HB1.out.size
    have HAT := hide' hat
    clear hown hgrow hat k2 z3 zf y3 hne
    go_wp2_with fail
    go_ret
    have a1 := HJ2.out
    have a2 := HRB.out
    have a3 := HAT.out
    simp only [List.length_append] at a1 a2 a3 ⊢
    refine ⟨rfl, _, RC2.out.set3 _, a1, ?_, a2⟩
    rcases a3 with e | e
    · exact .inl e
    · exact .inr ⟨_, HS1.out, e⟩
set_option maxHeartbeats 2000000 in
/-- behind its end -/
theorem htRefAddEnd {w : World} {b : Nat} {c N : Int} {va vc : Value} (h : Ht.RC w b c N va vc true) (s : ByteArray) :
    Calls Try.prog 16 #[.pointer (some ⟨b, 0, none⟩), .string s] w fun e w' => e = .returned (.int .i64 5) ∧ w' = w := by
  obtain ⟨-, -, -, -, c4, -⟩ := h.cells
  clear h
  go_enter Try.func16, Try.ntmps16
  go_wp2_with fail
  go_ret
  exact ⟨rfl, rfl⟩
end Go.Proofs.Ytgbldbohadacmaa

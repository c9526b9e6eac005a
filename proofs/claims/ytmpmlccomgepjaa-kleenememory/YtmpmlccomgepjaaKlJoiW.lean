/-
  THE WALK over (join).joined, itself.
-/
import Derived.Test.YtmpmlccomgepjaaKlJoi
import Derived.BigGuard
namespace Go.Proofs.Ytmpmlccomgepjaa
open Go.RowKit Go.Lib Go.Sort
namespace Kl
theorem joE_all {w W wf : World} {op : Int} {l A : List Fv} {g cap k : Nat} (hb : Below w.heap.size w W) (h : Spd W op l A g cap k wf) (ho : op = 2 ∨ op = 3) (hlo : ∀ x ∈ l, Lo w x) (hd : l.any (fun x => x.op == op) = true ∨ dif (A.map ct) = true) (hres : jnd op (l.map ct) = .mk op 0 0 (A.map ct)) :
    JoE w op l (.returned (.agg #[.int .i64 op, .int .i64 0, .int .i64 0, .slice (some ⟨g, 0, none⟩) k cap])) wf := by
  have hlW : ∀ x ∈ l, Lo W x := fun x hx => (hlo x hx).keep (Chs.of_below (L := []) hb) fun _ _ => by simp
  have hsz := hb.size
  refine ⟨.mk op 0 0 (some ⟨g, 0, none⟩) cap A, by rw [← h.len]; rfl, h.all ho hlW hd, by rw [ct_mk, hres], fun b hbb => ?_, (Chs.of_below hb).trans h.ch⟩
  unfold fp at hbb
  have : b ∈ fps A ∨ b = g := by
    rcases List.mem_append.1 hbb with q | q
    · obtain ⟨_, a, e, rfl⟩ := pb_of q
      cases e
      exact .inr rfl
    · exact .inl q
  rcases h.inn b this with q | q
  · exact .inl q
  · exact .inr (by omega)
theorem joE_one {w W wf : World} {op : Int} {l A : List Fv} {a0 : Fv} {g cap k : Nat} (hb : Below w.heap.size w W) (h : Spd W op l (a0 :: A) g cap k wf) (hs : l.any (fun x => x.op == op) = false) (hres : jnd op (l.map ct) = ct a0) : JoE w op l (.returned (.agg a0.enc.toArray)) wf := by
  have hsz := hb.size
  refine ⟨a0, rfl, h.low (fun y hy ho => ?_) a0 (by simp), hres.symm, fun b hbb => ?_, (Chs.of_below hb).trans h.ch⟩
  · have := List.any_eq_false.1 hs y hy
    simp [ho] at this
  · rcases h.inn b (.inl ((fps_mem _ b).2 ⟨a0, by simp, hbb⟩)) with q | q
    · exact .inl q
    · exact .inr (by omega)
theorem Spd.base {w W : World} {op : Int} {l A : List Fv} {g cap k : Nat} {w1 : World} (h : Spd W op l A g cap k w1) (hb : Below w.heap.size w W) : Spd w op l A g cap k w1 :=
  ⟨h.len, h.two, h.row, h.con, (fun b hbb => by
    have := hb.size
    rcases h.inn b hbb with q | q
    · exact .inl q
    · exact .inr (by omega)), (Chs.of_below hb).trans h.ch, h.low⟩
theorem lt_inn {W : World} {op : Int} {l A : List Fv} {g cap k : Nat} {w1 : World} (h : Spd W op l A g cap k w1) : (∀ b ∈ fps A, b < w1.heap.size) ∧ g < w1.heap.size := ⟨fun b hb => by
  obtain ⟨x, hx, hb⟩ := (fps_mem A b).1 hb
  exact (h.row.2 x hx).1.lt x b hb, h.row.1.lt⟩
end Kl
set_option maxRecDepth 100000 in
set_option maxHeartbeats 4000000 in
theorem klJoined (op id st : Int) (gp c : Nat) (l : List Kl.Fv) (w : World) (hrow : Kl.Rw w gp c l.length (Kl.nth l)) (hlo : ∀ x ∈ l, Kl.Lo w x) (dj : Kl.Dj l) (hgp : gp ∉ Kl.fps l) (hs : Kl.szs (l.map Kl.ct) ≤ 1048576) (ho : op = 2 ∨ op = 3) (h2 : 2 ≤ l.length) :
    Calls Try.prog 46 #[.agg #[.int .i64 op, .int .i64 id, .int .i64 st], .slice (some ⟨gp, 0, none⟩) l.length c] w fun r w' => Kl.JoE w op l r w' := by
  have eg5 : ∀ args w, (callFunc 71 args).run Try.prog w = .ok (.enter 71 args) w := enters_of Try.func71 (by kernel_rfl) rfl
  have eg6 : ∀ args w, (callFunc 72 args).run Try.prog w = .ok (.enter 72 args) w := enters_of Try.func72 (by kernel_rfl) rfl
  have l1 := hrow.len
  have l2 : c ≤ 9223372036854775807 := by have := hrow.max; unfold maxLen at this; exact this
  have hgw := hrow.lt
  have hlt : ∀ b ∈ Kl.fps l, b < w.heap.size := fun b hb => by
    obtain ⟨x, hx, hb⟩ := (Kl.fps_mem l b).1 hb
    exact (hlo x hx).ok.lt x b hb
  have hl1 : ∀ p ∈ l, p.op = op → 1 ≤ p.ar.length := fun x hx hxo => by
    obtain ⟨xo, xv, xn, xp, xc, xl⟩ := x
    have hxo' : xo = op := hxo
    rcases hlo _ hx with q | ⟨y, g', c', e, _⟩
    · rcases q with ⟨_, _, _, q⟩ | ⟨_, q2, _⟩
      · omega
      · have := Kl.len2 q2; show 1 ≤ xl.length; omega
    · cases e; omega
  obtain ⟨n, hn⟩ : ∃ n, l.length = n := ⟨_, rfl⟩
  -- spread
  have cS : ∀ W, Below w.heap.size w W → Calls Try.prog 70 #[.agg #[.int .i64 op, .int .i64 id, .int .i64 st], .slice (some ⟨gp, 0, none⟩) n c] W fun r w' => ∃ A g cap k, r = .returned (.slice (some ⟨g, 0, none⟩) k cap) ∧ Hid (Kl.Spd W op l A g cap k w') := fun W hb => by
    have hc0 := Kl.Chs.of_below (L := []) hb
    have := klSpread op id st gp c l W (hrow.keep (hb.block gp hgw)) (fun x hx => (hlo x hx).keep hc0 fun _ _ => by simp) dj hgp hs ho
    rw [hn] at this
    refine this.mono fun r w' h => ?_
    obtain ⟨A, g, cap, k, e, hh⟩ := h.spd h2 hl1
    refine ⟨A, g, cap, k, e, hh.len, hh.two, hh.row, hh.con, fun b hb => ?_, ?_, hh.low⟩
    · rcases hh.inn b hb with q | q
      · exact .inl q
      · exact .inr (by simp at q; omega)
    · exact (Kl.Chs.of_below ((Below.refl _ _).alloc (Nat.le_refl _) _)).trans hh.ch
  -- the first look
  have cA : ∀ W1 W2, Below w.heap.size w W1 → Kl.Chs (Kl.fps l) W1 W2 → W2.cell? ⟨w.heap.size, 0, none⟩ = some (.int .i64 op) → Calls Try.prog 73 #[.slice (some ⟨gp, 0, none⟩) n c, .func (.func 71) #[] #[.pointer (some ⟨w.heap.size, 0, none⟩)]] W2 fun e w' => e = .returned (.bool (l.any fun x => x.op == op)) ∧ Kl.Gr W2 w' := fun W1 W2 hb hc hj => by
    have hr2 : Kl.Rw W2 gp c l.length (Kl.nth l) := hrow.keep ((hc.block gp (by have := hb.size; omega) hgp).trans (hb.block gp hgw))
    have := klHasAny 71 (.pointer (some ⟨w.heap.size, 0, none⟩)) eg5 (fun x => x.op == op) (some ⟨gp, 0, none⟩) c l W2 l1 l2 (fun _ => ⟨gp, 0, rfl, fun i x hx => by
      have := hr2.rng i (List.getElem?_eq_some_iff.1 hx).1
      rw [Kl.nth_some hx] at this
      rw [Nat.zero_add]
      exact this⟩) (fun x _ W' hg => klIsSame x op w.heap.size W' (hg.cell hj))
    rw [hn] at this
    exact this
  -- the second look
  have cB : ∀ W A g cap k W2 B, Kl.Spd W op l A g cap k W2 → W2.cell? ⟨B, 0, none⟩ = some (.slice (some ⟨g, 0, none⟩) k cap) → Calls Try.prog 73 #[.slice (some ⟨g, 4, none⟩) (k - 1) (cap - 1), .func (.func 72) #[] #[.pointer (some ⟨B, 0, none⟩)]] W2 fun e w' => ∃ d, e = .returned (.bool d) ∧ Hid (d = Kl.dif (A.map Kl.ct)) ∧ Kl.Gr W2 w' := fun W A g cap k W2 B hsp hj => by
    have hlen := hsp.len
    have htwo := hsp.two
    cases A with
    | nil => simp at hlen; omega
    | cons a0 A =>
      have hk : A.length = k - 1 := by simp at hlen; omega
      have hok : ∀ x ∈ a0 :: A, Kl.Ok W2 x := fun x hx => (hsp.row.2 x hx).1
      have hcl := hsp.row.1.len
      have hcm := hsp.row.1.max
      unfold maxLen at hcm
      simp only [List.length_cons] at hcl
      have r0 := hsp.row.1.rng 0 (by simp)
      rw [show Kl.nth (a0 :: A) 0 = a0 from rfl, Nat.zero_mul] at r0
      have := klHasAny 72 (.pointer (some ⟨B, 0, none⟩)) eg6 (fun x => decide (Kl.cmpF (Kl.ct x) (Kl.ct a0) ≠ 0)) (some ⟨g, 4, none⟩) (cap - 1) A W2 (by omega) (by omega) (fun _ => ⟨g, 4, rfl, fun i x hx => by
        have hi := (List.getElem?_eq_some_iff.1 hx).1
        have q := hsp.row.1.rng (i + 1) (by simp only [List.length_cons]; omega)
        rw [Kl.nth_some (show (a0 :: A)[i + 1]? = some x by simpa using hx)] at q
        rw [show 4 + i * 4 = (i + 1) * 4 by omega]
        exact q⟩) (fun x hx W' hg => klDiffers x a0 B g k cap W' (hg.ok (hok x (List.mem_cons_of_mem _ hx))) (hg.ok (hok a0 (by simp))) (by omega) (hg.cell hj) (fun t u hu => hg.cell (r0 t u hu)))
      rw [hk] at this
      refine this.mono fun e w' he => ⟨_, he.1, ?_, he.2⟩
      show _ = Kl.dif _
      unfold Kl.dif
      simp only [List.map_cons, List.tail_cons, List.headD_cons, List.any_map]
      rfl
  have hres : ∀ A : List Kl.Fv, A.map Kl.ct = Kl.spread op (l.map Kl.ct) → ∀ s d, s = l.any (fun x => x.op == op) → d = Kl.dif (A.map Kl.ct) → Kl.jnd op (l.map Kl.ct) = if s || d then .mk op 0 0 (A.map Kl.ct) else (A.map Kl.ct).headD default := fun A hA s d hs1 hd => by
    unfold Kl.jnd
    rw [← hA, hs1, hd, List.any_map]
    have : ((fun p : Kl.Fm => p.op == op) ∘ Kl.ct) = fun x => x.op == op := by funext x; show ((Kl.ct x).op == op) = _; rw [Kl.ct_op]
    rw [this]
  rw [hn]
  have CS := hide' cS
  have CA := hide' cA
  have CB := hide' cB
  have HRES := hide' hres
  have HLT := hide' hlt
  have HLO := hide' hlo
  have HO := hide' ho
  obtain ⟨s, hsd⟩ : ∃ s, l.any (fun x => x.op == op) = s := ⟨_, rfl⟩
  have HSD := hide' hsd
  simp only [hsd] at CA
  clear cS cA cB hrow hlo dj hgp hs ho h2 hlt hl1 hn hsd hres eg5 eg6
  cases s with
  | true =>
    go_enter Try.func46, Try.ntmps46
    go_wp2_with (first | (go_at_call 70; refine (CS.out _ (((Below.refl _ _).alloc (Nat.le_refl _) _).alloc (by simp) _)).mono ?_; rintro r w1 ⟨A, g, cap, k, rfl, HSP⟩))
    obtain ⟨W, hWd⟩ : ∃ W, W = ((w.alloc (.cells #[.int .i64 op, .int .i64 id, .int .i64 st] 61)).alloc (.cells #[.int .i64 0, .int .i64 0, .int .i64 0, .slice none 0 0] 26)) := ⟨_, rfl⟩
    rw [← hWd] at HSP
    have HBW : Hid (Below w.heap.size w W) := by rw [hWd]; exact ((Below.refl _ _).alloc (Nat.le_refl _) _).alloc (by simp) _
    have szW : W.heap.size = w.heap.size + 2 := by rw [hWd]; simp
    have hnl : ∀ B, w.heap.size ≤ B → B ∉ Kl.fps l := fun B hB hb => by have := HLT.out B hb; omega
    obtain ⟨r1, _⟩ := Kl.chs_rules HSP.out.ch (B := w.heap.size) (by omega) (hnl _ (by omega))
    obtain ⟨r2, f2⟩ := Kl.chs_rules HSP.out.ch (B := w.heap.size + 1) (by omega) (hnl _ (by omega))
    have hz : w.heap.size + 1 < w1.heap.size := by have := HSP.out.ch.size; omega
    have j0 : w1.cell? ⟨w.heap.size, 0, none⟩ = some (.int .i64 op) := (r1 0).trans (by rw [hWd]; simp)
    have d0 : w1.cell? ⟨w.heap.size + 1, 0, none⟩ = some (.int .i64 0) := (r2 0).trans (by rw [hWd]; simp)
    have d1 : w1.cell? ⟨w.heap.size + 1, 1, none⟩ = some (.int .i64 0) := (r2 1).trans (by rw [hWd]; simp)
    have d2 : w1.cell? ⟨w.heap.size + 1, 2, none⟩ = some (.int .i64 0) := (r2 2).trans (by rw [hWd]; simp)
    have d3 : w1.cell? ⟨w.heap.size + 1, 3, none⟩ = some (.slice none 0 0) := (r2 3).trans (by rw [hWd]; simp)
    have e2 : ∀ o, w1.frozen? ⟨w.heap.size + 1, o, none⟩ = false := fun o => (f2 o).trans (by rw [hWd]; simp)
    have hgA := Kl.lt_inn HSP.out
    have hinn : ∀ b, b ∈ Kl.fps A ∨ b = g → b ≠ w.heap.size + 1 ∧ b ≠ w1.heap.size := fun b hb => by
      refine ⟨?_, ?_⟩
      · rcases HSP.out.inn b hb with q | q
        · have := HLT.out b q; omega
        · omega
      · rcases hb with hb | hb
        · have := hgA.1 b hb; omega
        · rw [hb]; have := hgA.2; omega
    have HINN := hide' hinn
    have HGG := hide' hgA.2
    have t2 : 2 ≤ k := HSP.out.two
    have t3 : k ≤ cap := by have := HSP.out.row.1.len; rw [HSP.out.len] at this; exact this
    have t4 : cap ≤ 9223372036854775807 := by have := HSP.out.row.1.max; unfold maxLen at this; exact this
    have cl := CA.out W (w1.alloc (.cells #[.slice (some ⟨g, 0, none⟩) k cap] 24)) HBW.out (HSP.out.ch.trans (Kl.Chs.of_below ((Below.refl _ _).alloc (Nat.le_refl _) _))) (((Kl.Gr.refl w1).alloc _).cell j0)
    refine cl.mono ?_
    rintro r w2 ⟨rfl, hg2⟩
    have HG2 : Hid (Kl.Gr w1 w2) := ((Kl.Gr.refl w1).alloc _).trans hg2
    have k0 := HG2.out.cell j0
    have k5 : w2.cell? ⟨w1.heap.size, 0, none⟩ = some (.slice (some ⟨g, 0, none⟩) k cap) := hg2.cell (by simp)
    have b0 := HG2.out.cell d0
    have b1 := HG2.out.cell d1
    have b2 := HG2.out.cell d2
    have b3 := HG2.out.cell d3
    have b4 : ∀ o, w2.frozen? ⟨w.heap.size + 1, o, none⟩ = false := fun o => (HG2.out.below.frozen (p := ⟨w.heap.size + 1, o, none⟩) (by show _ < w1.heap.size; omega)).trans (e2 o)
    have HS2 := hide' (HSP.out.keep HG2.out.below)
    have SZW := hide' szW
    clear cl hg2 hWd r1 r2 f2 j0 d0 d1 d2 d3 e2 hgA hinn hnl szW
    go_wp2_with fail
    have HS3 := hide' (HS2.out.base HBW.out)
    refine bodyPost_ret (v := .agg #[.int .i64 op, .int .i64 0, .int .i64 0, .slice (some ⟨g, 0, none⟩) k cap]) (by simp [results, Try.results46, go_sem, b0, b1, b2, b3]) rfl ?_
    refine Kl.joE_all (Below.refl _ _) ((((HS3.out.setc ?_ ?_ _).setc ?_ ?_ _).setc ?_ ?_ _).setc ?_ ?_ _) HO.out HLO.out (.inl HSD.out) ((HRES.out A HSP.out.con _ _ HSD.out.symm rfl).trans (by rw [if_pos (by simp)]))
    all_goals first | exact ⟨fun hb => (HINN.out _ (.inl hb)).1 rfl, fun e => (HINN.out _ (.inr rfl)).1 e.symm⟩ | exact Nat.le_succ _
  | false =>
    go_enter Try.func46, Try.ntmps46
    go_wp2_with (first | (go_at_call 70; refine (CS.out _ (((Below.refl _ _).alloc (Nat.le_refl _) _).alloc (by simp) _)).mono ?_; rintro r w1 ⟨A, g, cap, k, rfl, HSP⟩))
    obtain ⟨W, hWd⟩ : ∃ W, W = ((w.alloc (.cells #[.int .i64 op, .int .i64 id, .int .i64 st] 61)).alloc (.cells #[.int .i64 0, .int .i64 0, .int .i64 0, .slice none 0 0] 26)) := ⟨_, rfl⟩
    rw [← hWd] at HSP
    have HBW : Hid (Below w.heap.size w W) := by rw [hWd]; exact ((Below.refl _ _).alloc (Nat.le_refl _) _).alloc (by simp) _
    have szW : W.heap.size = w.heap.size + 2 := by rw [hWd]; simp
    have hnl : ∀ B, w.heap.size ≤ B → B ∉ Kl.fps l := fun B hB hb => by have := HLT.out B hb; omega
    obtain ⟨r1, _⟩ := Kl.chs_rules HSP.out.ch (B := w.heap.size) (by omega) (hnl _ (by omega))
    obtain ⟨r2, f2⟩ := Kl.chs_rules HSP.out.ch (B := w.heap.size + 1) (by omega) (hnl _ (by omega))
    have hz : w.heap.size + 1 < w1.heap.size := by have := HSP.out.ch.size; omega
    have j0 : w1.cell? ⟨w.heap.size, 0, none⟩ = some (.int .i64 op) := (r1 0).trans (by rw [hWd]; simp)
    have d0 : w1.cell? ⟨w.heap.size + 1, 0, none⟩ = some (.int .i64 0) := (r2 0).trans (by rw [hWd]; simp)
    have d1 : w1.cell? ⟨w.heap.size + 1, 1, none⟩ = some (.int .i64 0) := (r2 1).trans (by rw [hWd]; simp)
    have d2 : w1.cell? ⟨w.heap.size + 1, 2, none⟩ = some (.int .i64 0) := (r2 2).trans (by rw [hWd]; simp)
    have d3 : w1.cell? ⟨w.heap.size + 1, 3, none⟩ = some (.slice none 0 0) := (r2 3).trans (by rw [hWd]; simp)
    have e2 : ∀ o, w1.frozen? ⟨w.heap.size + 1, o, none⟩ = false := fun o => (f2 o).trans (by rw [hWd]; simp)
    have hgA := Kl.lt_inn HSP.out
    have hinn : ∀ b, b ∈ Kl.fps A ∨ b = g → b ≠ w.heap.size + 1 ∧ b ≠ w1.heap.size := fun b hb => by
      refine ⟨?_, ?_⟩
      · rcases HSP.out.inn b hb with q | q
        · have := HLT.out b q; omega
        · omega
      · rcases hb with hb | hb
        · have := hgA.1 b hb; omega
        · rw [hb]; have := hgA.2; omega
    have HINN := hide' hinn
    have HGG := hide' hgA.2
    have t2 : 2 ≤ k := HSP.out.two
    have t3 : k ≤ cap := by have := HSP.out.row.1.len; rw [HSP.out.len] at this; exact this
    have t4 : cap ≤ 9223372036854775807 := by have := HSP.out.row.1.max; unfold maxLen at this; exact this
    have cl := CA.out W (w1.alloc (.cells #[.slice (some ⟨g, 0, none⟩) k cap] 24)) HBW.out (HSP.out.ch.trans (Kl.Chs.of_below ((Below.refl _ _).alloc (Nat.le_refl _) _))) (((Kl.Gr.refl w1).alloc _).cell j0)
    refine cl.mono ?_
    rintro r w2 ⟨rfl, hg2⟩
    have HG2 : Hid (Kl.Gr w1 w2) := ((Kl.Gr.refl w1).alloc _).trans hg2
    have k0 := HG2.out.cell j0
    have k5 : w2.cell? ⟨w1.heap.size, 0, none⟩ = some (.slice (some ⟨g, 0, none⟩) k cap) := hg2.cell (by simp)
    have b0 := HG2.out.cell d0
    have b1 := HG2.out.cell d1
    have b2 := HG2.out.cell d2
    have b3 := HG2.out.cell d3
    have b4 : ∀ o, w2.frozen? ⟨w.heap.size + 1, o, none⟩ = false := fun o => (HG2.out.below.frozen (p := ⟨w.heap.size + 1, o, none⟩) (by show _ < w1.heap.size; omega)).trans (e2 o)
    have HS2 := hide' (HSP.out.keep HG2.out.below)
    have SZW := hide' szW
    clear cl hg2 hWd r1 r2 f2 j0 d0 d1 d2 d3 e2 hgA hinn hnl szW
    have s1 : ¬ cap = 1 := by omega
    have s2 : ¬ cap - 1 = 0 := by omega
    go_wp2_with fail
    refine (CB.out W A g cap k w2 w1.heap.size HS2.out k5).mono ?_
    rintro r w3 ⟨d, rfl, HDD, hg3⟩
    have HG3 := hide' hg3
    have m0 := hg3.cell k0
    have m5 := hg3.cell k5
    have n0 := hg3.cell b0
    have n1 := hg3.cell b1
    have n2 := hg3.cell b2
    have n3 := hg3.cell b3
    have n4 : ∀ o, w3.frozen? ⟨w.heap.size + 1, o, none⟩ = false := fun o => (hg3.below.frozen (p := ⟨w.heap.size + 1, o, none⟩) (by show w.heap.size + 1 < w2.heap.size; have := HG2.out.below.size; omega)).trans (b4 o)
    have HS3 := hide' ((HS2.out.keep hg3.below).base HBW.out)
    clear hg3 k0 k5 b0 b1 b2 b3 b4 HG2
    cases d with
    | true =>
      go_wp2_with fail
      refine bodyPost_ret (v := .agg #[.int .i64 op, .int .i64 0, .int .i64 0, .slice (some ⟨g, 0, none⟩) k cap]) (by simp [results, Try.results46, go_sem, n0, n1, n2, n3]) rfl ?_
      refine Kl.joE_all (Below.refl _ _) ((((HS3.out.setc ?_ ?_ _).setc ?_ ?_ _).setc ?_ ?_ _).setc ?_ ?_ _) HO.out HLO.out (.inr HDD.out.symm) ((HRES.out A HSP.out.con _ _ HSD.out.symm HDD.out).trans (by rw [if_pos (by simp)]))
      all_goals first | exact ⟨fun hb => (HINN.out _ (.inl hb)).1 rfl, fun e => (HINN.out _ (.inr rfl)).1 e.symm⟩ | exact Nat.le_succ _
    | false =>
      obtain ⟨a0, A', rfl⟩ : ∃ a0 A', A = a0 :: A' := by
        cases A with
        | nil => have := HSP.out.len; simp at this; omega
        | cons a0 A' => exact ⟨a0, A', rfl⟩
      have r0 := HS3.out.row.1.rng 0 (by simp)
      rw [show Kl.nth (a0 :: A') 0 = a0 from rfl, Nat.zero_mul] at r0
      have HC := hide' ((HRES.out _ HSP.out.con _ _ HSD.out.symm HDD.out).trans (by rw [if_neg (by simp)]; rfl : _ = Kl.ct a0))
      have HEN : Hid (Kl.JoE w op l (.returned (.agg a0.enc.toArray)) = Kl.JoE w op l (.returned (.agg a0.enc.toArray))) := rfl
      obtain ⟨xo, xv, xn, xp, xc, xl⟩ := a0
      obtain ⟨p0, p1, p2, p3⟩ := Kl.cells4 r0
      obtain ⟨kx, hkx⟩ : ∃ k, xl.length = k := ⟨_, rfl⟩
      rw [hkx] at p3
      simp only [Nat.zero_add] at p1 p2 p3
      have HKX := hide' hkx
      have t5 : (0 : Int) < (k : Int) := by omega
      clear r0 hkx HEN
      go_wp2_with fail
      refine bodyPost_ret (v := .agg #[.int .i64 xo, .int .i64 xv, .int .i64 xn, .slice xp kx xc]) (by simp [results, Try.results46, go_sem, n0, n1, n2, n3]) rfl ?_
      rw [← HKX.out]
      refine Kl.joE_one (Below.refl _ _) ((((HS3.out.setc ?_ ?_ _).setc ?_ ?_ _).setc ?_ ?_ _).setc ?_ ?_ _) HSD.out HC.out
      all_goals first | exact ⟨fun hb => (HINN.out _ (.inl hb)).1 rfl, fun e => (HINN.out _ (.inr rfl)).1 e.symm⟩ | exact Nat.le_succ _
end Go.Proofs.Ytmpmlccomgepjaa

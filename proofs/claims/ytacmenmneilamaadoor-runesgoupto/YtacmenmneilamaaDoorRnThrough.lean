/-
  THE WALK over gimletlaw01.through: All, gone through up to a number, and from the beginning again within.
-/
import Derived.Test.YtacmenmneilamaaDoorRnByte
import Derived.Test.YtacmenmneilamaaDoorRnRunes
namespace Go.Proofs.YtacmenmneilamaaDoor
open Go.RowKit Go.Shelf
attribute [local go_sem] Oper.semAt_some

namespace Rn
/-- are these the first characters of those? -/
def okp {n : Nat} (cs pre : List (Chr n)) : Bool := decide (pre.map (·.1) = (cs.map (·.1)).take pre.length)
theorem okp_nil {n : Nat} (cs : List (Chr n)) : okp cs [] = true := by simp [okp]
theorem okp_prefix {n : Nat} {cs pre : List (Chr n)} (h : pre <+: cs) : okp cs pre = true := by
  obtain ⟨t, rfl⟩ := h
  simp [okp]
theorem okp_self {n : Nat} (cs : List (Chr n)) : okp cs cs = true := okp_prefix ⟨[], by simp⟩
theorem okp_ge {n : Nat} {cs pre : List (Chr n)} (x : Chr n) (h : cs.length ≤ pre.length) : okp cs (pre ++ [x]) = false := by
  unfold okp
  rw [decide_eq_false_iff_not]
  intro e
  have := congrArg List.length e
  simp at this
  omega
theorem snoc_iff {α : Type} {a b : List α} {x y : α} (h : a.length = b.length) : (a ++ [x] = b ++ [y]) ↔ (a = b ∧ x = y) := by
  constructor
  · intro e
    obtain ⟨h1, h2⟩ := List.append_inj e h
    simp at h2
    exact ⟨h1, h2⟩
  · rintro ⟨rfl, rfl⟩; rfl
theorem okp_lt {n : Nat} {cs pre : List (Chr n)} (x : Chr n) (h : pre.length < cs.length) : okp cs (pre ++ [x]) = (okp cs pre && decide (cs[pre.length].1.1 = x.1.1) && decide (cs[pre.length].1.2 = x.1.2)) := by
  have h' : pre.length < (cs.map (·.1)).length := by simpa using h
  have e : (cs.map (·.1)).take (pre.length + 1) = (cs.map (·.1)).take pre.length ++ [cs[pre.length].1] := by
    rw [List.take_succ_eq_append_getElem h']
    simp
  unfold okp
  rw [Bool.eq_iff_iff]
  simp only [Bool.and_eq_true, decide_eq_true_eq, List.map_append, List.map_cons, List.map_nil, List.length_append, List.length_cons, List.length_nil, Nat.zero_add]
  rw [e, snoc_iff (by simp; omega), and_assoc]
  refine and_congr_right fun _ => ⟨fun h => by rw [h]; exact ⟨rfl, rfl⟩, fun h => Prod.ext h.1.symm h.2.symm⟩
end Rn

/-- through's boxes that no round turns -/
structure TB (Bs : Nat) (pp pc : Option Addr) (capp capc L M : Nat) (t0 t1 t2 t3 : TypeId) (w W : World) : Prop where
  below : Below w.heap.size w W
  seq : Boxed W w.heap.size t0 (.func (.func 50) #[] #[.pointer (some ⟨Bs, 0, none⟩)])
  pla : Boxed W (w.heap.size + 1) t1 (.slice pp L capp)
  chr : Boxed W (w.heap.size + 1 + 1) t2 (.slice pc L capc)
  mos : Boxed W (w.heap.size + 1 + 1 + 1) t3 (.int .i64 M)
theorem TB.own {β : Type} {Bs : Nat} {pp pc : Option Addr} {capp capc L M : Nat} {t0 t1 t2 t3 : TypeId} {w : World} (B : Nat) (hB : w.heap.size ≤ B) : OwnFrom B (fun (_ : β) W => TB Bs pp pc capp capc L M t0 t1 t2 t3 w W) := by
  intro s X Y row h hg hr
  have hr' : ∀ r, row = some r → ∃ o : Obj, X.heap[r]? = some o ∧ o.isCells = false := fun r e => (hr r e).2
  exact ⟨ownFrom_below (β := β) (Nat.le_refl _) hB s X Y row h.below hg hr, boxed_own _ t0 (fun (_ : Unit) => _) () X Y row h.seq hg hr', boxed_own _ t1 (fun (_ : Unit) => _) () X Y row h.pla hg hr', boxed_own _ t2 (fun (_ : Unit) => _) () X Y row h.chr hg hr', boxed_own _ t3 (fun (_ : Unit) => _) () X Y row h.mos hg hr'⟩
theorem TB.set {Bs : Nat} {pp pc : Option Addr} {capp capc L M : Nat} {t0 t1 t2 t3 : TypeId} {w W : World} (h : TB Bs pp pc capp capc L M t0 t1 t2 t3 w W) {k : Nat} (hk : w.heap.size + 1 + 1 + 1 < k) (u : Value) : TB Bs pp pc capp capc L M t0 t1 t2 t3 w (W.setCell ⟨k, 0, none⟩ u) :=
  ⟨h.below.setCell (p := ⟨k, 0, none⟩) (by show w.heap.size ≤ k; omega) _, h.seq.other (by omega) _, h.pla.other (by omega) _, h.chr.other (by omega) _, h.mos.other (by omega) _⟩
theorem TB.alloc {Bs : Nat} {pp pc : Option Addr} {capp capc L M : Nat} {t0 t1 t2 t3 : TypeId} {w W : World} (h : TB Bs pp pc capp capc L M t0 t1 t2 t3 w W) (o : Obj) : TB Bs pp pc capp capc L M t0 t1 t2 t3 w (W.alloc o) :=
  ⟨h.below.alloc h.below.size _, h.seq.alloc _, h.pla.alloc _, h.chr.alloc _, h.mos.alloc _⟩
theorem ownFrom_walks {β : Type} {B : Nat} {w₀ : World} (hB : w₀.heap.size ≤ B) : OwnFrom B (fun (_ : β) W => KeepsWalks w₀ W) :=
  fun _ X Y row hs hg hr => ⟨Nat.le_trans hs.size hg.size, fun k o h0 ho => by
    have hX := hs.same k o h0 ho
    refine (hg.block k (Array.getElem?_eq_some_iff.1 hX).1 (fun e => ?_)).trans hX
    have h1 := (hr k e.symm).1
    have h2 := (Array.getElem?_eq_some_iff.1 h0).1
    omega⟩

set_option maxRecDepth 100000 in
set_option maxHeartbeats 8000000 in
theorem through_of {n : Nat} (f : Nat → Nat) (hf : ∀ j, f j < 256) (cs : List (Rn.Chr n)) (hcs : cs = Rn.chs f n hf) (Bs L : Nat) (pp pc : Option Addr) (capp capc M : Nat) (w : World) (hL : L = cs.length) (hbig : n ≤ 1099511627776)
    (hbs : w.cell? ⟨Bs, 0, none⟩ = some (.string (Rn.arr f n))) (hM : M ≤ L)
    (hrow : 0 < L → ∃ gp gc, pp = some ⟨gp, 0, none⟩ ∧ pc = some ⟨gc, 0, none⟩ ∧ (∀ j (h : j < cs.length), w.cell? ⟨gp, j, none⟩ = some (.int .i64 cs[j].1.1)) ∧ (∀ j (h : j < cs.length), w.cell? ⟨gc, j, none⟩ = some (.int .i32 cs[j].1.2))) :
    Calls Tryd.prog 35 #[.func (.func 50) #[] #[.pointer (some ⟨Bs, 0, none⟩)], .slice pp L capp, .slice pc L capc, .int .i64 M] w fun e w' => e = .returned (.bool true) ∧ Below w.heap.size w w' := by
  refine (callsIn_wide (n := 8)).1 ?_
  refine callsIn_of_wp_marks Tryd.func35 rfl trivial ?_ rfl
  simp only [Tryd.ntmps35, List.size_toArray, List.length_cons, List.length_nil, Nat.reduceAdd, Nat.reduceSub, Array.replicate_succ, Array.replicate_zero, List.push_toArray, List.append_toArray, List.nil_append, List.cons_append]
  have hln : L ≤ n := by rw [hL, hcs]; exact Rn.chs_length f n hf
  have hN := block_lt_of_cell hbs
  have HL := hide' hL
  have HC := hide' hcs
  clear hL hcs
  gi_wp2_with fail
  obtain ⟨W0, hW0⟩ : ∃ W0, ((((((w.alloc (.cells #[.func (.func 50) #[] #[.pointer (some ⟨Bs, 0, none⟩)]] 62)).alloc (.cells #[.slice pp L capp] 65)).alloc (.cells #[.slice pc L capc] 59)).alloc (.cells #[.int .i64 M] 3)).alloc (.cells #[.int .i64 0] 3)).alloc (.cells #[.bool true] 4)) = W0 := ⟨_, rfl⟩
  have hsz0 : W0.heap.size = w.heap.size + 6 := by
    subst hW0
    simp
  have hT0 : TB Bs pp pc capp capc L M 62 65 59 3 w W0 ∧ Boxed W0 (w.heap.size + 1 + 1 + 1 + 1) 3 (.int .i64 0) ∧ Boxed W0 (w.heap.size + 1 + 1 + 1 + 1 + 1) 4 (.bool true) := by
    subst hW0
    refine ⟨⟨(((((((Below.refl w.heap.size w).alloc (Nat.le_refl _) _).alloc (by simp) _).alloc (by simp; omega) _).alloc (by simp; omega) _).alloc (by simp; omega) _).alloc (by simp; omega) _), ?_, ?_, ?_, ?_⟩, ?_, ?_⟩
    · exact (((((Boxed.new w _ _).alloc _).alloc _).alloc _).alloc _).alloc _
    · have := ((((Boxed.new (w.alloc (.cells #[.func (.func 50) #[] #[.pointer (some ⟨Bs, 0, none⟩)]] 62)) 65 (.slice pp L capp)).alloc (.cells #[.slice pc L capc] 59)).alloc (.cells #[.int .i64 M] 3)).alloc (.cells #[.int .i64 0] 3)).alloc (.cells #[.bool true] 4)
      simp only [World.size_alloc] at this
      exact this
    · have := (((Boxed.new ((w.alloc (.cells #[.func (.func 50) #[] #[.pointer (some ⟨Bs, 0, none⟩)]] 62)).alloc (.cells #[.slice pp L capp] 65)) 59 (.slice pc L capc)).alloc (.cells #[.int .i64 M] 3)).alloc (.cells #[.int .i64 0] 3)).alloc (.cells #[.bool true] 4)
      simp only [World.size_alloc] at this
      exact this
    · have := ((Boxed.new (((w.alloc (.cells #[.func (.func 50) #[] #[.pointer (some ⟨Bs, 0, none⟩)]] 62)).alloc (.cells #[.slice pp L capp] 65)).alloc (.cells #[.slice pc L capc] 59)) 3 (.int .i64 M)).alloc (.cells #[.int .i64 0] 3)).alloc (.cells #[.bool true] 4)
      simp only [World.size_alloc] at this
      exact this
    · have := (Boxed.new ((((w.alloc (.cells #[.func (.func 50) #[] #[.pointer (some ⟨Bs, 0, none⟩)]] 62)).alloc (.cells #[.slice pp L capp] 65)).alloc (.cells #[.slice pc L capc] 59)).alloc (.cells #[.int .i64 M] 3)) 3 (.int .i64 0)).alloc (.cells #[.bool true] 4)
      simp only [World.size_alloc] at this
      exact this
    · have := Boxed.new (((((w.alloc (.cells #[.func (.func 50) #[] #[.pointer (some ⟨Bs, 0, none⟩)]] 62)).alloc (.cells #[.slice pp L capp] 65)).alloc (.cells #[.slice pc L capc] 59)).alloc (.cells #[.int .i64 M] 3)).alloc (.cells #[.int .i64 0] 3)) 4 (.bool true)
      simp only [World.size_alloc] at this
      exact this
  rw [hW0]
  clear hW0
  obtain ⟨hT0, hn0, ho0⟩ := hT0
  have hbox : W0.cell? ⟨Bs, 0, none⟩ = some (.string (Rn.arr f n)) := (hT0.below.cell (p := ⟨Bs, 0, none⟩) hN).trans hbs
  refine wpIn_rangeFunc_ownH rfl (by omega) (gf := 50) (lb := #[.pointer (some ⟨Bs, 0, none⟩)]) rfl trivial (enters_of Tryd.func50 (by kernel_rfl) rfl)
    (all_stops Fence.wide 7 trivial rfl (by omega) Bs n f hf W0 hbox) walksK_t walksK_b (Below.refl _ _) (fun _ => rfl)
    (fun pre W => (TB Bs pp pc capp capc L M 62 65 59 3 w W ∧ pre.length ≤ M) ∧ Boxed W (w.heap.size + 1 + 1 + 1 + 1) 3 (.int .i64 pre.length) ∧ Boxed W (w.heap.size + 1 + 1 + 1 + 1 + 1) 4 (.bool (Rn.okp cs pre)))
    (fun c pre W => (TB Bs pp pc capp capc L M 62 65 59 3 w W ∧ c = .exit 0) ∧ Boxed W (w.heap.size + 1 + 1 + 1 + 1) 3 (.int .i64 M) ∧ Boxed W (w.heap.size + 1 + 1 + 1 + 1 + 1) 4 (.bool (Rn.okp cs pre.dropLast)))
    (OwnFrom.and (OwnFrom.and (TB.own _ (by omega)) (ownFrom_pure _ _)) (OwnFrom.and (Own.from (boxed_own _ _ _) _) (Own.from (boxed_own _ _ _) _)))
    (fun c => OwnFrom.and (OwnFrom.and (TB.own _ (by omega)) (ownFrom_pure _ (fun _ => c = .exit 0))) (OwnFrom.and (Own.from (boxed_own _ _ (fun _ => _)) _) (Own.from (boxed_own _ _ _) _)))
    ⟨⟨hT0, by simp⟩, by simpa using hn0, by rw [Rn.okp_nil]; exact ho0⟩
    (fun x a' _ => a' = { tmps := #[.func (.func 50) #[] #[.pointer (some ⟨Bs, 0, none⟩)], .slice pp L capp, .slice pc L capc, .int .i64 M, .pointer (some ⟨w.heap.size, 0, none⟩), .pointer (some ⟨w.heap.size + 1, 0, none⟩), .pointer (some ⟨w.heap.size + 1 + 1, 0, none⟩), .pointer (some ⟨w.heap.size + 1 + 1 + 1, 0, none⟩), .bool false, .pointer (some ⟨w.heap.size + 1 + 1 + 1 + 1, 0, none⟩), .pointer (some ⟨w.heap.size + 1 + 1 + 1 + 1 + 1, 0, none⟩), .int .i64 x.1.1, .int .i32 x.1.2, undef, undef, undef, .func (.func 50) #[] #[.pointer (some ⟨Bs, 0, none⟩)], .int .i64 x.1.1, .int .i32 x.1.2, undef, undef, undef, undef, undef, undef, undef, undef, undef, undef, undef, undef, undef, undef, undef, undef, undef, undef, undef, undef, undef, undef, undef, undef, undef, undef, undef, undef, undef, undef, undef, undef, undef, undef, undef, undef, undef, undef, undef, undef, undef, undef, undef, undef, undef, undef, undef, undef, undef, undef, undef, undef, undef, undef, undef, undef, undef, undef, undef, undef, undef, undef, undef, undef, undef, undef, undef, undef], defers := [] })
    (fun _ _ _ _ _ _ hs _ _ => hs)
    ?assign ?body ?done ?stop
  case assign =>
    rintro l pre x W K hi hK
    simp only [Rn.encC]
    gi_wp2
    exact hK _ _ (KeepsFrom.refl _ _) (KeepsWalks.refl _) hi rfl
  case body =>
    rintro l pre ⟨⟨a, r⟩, ha, hr⟩ a' W hl ⟨rec, hrec⟩ ⟨⟨hT, hle⟩, hn, ho⟩ rfl hlt
    dsimp only at ha hr ⊢
    have cN := hn.cell
    have cM := hT.mos.cell
    refine wpIn_block ?_
    by_cases hge : pre.length < M
    · have hge' : ¬ (M : Int) ≤ pre.length := by omega
      refine wpIn_seq_k fun K hK => ?_
      have HK := hide' hK
      clear hK
      gi_wp2
      refine HK.out _ _ ?_
      clear HK
      refine wpIn_seq ?_
      obtain ⟨gp, gc, rfl, rfl, hpl, hch⟩ := hrow (by omega)
      have hkl : pre.length < cs.length := by have := HL.out; omega
      have cP := (hT.below.cell (p := ⟨gp, pre.length, none⟩) (block_lt_of_cell (hpl _ hkl))).trans (hpl _ hkl)
      have cR := (hT.below.cell (p := ⟨gc, pre.length, none⟩) (block_lt_of_cell (hch _ hkl))).trans (hch _ hkl)
      have hokl := Rn.okp_lt ⟨(a, r), ha, hr⟩ hkl
      dsimp only at hokl
      have cPl := hT.pla.cell
      have cCh := hT.chr.cell
      have cO := ho.cell
      have fO := ho.frozen
      have hlt1 : (pre.length : Int) < L := by omega
      generalize hb0 : Rn.okp cs pre = b0 at *
      generalize hP : cs[pre.length].1.1 = P at *
      generalize hR : cs[pre.length].1.2 = R at *
      have HOK := hide' hokl
      clear hokl hP hR hb0
      obtain ⟨Mid, hMid⟩ : ∃ Mid : Act → World → Prop, Mid = fun a' W' => ∃ u19 u20 u21 u22 u23 u24 u25 u26 u27 u28 u29 u30 u31 u32 u33 u34 u35 u36 u37 u38 u39 u40 u41 u42 u43 u44, a' = { tmps := #[.func (.func 50) #[] #[.pointer (some ⟨Bs, 0, none⟩)], .slice (some ⟨gp, 0, none⟩) L capp, .slice (some ⟨gc, 0, none⟩) L capc, .int .i64 M, .pointer (some ⟨w.heap.size, 0, none⟩), .pointer (some ⟨w.heap.size + 1, 0, none⟩), .pointer (some ⟨w.heap.size + 1 + 1, 0, none⟩), .pointer (some ⟨w.heap.size + 1 + 1 + 1, 0, none⟩), .bool false, .pointer (some ⟨w.heap.size + 1 + 1 + 1 + 1, 0, none⟩), .pointer (some ⟨w.heap.size + 1 + 1 + 1 + 1 + 1, 0, none⟩), .int .i64 a, .int .i32 r, undef, undef, undef, .func (.func 50) #[] #[.pointer (some ⟨Bs, 0, none⟩)], .int .i64 a, .int .i32 r, u19, u20, u21, u22, u23, u24, u25, u26, u27, u28, u29, u30, u31, u32, u33, u34, u35, u36, u37, u38, u39, u40, u41, u42, u43, u44, undef, undef, undef, undef, undef, undef, undef, undef, undef, undef, undef, undef, undef, undef, undef, undef, undef, undef, undef, undef, undef, undef, undef, undef, undef, undef, undef, undef, undef, undef, undef, undef, undef, undef, undef, undef, undef, undef, undef, undef, undef, undef], defers := [] } ∧ W' = W.setCell ⟨w.heap.size + 1 + 1 + 1 + 1 + 1, 0, none⟩ (.bool (b0 && decide (P = a) && decide (R = r))) := ⟨_, rfl⟩
      have HMid := hide' hMid
      clear hMid
      refine wpIn_mono (Q := Exit.then Mid (fun _ _ _ => False)) ?_ ?_
      · cases b0 with
        | false =>
          gi_wp2
          rw [HMid.out]
          exact ⟨_, _, _, _, _, _, _, _, _, _, _, _, _, _, _, _, _, _, _, _, _, _, _, _, _, _, rfl, rfl⟩
        | true =>
          by_cases h1 : P = a
          · by_cases h2 : R = r
            · subst h1 h2
              have e1 : ((P : Int) == P) = true := by simp
              have e2 : ((R : Int) == R) = true := by simp
              gi_wp2
              rw [HMid.out]
              exact ⟨_, _, _, _, _, _, _, _, _, _, _, _, _, _, _, _, _, _, _, _, _, _, _, _, _, _, rfl, by simp⟩
            · subst h1
              have e1 : ((P : Int) == P) = true := by simp
              have e2 : ((R : Int) == r) = false := by simp; omega
              gi_wp2
              rw [HMid.out]
              exact ⟨_, _, _, _, _, _, _, _, _, _, _, _, _, _, _, _, _, _, _, _, _, _, _, _, _, _, rfl, by simp [h2]⟩
          · have e1 : ((P : Int) == a) = false := by simp; omega
            gi_wp2
            rw [HMid.out]
            exact ⟨_, _, _, _, _, _, _, _, _, _, _, _, _, _, _, _, _, _, _, _, _, _, _, _, _, _, rfl, by simp [h1]⟩
      rintro e a' W' h
      cases e with
      | normal =>
        replace h : Mid a' W' := h
        rw [HMid.out] at h
        obtain ⟨u19, u20, u21, u22, u23, u24, u25, u26, u27, u28, u29, u30, u31, u32, u33, u34, u35, u36, u37, u38, u39, u40, u41, u42, u43, u44, rfl, rfl⟩ := h
        show Code.wpIn _ _ _ _ _ _ _
        rw [← HOK.out]
        have hT1 := hT.set (k := w.heap.size + 1 + 1 + 1 + 1 + 1) (by omega) (.bool (Rn.okp cs (pre ++ [⟨(a, r), ha, hr⟩])))
        have hn1 := hn.other (B' := w.heap.size + 1 + 1 + 1 + 1 + 1) (by omega) (.bool (Rn.okp cs (pre ++ [⟨(a, r), ha, hr⟩])))
        have ho1 := ho.set (.bool (Rn.okp cs (pre ++ [⟨(a, r), ha, hr⟩])))
        have hkf1 : KeepsOthers W (W.setCell ⟨w.heap.size + 1 + 1 + 1 + 1 + 1, 0, none⟩ (.bool (Rn.okp cs (pre ++ [⟨(a, r), ha, hr⟩])))) := KeepsOthers.setCell _ _ _
        clear hT hn ho cN cM cP cR cPl cCh cO fO HOK
        generalize W.setCell ⟨w.heap.size + 1 + 1 + 1 + 1 + 1, 0, none⟩ (.bool (Rn.okp cs (pre ++ [⟨(a, r), ha, hr⟩]))) = W1 at *
        have cN := hn1.cell
        have cM := hT1.mos.cell
        have fN := hn1.frozen
        by_cases hh : pre.length = M / 2
        · have hh' : ((pre.length : Int) == (M : Int) / 2) = true := by simp; omega
          have cSeq : (W1.alloc (.cells #[.int .i64 0] 3)).cell? ⟨w.heap.size, 0, none⟩ = some (.func (.func 50) #[] #[.pointer (some ⟨Bs, 0, none⟩)]) := (hT1.seq.alloc _).cell
          have hrec1 := hkf1.same _ _ hrec rfl
          generalize hb1 : Rn.okp cs (pre ++ [⟨(a, r), ha, hr⟩]) = b1 at *
          have HB1 := hide' hb1
          clear hb1
          gi_wp2
          obtain ⟨W2, hW2⟩ : ∃ W2, W1.alloc (.cells #[.int .i64 0] 3) = W2 := ⟨_, rfl⟩
          have hrec2 : W2.heap[l]? = some (.loop rec) := by rw [← hW2]; exact (Below.heap_alloc W1 _ l (Array.getElem?_eq_some_iff.1 hrec1).1).trans hrec1
          have hT2 : TB Bs (some ⟨gp, 0, none⟩) (some ⟨gc, 0, none⟩) capp capc L M 62 65 59 3 w W2 := by rw [← hW2]; exact hT1.alloc _
          have hn2 : Boxed W2 (w.heap.size + 1 + 1 + 1 + 1) 3 (.int .i64 pre.length) := by rw [← hW2]; exact hn1.alloc _
          have ho2 : Boxed W2 (w.heap.size + 1 + 1 + 1 + 1 + 1) 4 (.bool b1) := by rw [← hW2]; exact ho1.alloc _
          have hk2 : Boxed W2 W1.heap.size 3 (.int .i64 0) := by rw [← hW2]; exact Boxed.new W1 _ _
          have hkf2 : KeepsOthers W W2 := by rw [← hW2]; exact hkf1.trans (KeepsOthers.alloc _ _)
          have hz2 : W2.heap.size = W1.heap.size + 1 := by rw [← hW2]; simp
          have hzW1 := hkf1.size
          have hzo := ho1.lt
          have hbox2 : W2.cell? ⟨Bs, 0, none⟩ = some (.string (Rn.arr f n)) := (hT2.below.cell (p := ⟨Bs, 0, none⟩) hN).trans hbs
          rw [hW2]
          clear hh hh'
          clear hW2 cN cM fN cSeq hT1 hn1 ho1 hrec1
          have hseq2 : SeqStopsK (Fence.wide.inRound l) (8 - 1 - 1 - 1) Tryd.prog 50 #[.pointer (some ⟨Bs, 0, none⟩)] (Rn.encC (n := n)) KeepsWalks (fun ys => ys = Rn.chs f n hf) (fun pre => pre <+: Rn.chs f n hf) n W2 :=
            SeqStopsK.inRound l (all_stops Fence.wide (8 - 1 - 1 - 1) trivial rfl (by omega) Bs n f hf W2 hbox2)
          refine wpIn_rangeFunc_ownN (l₀ := l) (r₀ := rec) rfl hrec2 (by omega) (gf := 50) (lb := #[.pointer (some ⟨Bs, 0, none⟩)]) rfl trivial (enters_of Tryd.func50 (by kernel_rfl) rfl)
            hseq2 walksK_t walksK_b (Below.refl _ _) (fun _ => rfl)
            (fun pre2 W' => (TB Bs (some ⟨gp, 0, none⟩) (some ⟨gc, 0, none⟩) capp capc L M 62 65 59 3 w W' ∧ pre2.length ≤ 6) ∧ ((Boxed W' (w.heap.size + 1 + 1 + 1 + 1) 3 (.int .i64 pre.length) ∧ Boxed W' (w.heap.size + 1 + 1 + 1 + 1 + 1) 4 (.bool (b1 && Rn.okp cs pre2))) ∧ Boxed W' W1.heap.size 3 (.int .i64 pre2.length)) ∧ (KeepsFrom W0.heap.size W W' ∧ KeepsWalks W W'))
            (fun c pre2 W' => (TB Bs (some ⟨gp, 0, none⟩) (some ⟨gc, 0, none⟩) capp capc L M 62 65 59 3 w W' ∧ c = .exit 2) ∧ (Boxed W' (w.heap.size + 1 + 1 + 1 + 1) 3 (.int .i64 pre.length) ∧ Boxed W' (w.heap.size + 1 + 1 + 1 + 1 + 1) 4 (.bool (b1 && Rn.okp cs pre2))) ∧ (KeepsFrom W0.heap.size W W' ∧ KeepsWalks W W'))
            (OwnFrom.and (OwnFrom.and (TB.own _ (by omega)) (ownFrom_pure _ _)) (OwnFrom.and (OwnFrom.and (OwnFrom.and (Own.from (boxed_own _ _ (fun _ => _)) _) (Own.from (boxed_own _ _ _) _)) (Own.from (boxed_own _ _ _) _)) (OwnFrom.and (ownFrom_keepsFrom (by omega)) (ownFrom_walks (by omega)))))
            (fun c => OwnFrom.and (OwnFrom.and (TB.own _ (by omega)) (ownFrom_pure _ (fun _ => c = .exit 2))) (OwnFrom.and (OwnFrom.and (Own.from (boxed_own _ _ (fun _ => _)) _) (Own.from (boxed_own _ _ _) _)) (OwnFrom.and (ownFrom_keepsFrom (by omega)) (ownFrom_walks (by omega)))))
            ⟨⟨hT2, by simp⟩, ⟨⟨hn2, by rw [Rn.okp_nil, Bool.and_true]; exact ho2⟩, by simpa using hk2⟩, hkf2.from _, keepsWalks_of hkf2⟩
            (fun y a'' _ => a'' = { tmps := #[.func (.func 50) #[] #[.pointer (some ⟨Bs, 0, none⟩)], .slice (some ⟨gp, 0, none⟩) L capp, .slice (some ⟨gc, 0, none⟩) L capc, .int .i64 M, .pointer (some ⟨w.heap.size, 0, none⟩), .pointer (some ⟨w.heap.size + 1, 0, none⟩), .pointer (some ⟨w.heap.size + 1 + 1, 0, none⟩), .pointer (some ⟨w.heap.size + 1 + 1 + 1, 0, none⟩), .bool false, .pointer (some ⟨w.heap.size + 1 + 1 + 1 + 1, 0, none⟩), .pointer (some ⟨w.heap.size + 1 + 1 + 1 + 1 + 1, 0, none⟩), .int .i64 a, .int .i32 r, .pointer (some ⟨W1.heap.size, 0, none⟩), .int .i64 y.1.1, .int .i32 y.1.2, .func (.func 50) #[] #[.pointer (some ⟨Bs, 0, none⟩)], .int .i64 a, .int .i32 r, u19, u20, u21, u22, u23, u24, u25, u26, u27, u28, u29, u30, u31, u32, u33, u34, u35, u36, u37, u38, u39, u40, u41, u42, u43, u44, .int .i64 ((M : Int) / 2), .int .i64 M, .int .i64 ((M : Int) / 2), .bool true, .func (.func 50) #[] #[.pointer (some ⟨Bs, 0, none⟩)], .int .i64 y.1.1, .int .i32 y.1.2, undef, undef, undef, undef, undef, undef, undef, undef, undef, undef, undef, undef, undef, undef, undef, undef, undef, undef, undef, undef, undef, undef, undef, undef, undef, undef, undef, undef, undef, undef, undef, undef, undef, undef, undef], defers := [] })
            (fun _ _ _ _ _ _ hs _ _ => hs)
            ?assign2 ?body2 ?done2 ?stop2
          case assign2 =>
            rintro l2 pre2 y W' K hi hK
            simp only [Rn.encC]
            gi_wp2
            exact hK _ _ (KeepsFrom.refl _ _) (KeepsWalks.refl _) hi rfl
          case body2 =>
            rintro l2 pre2 ⟨⟨a2, r2⟩, ha2, hr2⟩ a'' W' hl2 - ⟨⟨hT3, hle3⟩, ⟨⟨hn3, ho3⟩, hk3⟩, hkf3, hkw3⟩ rfl hlt3
            dsimp only at ha2 hr2 ⊢
            refine wpIn_block ?_
            refine wpIn_seq ?_
            have cK := hk3.cell
            have cPl := hT3.pla.cell
            have cCh := hT3.chr.cell
            have cO := ho3.cell
            have fO := ho3.frozen
            obtain ⟨b2, hb2⟩ : ∃ b2, (b1 && Rn.okp cs (pre2 ++ [⟨(a2, r2), ha2, hr2⟩])) = b2 := ⟨_, rfl⟩
            have HB2 := hide' hb2
            obtain ⟨Mid2, hMid⟩ : ∃ Mid : Act → World → Prop, Mid = fun a' W'' => ∃ v52 v53 v54 v55 v56 v57 v58 v59 v60 v61 v62 v63 v64 v65 v66 v67 v68 v69 v70 v71 v72 v73 v74, a' = { tmps := #[.func (.func 50) #[] #[.pointer (some ⟨Bs, 0, none⟩)], .slice (some ⟨gp, 0, none⟩) L capp, .slice (some ⟨gc, 0, none⟩) L capc, .int .i64 M, .pointer (some ⟨w.heap.size, 0, none⟩), .pointer (some ⟨w.heap.size + 1, 0, none⟩), .pointer (some ⟨w.heap.size + 1 + 1, 0, none⟩), .pointer (some ⟨w.heap.size + 1 + 1 + 1, 0, none⟩), .bool false, .pointer (some ⟨w.heap.size + 1 + 1 + 1 + 1, 0, none⟩), .pointer (some ⟨w.heap.size + 1 + 1 + 1 + 1 + 1, 0, none⟩), .int .i64 a, .int .i32 r, .pointer (some ⟨W1.heap.size, 0, none⟩), .int .i64 a2, .int .i32 r2, .func (.func 50) #[] #[.pointer (some ⟨Bs, 0, none⟩)], .int .i64 a, .int .i32 r, u19, u20, u21, u22, u23, u24, u25, u26, u27, u28, u29, u30, u31, u32, u33, u34, u35, u36, u37, u38, u39, u40, u41, u42, u43, u44, .int .i64 ((M : Int) / 2), .int .i64 M, .int .i64 ((M : Int) / 2), .bool true, .func (.func 50) #[] #[.pointer (some ⟨Bs, 0, none⟩)], .int .i64 a2, .int .i32 r2, v52, v53, v54, v55, v56, v57, v58, v59, v60, v61, v62, v63, v64, v65, v66, v67, v68, v69, v70, v71, v72, v73, v74, undef, undef, undef, undef, undef, undef, undef, undef, undef, undef, undef, undef], defers := [] } ∧ W'' = W'.setCell ⟨w.heap.size + 1 + 1 + 1 + 1 + 1, 0, none⟩ (.bool b2) := ⟨_, rfl⟩
            have HMid2 := hide' hMid
            clear hMid
            refine wpIn_mono (Q := Exit.then Mid2 (fun _ _ _ => False)) ?_ ?_
            · cases hb : (b1 && Rn.okp cs pre2) with
              | false =>
                rw [hb] at cO
                have hb2' : b2 = false := by
                  rw [← hb2]
                  by_cases hkl2 : pre2.length < cs.length
                  · rw [Rn.okp_lt _ hkl2, ← Bool.and_assoc, ← Bool.and_assoc, hb]
                    simp
                  · rw [Rn.okp_ge _ (by omega), Bool.and_false]
                subst hb2'
                clear hb hb2
                gi_wp2
                rw [HMid2.out]
                exact ⟨_, _, _, _, _, _, _, _, _, _, _, _, _, _, _, _, _, _, _, _, _, _, _, rfl, rfl⟩
              | true =>
                rw [hb] at cO
                by_cases hkl2 : pre2.length < cs.length
                · have hkl3 : (pre2.length : Int) < L := by have := HL.out; omega
                  have cP := (hT3.below.cell (p := ⟨gp, pre2.length, none⟩) (block_lt_of_cell (hpl _ hkl2))).trans (hpl _ hkl2)
                  have cR := (hT3.below.cell (p := ⟨gc, pre2.length, none⟩) (block_lt_of_cell (hch _ hkl2))).trans (hch _ hkl2)
                  rw [Rn.okp_lt _ hkl2, ← Bool.and_assoc, ← Bool.and_assoc, hb] at hb2
                  dsimp only at hb2
                  generalize cs[pre2.length].1.1 = P2 at *
                  generalize cs[pre2.length].1.2 = R2 at *
                  clear hb
                  by_cases h1 : P2 = a2
                  · by_cases h2 : R2 = r2
                    · subst h1 h2
                      have hb2' : b2 = true := by rw [← hb2]; simp
                      subst hb2'
                      clear hb2
                      have e1 : ((P2 : Int) == P2) = true := by simp
                      have e2 : ((R2 : Int) == R2) = true := by simp
                      gi_wp2
                      rw [HMid2.out]
                      exact ⟨_, _, _, _, _, _, _, _, _, _, _, _, _, _, _, _, _, _, _, _, _, _, _, rfl, rfl⟩
                    · subst h1
                      have hb2' : b2 = false := by rw [← hb2]; simp [h2]
                      subst hb2'
                      clear hb2
                      have e1 : ((P2 : Int) == P2) = true := by simp
                      have e2 : ((R2 : Int) == r2) = false := by simp; omega
                      gi_wp2
                      rw [HMid2.out]
                      exact ⟨_, _, _, _, _, _, _, _, _, _, _, _, _, _, _, _, _, _, _, _, _, _, _, rfl, rfl⟩
                  · have hb2' : b2 = false := by rw [← hb2]; simp [h1]
                    subst hb2'
                    clear hb2
                    have e1 : ((P2 : Int) == a2) = false := by simp; omega
                    gi_wp2
                    rw [HMid2.out]
                    exact ⟨_, _, _, _, _, _, _, _, _, _, _, _, _, _, _, _, _, _, _, _, _, _, _, rfl, rfl⟩
                · have hkl3 : ¬ (pre2.length : Int) < L := by have := HL.out; omega
                  have hb2' : b2 = false := by rw [← hb2, Rn.okp_ge _ (by omega), Bool.and_false]
                  subst hb2'
                  clear hb hb2
                  gi_wp2
                  rw [HMid2.out]
                  exact ⟨_, _, _, _, _, _, _, _, _, _, _, _, _, _, _, _, _, _, _, _, _, _, _, rfl, rfl⟩
            rintro e a' W'' h
            cases e with
            | normal =>
              replace h : Mid2 a' W'' := h
              rw [HMid2.out] at h
              obtain ⟨v52, v53, v54, v55, v56, v57, v58, v59, v60, v61, v62, v63, v64, v65, v66, v67, v68, v69, v70, v71, v72, v73, v74, rfl, rfl⟩ := h
              show Code.wpIn _ _ _ _ _ _ _
              have hT4 := hT3.set (k := w.heap.size + 1 + 1 + 1 + 1 + 1) (by omega) (.bool b2)
              have hn4 := hn3.other (B' := w.heap.size + 1 + 1 + 1 + 1 + 1) (by omega) (.bool b2)
              have ho4 := ho3.set (.bool b2)
              have hk4 := hk3.other (B' := w.heap.size + 1 + 1 + 1 + 1 + 1) (by omega) (.bool b2)
              have hko := KeepsOthers.setCell W' ⟨w.heap.size + 1 + 1 + 1 + 1 + 1, 0, none⟩ (.bool b2)
              clear hT3 hn3 ho3 hk3 cK cPl cCh cO fO hb2 HMid2
              generalize W'.setCell ⟨w.heap.size + 1 + 1 + 1 + 1 + 1, 0, none⟩ (.bool b2) = W4 at *
              have cK := hk4.cell
              have fK := hk4.frozen
              have hko5 := hko.trans (KeepsOthers.setCell W4 ⟨W1.heap.size, 0, none⟩ (.int .i64 ((pre2.length : Int) + 1)))
              have hT5 := hT4.set (k := W1.heap.size) (by omega) (.int .i64 ((pre2.length : Int) + 1))
              have hn5 := hn4.other (B' := W1.heap.size) (by omega) (.int .i64 ((pre2.length : Int) + 1))
              have ho5 := ho4.other (B' := W1.heap.size) (by omega) (.int .i64 ((pre2.length : Int) + 1))
              have hk5 := hk4.set (.int .i64 ((pre2.length : Int) + 1))
              have cK5 := hk5.cell
              clear hT4 hn4 ho4 hk4
              by_cases h6 : pre2.length < 6
              · have h6' : ¬ (6 : Int) < (pre2.length : Int) + 1 := by omega
                gi_wp2
                refine ⟨hko5.from _, keepsWalks_of hko5, ⟨hT5, by simp; omega⟩, ⟨⟨hn5, by rw [HB2.out]; exact ho5⟩, ?_⟩, by rw [← hsz0]; exact hkf3.trans (hko5.from _), hkw3.trans (keepsWalks_of hko5)⟩
                have e : ((pre2 ++ [(⟨(a2, r2), ha2, hr2⟩ : Rn.Chr n)]).length : Int) = (pre2.length : Int) + 1 := by simp
                rw [e]
                exact hk5
              · have h6' : (6 : Int) < (pre2.length : Int) + 1 := by omega
                gi_wp2
                exact ⟨hko5.from _, ⟨hT5, rfl⟩, ⟨hn5, by rw [HB2.out]; exact ho5⟩, hkf3.trans (hko5.from _), hkw3.trans (keepsWalks_of hko5)⟩
            | _ => exact h.elim
          case done2 =>
            rintro ys W' rfl ⟨⟨hT3, -⟩, ⟨⟨hn3, ho3⟩, -⟩, hkf3, hkw3⟩
            rw [← HC.out, Rn.okp_self, Bool.and_true] at ho3
            have cN := hn3.cell
            have fN := hn3.frozen
            gi_wp2
            have hko := KeepsOthers.setCell W' ⟨w.heap.size + 1 + 1 + 1 + 1, 0, none⟩ (.int .i64 ((pre.length : Int) + 1))
            refine ⟨hkf3.trans (hko.from _), hkw3.trans (keepsWalks_of hko), ⟨hT3.set (by omega) _, by simp; omega⟩, ?_, by rw [HB1.out]; exact ho3.other (by omega) _⟩
            have e : ((pre ++ [(⟨(a, r), ha, hr⟩ : Rn.Chr n)]).length : Int) = (pre.length : Int) + 1 := by simp
            rw [e]
            exact hn3.set _
          case stop2 =>
            rintro c pre2 W' hpre2 ⟨⟨hT3, rfl⟩, ⟨hn3, ho3⟩, hkf3, hkw3⟩
            rw [Rn.okp_prefix (by rw [HC.out]; exact hpre2), Bool.and_true] at ho3
            have cN := hn3.cell
            have fN := hn3.frozen
            gi_wp2
            have hko := KeepsOthers.setCell W' ⟨w.heap.size + 1 + 1 + 1 + 1, 0, none⟩ (.int .i64 ((pre.length : Int) + 1))
            refine ⟨hkf3.trans (hko.from _), hkw3.trans (keepsWalks_of hko), ⟨hT3.set (by omega) _, by simp; omega⟩, ?_, by rw [HB1.out]; exact ho3.other (by omega) _⟩
            have e : ((pre ++ [(⟨(a, r), ha, hr⟩ : Rn.Chr n)]).length : Int) = (pre.length : Int) + 1 := by simp
            rw [e]
            exact hn3.set _
        · have hh' : ((pre.length : Int) == (M : Int) / 2) = false := by simp; omega
          gi_wp2
          have hkf2 := hkf1.trans (KeepsOthers.setCell W1 ⟨w.heap.size + 1 + 1 + 1 + 1, 0, none⟩ (.int .i64 ((pre.length : Int) + 1)))
          refine ⟨hkf2.from _, keepsWalks_of hkf2, ⟨hT1.set (by omega) _, by simp; omega⟩, ?_, ho1.other (by omega) _⟩
          have e : ((pre ++ [(⟨(a, r), ha, hr⟩ : Rn.Chr n)]).length : Int) = (pre.length : Int) + 1 := by simp
          rw [e]
          exact hn1.set _
      | _ => exact h.elim
    · obtain he : pre.length = M := by omega
      rw [he] at hn cN
      have hge' : (M : Int) ≤ M := by omega
      gi_wp2
      exact ⟨KeepsFrom.refl _ _, ⟨hT, rfl⟩, hn, by rw [List.dropLast_concat]; exact ho⟩
  case done =>
    rintro D ys W hD rfl ⟨⟨hT, hle⟩, hn, ho⟩ hK
    have e : (Rn.chs f n hf).length = M := by have h1 := HL.out; have h2 := HC.out; rw [h2] at h1; omega
    rw [e] at hn
    rw [← HC.out, Rn.okp_self] at ho
    have cN := hn.cell
    have cM := hT.mos.cell
    have cO := ho.cell
    have hB := hT.below
    clear hT hn ho e
    gi_wp2
    refine ⟨by simp, .inl ⟨_, _, rfl, run_takeDeferred hK, ?_⟩⟩
    exact ⟨_, results_tmp rfl _ _ _, rfl, hB.trans (belowK_b (w := w) (Nat.le_refl _) W D _ _ (by omega) hK rfl rfl)⟩
  case stop =>
    rintro D c pre W hD hpre ⟨⟨hT, rfl⟩, hn, ho⟩ hK
    rw [Rn.okp_prefix ((List.dropLast_prefix pre).trans (by rw [HC.out]; exact hpre))] at ho
    have cN := hn.cell
    have cM := hT.mos.cell
    have cO := ho.cell
    have hB := hT.below
    clear hT hn ho
    gi_wp2
    refine ⟨by simp, .inl ⟨_, _, rfl, run_takeDeferred hK, ?_⟩⟩
    exact ⟨_, results_tmp rfl _ _ _, rfl, hB.trans (belowK_b (w := w) (Nat.le_refl _) W D _ _ (by omega) hK rfl rfl)⟩
end Go.Proofs.YtacmenmneilamaaDoor

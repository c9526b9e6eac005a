/-
  THE WALK over gimlettop.pieces: bytes cut somewhere, in order.
-/
import Derived.Test.YtcggkbgbfgkaiaaDoorWhBase
import Derived.Test.YtcggkbgbfgkaiaaDoorFdFeed
import Derived.Laws.OwnMore
import Derived.OwnWalk
import Derived.Maps.AppendAt
namespace Go.Proofs.YtcggkbgbfgkaiaaDoor
open Go.RowKit Go.Lib

/-- pieces of bytes that lie one behind the other, from s to t -/
inductive Pcs (W : World) (f : Nat → Nat) : List Value → Nat → Nat → Prop
  | nil (s : Nat) : Pcs W f [] s s
  | cons {s t q l cap : Nat} {vs : List Value} (hb : Bytes W q 0 l (Rn.off f s)) (hc : l ≤ cap) (hm : cap ≤ 9223372036854775807) (hq : ∃ c fr, W.heap[q]? = some (Obj.cells c 5 fr)) (h : Pcs W f vs (s + l) t) : Pcs W f (.slice (some ⟨q, 0, none⟩) l cap :: vs) s t
/-- a row of another type is nothing to them -/
theorem Pcs.keep {W W' : World} {f : Nat → Nat} {vs : List Value} {s t : Nat} {x : Option Nat} (h : Pcs W f vs s t) (hk : ∀ q, q < W.heap.size → some q ≠ x → W'.heap[q]? = W.heap[q]?) (hx : ∀ (q : Nat) (c : Array Value) (fr : Nat × Nat), W.heap[q]? = some (Obj.cells c 5 fr) → some q ≠ x) : Pcs W' f vs s t := by
  induction h with
  | nil s => exact .nil s
  | @cons s t q l cap vs h1 h2 h3 h4 _ ih =>
    obtain ⟨c, fr, hc⟩ := h4
    have hq := hk q (Array.getElem?_eq_some_iff.1 hc).1 (hx q c fr hc)
    exact .cons (fun j hj => (World.cell?_of_block (a := ⟨q, 0 + j, none⟩) hq).trans (h1 j hj)) h2 h3 ⟨c, fr, hq.trans hc⟩ ih
theorem Pcs.kept {W W' : World} {f : Nat → Nat} {vs : List Value} {s t : Nat} (h : Pcs W f vs s t) (hb : Below W.heap.size W W') : Pcs W' f vs s t :=
  h.keep (x := none) (fun q hq _ => hb.block q hq) (fun _ _ _ _ => by simp)
theorem Pcs.snoc {W : World} {f : Nat → Nat} {vs : List Value} {s t q l cap : Nat} (h : Pcs W f vs s t) (hb : Bytes W q 0 l (Rn.off f t)) (hc : l ≤ cap) (hm : cap ≤ 9223372036854775807) (hq : ∃ c fr, W.heap[q]? = some (Obj.cells c 5 fr)) : Pcs W f (vs ++ [.slice (some ⟨q, 0, none⟩) l cap]) s (t + l) := by
  induction h with
  | nil s => exact .cons hb hc hm hq (.nil _)
  | cons h1 h2 h3 h4 _ ih => exact .cons h1 h2 h3 h4 (ih hb)
/-- the block of a row of another type is none of theirs -/
theorem row_other {W : World} {B : Nat} {e : TypeId} {v : Value} {n : Nat} {ys : List Value} (h : W.ownsRow B e 1 v n ys) (he : e ≠ 5) : ∀ (q : Nat) (c : Array Value) (fr : Nat × Nat), W.heap[q]? = some (Obj.cells c 5 fr) → some q ≠ v.ownBlock := by
  intro q c fr hq e1
  rcases h.2 with ⟨rfl, _⟩ | ⟨g, cap, cur, rfl, _, hg, _⟩
  · cases e1
  · have : q = g := Option.some.inj e1
    subst this
    rw [hq] at hg
    cases hg
    exact he rfl
def Bools (ys : List Value) : Prop := ∀ (j : Nat) (y : Value), ys[j]? = some y → ∃ b, y = .bool b
theorem infoBool : (Tryd.prog.info? 4).map (fun i => (i.zero, i.size, i.bytes)) = some (some (.bool false), 1, 1) := by kernel_rfl
theorem infoSlice : (Tryd.prog.info? 22).map (fun i => (i.zero, i.size, i.bytes)) = some (some (.slice none 0 0), 1, 24) := by kernel_rfl
theorem made_bools (m : Nat) : Bools (madeCells (Value.bool false).cells (m * 1)).toList := by
  intro j y hy
  refine ⟨false, ?_⟩
  have := List.mem_of_getElem? hy
  simp [madeCells, Value.cells, Nat.mod_one] at this
  exact this.2.symm
theorem Bools.set {ys : List Value} (h : Bools ys) (k : Nat) (b : Bool) : Bools (ys.set k (.bool b)) := by
  intro j y hy
  rw [List.getElem?_set] at hy
  split at hy
  · split at hy
    · exact ⟨b, (Option.some.inj hy).symm⟩
    · cases hy
  · exact h j y hy
set_option maxRecDepth 100000 in
set_option maxHeartbeats 4000000 in
theorem topPieces_any (f : Nat → Nat) (pa : Option Addr) (n cap : Nat) (pc : Option Addr) (c capc : Nat) (g : Nat → Int) (w : World) (hc : n ≤ cap) (hm : cap ≤ 9223372036854775807) (hn : n ≤ 1048576) (hcc : c ≤ 1048576)
    (hpa : 0 < n → ∃ b o, pa = some ⟨b, o, none⟩ ∧ Bytes w b o n f ∧ b < w.heap.size) (hpc : 0 < c → ∃ b o, pc = some ⟨b, o, none⟩ ∧ b < w.heap.size ∧ ∀ j, j < c → w.cell? ⟨b, o + j, none⟩ = some (.int .i64 (g j))) :
    Calls Tryd.prog 13 #[.slice pa n cap, .slice pc c capc] w fun e w' => ∃ v vs, e = .returned v ∧ w'.ownsRow w.heap.size 22 1 v vs.length vs ∧ Pcs w' f vs 0 n ∧ Below w.heap.size w w' ∧ vs.length ≤ n := by
  obtain ⟨i0, hi, hz0, hz1, hz2⟩ := info_parts infoBool
  have HP := hide' (And.intro hpa hpc)
  clear hpa hpc
  obtain ⟨w1, hmk, hown1, hgrow1⟩ := run_make_full (P := Tryd.prog) w w.heap.size 68 4 i0 (.bool false) 1 Tryd.underlying68 hi hz0 hz1 .i64 .i64 (n + 1) (by rw [hz2]; omega) (by unfold maxLen; omega) (Nat.le_refl _)
  rw [show ((n + 1 : Nat) : Int) = (n : Int) + 1 by omega] at hmk
  have hB1 : Below w.heap.size w w1 := ⟨hgrow1.os, hgrow1.tape, hgrow1.output, hgrow1.size, fun k hk => hgrow1.block k hk (by simp)⟩
  have H1 := hide' (And.intro hown1 hB1)
  clear hown1 hgrow1 hB1
  go_enter Tryd.func13, Tryd.ntmps13
  go_wp2
  go_loopw [17] (fun i wr => ∃ (a : Nat) (ys : List Value), i = .int .i64 a ∧ a ≤ c ∧ wr.ownsRow w.heap.size 4 1 (.slice (some ⟨w.heap.size, 0, none⟩) (n + 1) (n + 1)) (n + 1) ys ∧ Bools ys ∧ Below w.heap.size w wr) (fun i _ => c - (RowKit.intOf i).toNat)
  case atStart => exact ⟨0, _, rfl, Nat.zero_le _, H1.out.1, made_bools _, H1.out.2⟩
  case round =>
    obtain ⟨a, ys, rfl, hac, hown, hbo, hB⟩ := hrel
    by_cases hlt : a < c
    · have g1 : (a : Int) < c := by omega
      obtain ⟨b, o, rfl, hbl, hg⟩ := HP.out.2 (by omega)
      have q1 := (hB.cell (p := ⟨b, o + a, none⟩) hbl).trans (hg a hlt)
      clear hg
      generalize g a = z at q1
      by_cases h1 : 0 < z
      · by_cases h2 : z < n
        · obtain ⟨k, rfl⟩ : ∃ k : Nat, z = k := ⟨z.toNat, by omega⟩
          have hk : k < n + 1 := by omega
          have hk2 : (k : Int) < (n : Int) + 1 := by omega
          have hca := hown.cellAt k (by omega)
          have hyl : ys.length = n + 1 := by have := hown.1; omega
          obtain ⟨y, hy⟩ : ∃ y, ys[k]? = some y := ⟨ys[k]'(by omega), List.getElem?_eq_getElem _⟩
          rw [hy] at hca
          have hfz := hown.frozenAt k
          have hst := hown.stored k (.bool true)
          have HS := hide' (And.intro hst (And.intro (hbo.set k true) (hB.setCell (p := ⟨w.heap.size, k, none⟩) (Nat.le_refl _) (.bool true))))
          clear hst hown hyl hy hbo hB
          go_wp2
          go_roundw
          case rel => exact ⟨a + 1, _, by go_num, by omega, HS.out.1.1, HS.out.2.1, HS.out.2.2⟩
          case measure => simp [RowKit.intOf]; omega
        · have HS := hide' (And.intro hown (And.intro hbo hB))
          clear hown hbo hB
          go_wp2
          go_roundw
          case rel => exact ⟨a + 1, _, by go_num, by omega, HS.out.1, HS.out.2.1, HS.out.2.2⟩
          case measure => simp [RowKit.intOf]; omega
      · have HS := hide' (And.intro hown (And.intro hbo hB))
        clear hown hbo hB
        go_wp2
        go_roundw
        case rel => exact ⟨a + 1, _, by go_num, by omega, HS.out.1, HS.out.2.1, HS.out.2.2⟩
        case measure => simp [RowKit.intOf]; omega
    · have g1 : ¬ (a : Int) < c := by omega
      have HS := hide' (And.intro hown (And.intro hbo hB))
      clear hown hbo hB H1
      obtain ⟨w2, hw2⟩ : ∃ w2, w2 = wr := ⟨_, rfl⟩
      subst hw2
      go_wp2
      go_loopw [8, 9, 10] (fun ov fv iv wr => ∃ (a fr : Nat) (vs ys : List Value), fv = .int .i64 fr ∧ iv = .int .i64 a ∧ 1 ≤ a ∧ a ≤ n + 1 ∧ fr < a ∧ (a = n + 1 → fr = n) ∧ vs.length ≤ fr ∧ wr.ownsRow w.heap.size 22 1 ov vs.length vs ∧ Pcs wr f vs 0 fr ∧ wr.ownsRow w.heap.size 4 1 (.slice (some ⟨w.heap.size, 0, none⟩) (n + 1) (n + 1)) (n + 1) ys ∧ Bools ys ∧ Below w.heap.size w wr) (fun _ _ iv _ => n + 1 - (RowKit.intOf iv).toNat)
      case atStart => exact ⟨1, 0, [], _, rfl, rfl, Nat.le_refl _, by omega, by omega, fun e => by omega, Nat.zero_le _, World.ownsRow_nil _ _ _ _, .nil 0, HS.out.1, HS.out.2.1, HS.out.2.2⟩
      case round =>
        obtain ⟨a, fr, vs, ys, rfl, rfl, ha1, han, hfa, hend, hvl, hov, hpc, his, hbo, hB⟩ := hrel
        by_cases hlt : a ≤ n
        · have g1 : (a : Int) ≤ (n : Int) := by omega
          obtain ⟨b, o, rfl, hby, hbl⟩ := HP.out.1 (by omega)
          by_cases heq : a = n
          · subst heq
            have g2 : ((a : Int) == (a : Int)) = true := by simp
            have hown0 := owns_empty wr
            have hcs : ∀ j u, (xs (Rn.off f fr) (a - fr))[j]? = some u → (wr.alloc (.cells #[] 5)).cell? ((⟨b, o + fr, none⟩ : Addr).add j) = some u := by
              intro j u hu
              obtain ⟨hj, rfl⟩ := xs_get _ _ _ _ hu
              rw [Addr.add_lit]
              have := (hby.below (hB.alloc hB.size (.cells #[] 5)) (Nat.le_refl _)) (fr + j) (by omega)
              rw [show o + (fr + j) = o + fr + j by omega] at this
              exact this
            obtain ⟨k0, hk, hv0, hv1, hv2⟩ := info_parts infoByte'
            obtain ⟨j0, hj, hw0, hw1, hw2⟩ := info_parts infoSlice
            have g4 : (fr : Int) ≤ (a : Int) := by omega
            have g5 : (a : Int) ≤ (cap : Int) := by omega
            have g6 : fr ≤ a := by omega
            have g7 : a ≤ cap := by omega
            have HX := hide' (And.intro hov (And.intro hpc (And.intro his (And.intro hbo hB))))
            clear hov hpc his hbo hB HS hby
            go_wp2_with (at_builtin; refine wpList_append_own_at _ rfl _ _ 22 rfl wr.heap.size 5 k0 (.int .u8 0) 1 1 Tryd.underlying22 hk hv0 hv1 hv2 rfl (by decide) (.slice (some ⟨wr.heap.size, 0, none⟩) 0 0) 0 [] rfl hown0 ⟨b, o + fr, none⟩ (a - fr) (cap - fr) (xs (Rn.off f fr) (a - fr)) rfl ?b0 hcs (one_cell _ _) ?b1 ?b2 ?b3 ?_)
            case b0 => first | exact xs_length _ _ | (rw [xs_length]; omega)
            case b1 => unfold maxLen; omega
            case b2 => omega
            case b3 => simp
            intro v1 wa hown1 hgrow1 _ _
            have hBa : Below wr.heap.size wr wa := ((Below.refl wr.heap.size wr).alloc (Nat.le_refl _) _).grown hgrow1 (by simp) (fun k hk => by simp [Value.ownBlock] at hk; omega)
            obtain ⟨q, cap1, cur, hv1', hq1, hq2, hq3, hq4, -⟩ : ∃ q cap1 cur, v1 = .slice (some ⟨q, 0, none⟩) (a - fr) cap1 ∧ wr.heap.size ≤ q ∧ wa.heap[q]? = some (.cells cur 5 (0, 0)) ∧ a - fr ≤ cap1 ∧ cap1 ≤ 9223372036854775807 ∧ True := by
              rcases hown1.2 with ⟨_, e2⟩ | ⟨q, cap1, cur, e1, e2, e3, e4, e5, _⟩
              · omega
              · exact ⟨q, cap1, cur, e1, e2, e3, e4, by unfold maxLen at e5; exact e5, trivial⟩
            subst hv1'
            have hbq : Bytes wa q 0 (a - fr) (Rn.off f fr) := fun j hj => by
              have := hown1.cells (g := q) rfl j _ (xs_at (Rn.off f fr) (a - fr) j hj)
              rw [Addr.add_lit] at this
              exact this
            obtain ⟨hov, hpc, his, hbo, hB⟩ := HX.out
            have hsa := hBa.size
            have hov1 := (Wh.keepBelow hov hBa).alloc (.cells #[.slice (some ⟨q, 0, none⟩) (a - fr) cap1] 22)
            have hpc1 := (hpc.kept hBa).snoc hbq hq3 hq4 ⟨cur, _, hq2⟩
            have his1 := (Wh.keepBelow his hBa).alloc (.cells #[.slice (some ⟨q, 0, none⟩) (a - fr) cap1] 22)
            have hal : Below wa.heap.size wa (wa.alloc (.cells #[.slice (some ⟨q, 0, none⟩) (a - fr) cap1] 22)) := (Below.refl _ _).alloc (Nat.le_refl _) _
            have hpc2 := hpc1.kept hal
            have hBb : Below w.heap.size w (wa.alloc (.cells #[.slice (some ⟨q, 0, none⟩) (a - fr) cap1] 22)) := (hB.trans (hBa.mono hB.size)).alloc (by have := hB.size; omega) _
            have hsb : w.heap.size ≤ (wa.alloc (.cells #[.slice (some ⟨q, 0, none⟩) (a - fr) cap1] 22)).heap.size := by have := hB.size; simp; omega
            have HY := hide' (And.intro hpc2 (And.intro his1 (And.intro hbo (And.intro hBb hov1))))
            clear hown0 hcs hown1 hgrow1 hBa hbq hov hpc his hbo hB HX hpc1 hpc2 his1 hal hBb hsa hq2
            go_wp2_with (at_builtin; refine wpList_append_own_at _ rfl _ _ 43 rfl w.heap.size 22 j0 (.slice none 0 0) 1 24 Tryd.underlying43 hj hw0 hw1 hw2 rfl (by decide) _ vs.length vs rfl hov1 ⟨wa.heap.size, 0, none⟩ 1 1 [.slice (some ⟨q, 0, none⟩) (a - fr) cap1] rfl rfl ?c0 ?c1 ?c2 ?c3 ?c4 ?_)
            case c0 => exact World.news_of_block (cs := #[.slice (some ⟨q, 0, none⟩) (a - fr) cap1]) (Wh.heap_new _ _)
            case c1 => intro u hu; simp at hu; subst hu; rfl
            case c2 => unfold maxLen; omega
            case c3 => omega
            case c4 => exact hsb
            intro v2 wc hown2 hgrow2 _ _
            obtain ⟨hpc2, his1, hbo, hBb, hov2⟩ := HY.out
            have hpc3 := hpc2.keep hgrow2.block (row_other hov2 (by decide))
            have his2 := his1.kept hgrow2 (Wh.rows_ne hov2 his1 (by decide))
            have hBc := hBb.grown hgrow2 hsb (fun k hk => (hov2.lt k hk).1)
            have HZ := hide' (And.intro hown2 (And.intro hpc3 (And.intro his2 (And.intro hbo hBc))))
            clear hov1 hown2 hgrow2 hpc2 his1 hbo hBb hov2 hpc3 his2 hBc HY hsb
            go_wp2
            go_roundw
            case rel =>
              refine ⟨a + 1, a, vs ++ [.slice (some ⟨q, 0, none⟩) (a - fr) cap1], ys, rfl, by go_num, by omega, by omega, by omega, fun e => by omega, by simp; omega, ?_, ?_, HZ.out.2.2.1, HZ.out.2.2.2.1, HZ.out.2.2.2.2⟩
              · rw [List.length_append]
                exact HZ.out.1
              · have := HZ.out.2.1
                rw [show fr + (a - fr) = a by omega] at this
                exact this
            case measure => first | (simp [RowKit.intOf]; done) | (simp [RowKit.intOf]; omega)
          · have hca := his.cellAt a (by omega)
            have hyl : ys.length = n + 1 := by have := his.1; omega
            obtain ⟨y, hy⟩ : ∃ y, ys[a]? = some y := ⟨ys[a]'(by omega), List.getElem?_eq_getElem _⟩
            obtain ⟨yb, rfl⟩ := hbo a y hy
            rw [hy] at hca
            have g2 : ((a : Int) == (n : Int)) = false := by simp; omega
            have g3 : (a : Int) < (n : Int) + 1 := by omega
            have g8 : a < n + 1 := by omega
            clear hy hyl
            cases yb
            · have HX := hide' (And.intro hov (And.intro hpc (And.intro his (And.intro hbo hB))))
              clear hov hpc his hbo hB HS hby
              go_wp2
              go_roundw
              case rel => exact ⟨a + 1, fr, vs, ys, rfl, by go_num, by omega, by omega, by omega, fun e => by omega, hvl, HX.out.1, HX.out.2.1, HX.out.2.2.1, HX.out.2.2.2.1, HX.out.2.2.2.2⟩
              case measure => simp [RowKit.intOf]; omega
            · have hown0 := owns_empty wr
              have hcs : ∀ j u, (xs (Rn.off f fr) (a - fr))[j]? = some u → (wr.alloc (.cells #[] 5)).cell? ((⟨b, o + fr, none⟩ : Addr).add j) = some u := by
                intro j u hu
                obtain ⟨hj, rfl⟩ := xs_get _ _ _ _ hu
                rw [Addr.add_lit]
                have := (hby.below (hB.alloc hB.size (.cells #[] 5)) (Nat.le_refl _)) (fr + j) (by omega)
                rw [show o + (fr + j) = o + fr + j by omega] at this
                exact this
              obtain ⟨k0, hk, hv0, hv1, hv2⟩ := info_parts infoByte'
              obtain ⟨j0, hj, hw0, hw1, hw2⟩ := info_parts infoSlice
              have g4 : (fr : Int) ≤ (a : Int) := by omega
              have g5 : (a : Int) ≤ (cap : Int) := by omega
              have g6 : fr ≤ a := by omega
              have g7 : a ≤ cap := by omega
              have HX := hide' (And.intro hov (And.intro hpc (And.intro his (And.intro hbo hB))))
              clear hov hpc his hbo hB HS hby
              go_wp2_with (at_builtin; refine wpList_append_own_at _ rfl _ _ 22 rfl wr.heap.size 5 k0 (.int .u8 0) 1 1 Tryd.underlying22 hk hv0 hv1 hv2 rfl (by decide) (.slice (some ⟨wr.heap.size, 0, none⟩) 0 0) 0 [] rfl hown0 ⟨b, o + fr, none⟩ (a - fr) (cap - fr) (xs (Rn.off f fr) (a - fr)) rfl ?b0 hcs (one_cell _ _) ?b1 ?b2 ?b3 ?_)
              case b0 => first | exact xs_length _ _ | (rw [xs_length]; omega)
              case b1 => unfold maxLen; omega
              case b2 => omega
              case b3 => simp
              intro v1 wa hown1 hgrow1 _ _
              have hBa : Below wr.heap.size wr wa := ((Below.refl wr.heap.size wr).alloc (Nat.le_refl _) _).grown hgrow1 (by simp) (fun k hk => by simp [Value.ownBlock] at hk; omega)
              obtain ⟨q, cap1, cur, hv1', hq1, hq2, hq3, hq4, -⟩ : ∃ q cap1 cur, v1 = .slice (some ⟨q, 0, none⟩) (a - fr) cap1 ∧ wr.heap.size ≤ q ∧ wa.heap[q]? = some (.cells cur 5 (0, 0)) ∧ a - fr ≤ cap1 ∧ cap1 ≤ 9223372036854775807 ∧ True := by
                rcases hown1.2 with ⟨_, e2⟩ | ⟨q, cap1, cur, e1, e2, e3, e4, e5, _⟩
                · omega
                · exact ⟨q, cap1, cur, e1, e2, e3, e4, by unfold maxLen at e5; exact e5, trivial⟩
              subst hv1'
              have hbq : Bytes wa q 0 (a - fr) (Rn.off f fr) := fun j hj => by
                have := hown1.cells (g := q) rfl j _ (xs_at (Rn.off f fr) (a - fr) j hj)
                rw [Addr.add_lit] at this
                exact this
              obtain ⟨hov, hpc, his, hbo, hB⟩ := HX.out
              have hsa := hBa.size
              have hov1 := (Wh.keepBelow hov hBa).alloc (.cells #[.slice (some ⟨q, 0, none⟩) (a - fr) cap1] 22)
              have hpc1 := (hpc.kept hBa).snoc hbq hq3 hq4 ⟨cur, _, hq2⟩
              have his1 := (Wh.keepBelow his hBa).alloc (.cells #[.slice (some ⟨q, 0, none⟩) (a - fr) cap1] 22)
              have hal : Below wa.heap.size wa (wa.alloc (.cells #[.slice (some ⟨q, 0, none⟩) (a - fr) cap1] 22)) := (Below.refl _ _).alloc (Nat.le_refl _) _
              have hpc2 := hpc1.kept hal
              have hBb : Below w.heap.size w (wa.alloc (.cells #[.slice (some ⟨q, 0, none⟩) (a - fr) cap1] 22)) := (hB.trans (hBa.mono hB.size)).alloc (by have := hB.size; omega) _
              have hsb : w.heap.size ≤ (wa.alloc (.cells #[.slice (some ⟨q, 0, none⟩) (a - fr) cap1] 22)).heap.size := by have := hB.size; simp; omega
              have HY := hide' (And.intro hpc2 (And.intro his1 (And.intro hbo (And.intro hBb hov1))))
              clear hown0 hcs hown1 hgrow1 hBa hbq hov hpc his hbo hB HX hpc1 hpc2 his1 hal hBb hsa hq2
              go_wp2_with (at_builtin; refine wpList_append_own_at _ rfl _ _ 43 rfl w.heap.size 22 j0 (.slice none 0 0) 1 24 Tryd.underlying43 hj hw0 hw1 hw2 rfl (by decide) _ vs.length vs rfl hov1 ⟨wa.heap.size, 0, none⟩ 1 1 [.slice (some ⟨q, 0, none⟩) (a - fr) cap1] rfl rfl ?c0 ?c1 ?c2 ?c3 ?c4 ?_)
              case c0 => exact World.news_of_block (cs := #[.slice (some ⟨q, 0, none⟩) (a - fr) cap1]) (Wh.heap_new _ _)
              case c1 => intro u hu; simp at hu; subst hu; rfl
              case c2 => unfold maxLen; omega
              case c3 => omega
              case c4 => exact hsb
              intro v2 wc hown2 hgrow2 _ _
              obtain ⟨hpc2, his1, hbo, hBb, hov2⟩ := HY.out
              have hpc3 := hpc2.keep hgrow2.block (row_other hov2 (by decide))
              have his2 := his1.kept hgrow2 (Wh.rows_ne hov2 his1 (by decide))
              have hBc := hBb.grown hgrow2 hsb (fun k hk => (hov2.lt k hk).1)
              have HZ := hide' (And.intro hown2 (And.intro hpc3 (And.intro his2 (And.intro hbo hBc))))
              clear hov1 hown2 hgrow2 hpc2 his1 hbo hBb hov2 hpc3 his2 hBc HY hsb
              go_wp2
              go_roundw
              case rel =>
                refine ⟨a + 1, a, vs ++ [.slice (some ⟨q, 0, none⟩) (a - fr) cap1], ys, rfl, by go_num, by omega, by omega, by omega, fun e => by omega, by simp; omega, ?_, ?_, HZ.out.2.2.1, HZ.out.2.2.2.1, HZ.out.2.2.2.2⟩
                · rw [List.length_append]
                  exact HZ.out.1
                · have := HZ.out.2.1
                  rw [show fr + (a - fr) = a by omega] at this
                  exact this
              case measure => first | (simp [RowKit.intOf]; done) | (simp [RowKit.intOf]; omega)
        · have g1 : ¬ (a : Int) ≤ (n : Int) := by omega
          obtain rfl : a = n + 1 := by omega
          obtain rfl : fr = n := hend rfl
          have HR := hide' (And.intro hov (And.intro hpc hB))
          clear hov hpc his hbo hB HS
          go_wp2
          go_ret
          exact ⟨_, rfl, vs, HR.out.1, HR.out.2.1, HR.out.2.2, hvl⟩
end Go.Proofs.YtcggkbgbfgkaiaaDoor

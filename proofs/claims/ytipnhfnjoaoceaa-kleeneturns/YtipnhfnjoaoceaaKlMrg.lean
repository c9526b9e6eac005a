/-
  WALKS over gimletlaw14.truths (a row of its own) and merged.
-/
import Derived.Test.YtipnhfnjoaoceaaKlEvM
import Derived.Test.YtipnhfnjoaoceaaKlGat
namespace Go.Proofs.Ytipnhfnjoaoceaa
open Go.RowKit Go.Lib Go.Sort
namespace Kl
def at1 (l : List Int) (i : Nat) : Int := (l[i]?).getD 1
/-- v's value where v knows it, w's else -/
def mrg (vs us : List Int) : List Int := (List.range (max vs.length us.length)).map fun i => if at1 vs i ≠ 1 then at1 vs i else at1 us i
theorem mrg_len (vs us : List Int) : (mrg vs us).length = max vs.length us.length := by simp [mrg]
theorem at1_mrg (vs us : List Int) (i : Nat) : at1 (mrg vs us) i = if at1 vs i ≠ 1 then at1 vs i else at1 us i := by
  by_cases h : i < max vs.length us.length
  · have : (mrg vs us)[i]? = some (if at1 vs i ≠ 1 then at1 vs i else at1 us i) := by unfold mrg; rw [List.getElem?_map, List.getElem?_range h]; rfl
    conv => lhs; unfold at1
    rw [this]
    rfl
  · have e0 : (mrg vs us)[i]? = none := List.getElem?_eq_none (by rw [mrg_len]; omega)
    have e1 : vs[i]? = none := List.getElem?_eq_none (by omega)
    have e2 : us[i]? = none := List.getElem?_eq_none (by omega)
    unfold at1
    rw [e0, e1, e2]
    simp
theorem valL_at {vs : List Int} {n : Int} (h : 0 ≤ n) : valL vs n = at1 vs n.toNat := by
  unfold valL at1
  by_cases c : n < vs.length
  · rw [if_pos c]
  · rw [if_neg c, List.getElem?_eq_none (by omega)]
    rfl
theorem list_at {L M : List Int} (hl : L.length = M.length) (h : ∀ j, j < L.length → at1 L j = at1 M j) : L = M := by
  apply List.ext_getElem hl
  intro i h1 h2
  have := h i h1
  unfold at1 at this
  rw [List.getElem?_eq_getElem h1, List.getElem?_eq_getElem h2] at this
  exact this
theorem at1_set {L : List Int} {i : Nat} (hi : i < L.length) (x : Int) (j : Nat) : at1 (L.set i x) j = if j = i then x else at1 L j := by
  unfold at1
  rw [List.getElem?_set]
  by_cases e : i = j
  · subst e; simp [hi]
  · rw [if_neg e, if_neg (Ne.symm e)]
theorem ic_set (L : List Int) (i : Nat) (x : Int) : ic (L.set i x) = (ic L).set i (.int .i64 x) := by simp [ic, List.map_set]
theorem ic_at {L : List Int} {i : Nat} (hi : i < L.length) : (ic L)[i]? = some (.int .i64 (at1 L i)) := by
  unfold ic at1
  rw [List.getElem?_map, List.getElem?_eq_getElem hi]
  rfl
/-- the form of a row of one's own -/
theorem owns_sl {w : World} {base : Nat} {e : TypeId} {v : Value} {n : Nat} {xs : List Value} (h : w.ownsRow base e 1 v n xs) : ∃ p c, v = .slice p n c ∧ n ≤ c ∧ c ≤ 9223372036854775807 := by
  rcases h.2 with ⟨rfl, rfl⟩ | ⟨g, cap, cur, h1, h2, h3, h4, h5, _⟩
  · exact ⟨none, 0, rfl, Nat.le_refl _, by omega⟩
  · exact ⟨_, cap, h1, h4, by unfold maxLen at h5; exact h5⟩
theorem owns_form {w : World} {base : Nat} {e : TypeId} {v : Value} {n : Nat} {xs : List Value} (h : w.ownsRow base e 1 v n xs) : (v = .slice none 0 0 ∧ n = 0) ∨ ∃ g cap, v = .slice (some ⟨g, 0, none⟩) n cap ∧ base ≤ g ∧ g < w.heap.size ∧ n ≤ cap ∧ cap ≤ 9223372036854775807 := by
  rcases h.2 with h0 | ⟨g, cap, cur, h1, h2, h3, h4, h5, _⟩
  · exact .inl h0
  · exact .inr ⟨g, cap, h1, h2, (Array.getElem?_eq_some_iff.1 h3).1, h4, by unfold maxLen at h5; exact h5⟩
def slen : Value → Nat
  | .slice _ n _ => n
  | _ => 0
end Kl
set_option maxRecDepth 100000 in
set_option maxHeartbeats 1000000 in
theorem lawTruthsO (v : Value) (l : List Int) (w : World) (h : Kl.TsN w v l) (hn : l.length ≤ 17592186044416) : Calls Try.prog 9 #[v] w fun r w' => ∃ v', r = .returned v' ∧ Hid (w'.ownsRow w.heap.size 23 1 v' l.length (Kl.ic l)) ∧ Hid (Below w.heap.size w w') := by
  obtain ⟨i0, hi, hz0, hz1, hz2⟩ := info_parts Kl.trInfo
  obtain ⟨⟨p, cap, rfl, h1, h2, h3⟩, h4⟩ := h
  obtain ⟨n, hnn⟩ : ∃ n, l.length = n := ⟨_, rfl⟩
  have HN := hide' hnn
  rw [hnn] at h1 h3 hn h4 ⊢
  clear hnn
  cases p with
  | none =>
    obtain rfl : cap = 0 := h4 n cap rfl
    obtain rfl : n = 0 := by omega
    obtain rfl : l = [] := List.eq_nil_of_length_eq_zero HN.out
    clear h3 h4
    go_enter Try.func9, Try.ntmps9
    go_wp2_with (at_builtin; refine wpList_append_own_none rfl _ _ 22 rfl w.heap.size 23 i0 1 Try.underlying22 hi _ 0 [] rfl (Kl.owns_none w _) rfl ?_)
    go_ret
    exact ⟨_, rfl, Kl.owns_none w _, (Below.refl _ _).alloc (Nat.le_refl _) _⟩
  | some ad =>
    have hcell : ∀ j u, (Kl.ic l)[j]? = some u → (w.alloc (.cells #[] 23)).cell? (ad.add j) = some u := fun j u hj => by
      have hjl : j < l.length := by have := (List.getElem?_eq_some_iff.1 hj).1; simpa [Kl.ic] using this
      obtain ⟨b, o, e, k⟩ := h3 (by rw [HN.out] at hjl; omega)
      cases e
      obtain ⟨x, hx⟩ := Kl.some_of hjl
      have hu : u = .int .i64 x := by unfold Kl.ic at hj; rw [List.getElem?_map, hx] at hj; simpa using hj.symm
      subst hu
      have q := k j x hx
      rw [Kl.addr_add]
      exact ((Below.refl _ _).alloc (Nat.le_refl _) _).cell (p := ⟨b, o + j, none⟩) (block_lt_of_cell q) |>.trans q
    have HC := hide' hcell
    have HL : Hid ((Kl.ic l).length = n * 1) := by show (Kl.ic l).length = _; unfold Kl.ic; rw [List.length_map, HN.out]; omega
    clear h3 h4 hcell
    go_enter Try.func9, Try.ntmps9
    go_wp2_with (at_builtin; refine wpList_append_own _ rfl _ _ 22 rfl w.heap.size 23 i0 (.int .i64 0) 1 8 Try.underlying22 hi hz0 hz1 hz2 rfl (by decide) _ 0 [] rfl (Kl.owns_none w _) ad n cap (Kl.ic l) rfl HL.out HC.out (Kl.ic_one l) ?c1 ?c2 ?c3 ?_)
    case c1 => unfold maxLen; omega
    case c2 => omega
    case c3 => simp
    intro v' w1 hown hgb _
    have HO : Hid (w1.ownsRow w.heap.size 23 1 v' n (Kl.ic l)) := by show w1.ownsRow _ _ _ _ _ _; simpa using hown
    have HB : Hid (Below w.heap.size w w1) := ((Below.refl w.heap.size w).alloc (Nat.le_refl _) _).grown hgb (by simp) (fun k hk => by cases hk; exact Nat.le_refl _)
    clear hown hgb
    go_wp2_with fail
    go_ret
    exact ⟨_, rfl, HO, HB⟩
set_option maxRecDepth 100000 in
set_option maxHeartbeats 4000000 in
theorem lawMerged (vv vw : Value) (vs us : List Int) (w : World) (hv : Kl.Ts w vv vs) (hw : Kl.TsN w vw us) (hn : vs.length ≤ 17592186044416) (hm : us.length ≤ 17592186044416) :
    Calls Try.prog 33 #[vv, vw] w fun r w' => ∃ v', r = .returned v' ∧ Hid (w'.ownsRow w.heap.size 23 1 v' (Kl.mrg vs us).length (Kl.ic (Kl.mrg vs us))) ∧ Hid (Below w.heap.size w w') := by
  obtain ⟨i0, hi, hz0, hz1, hz2⟩ := info_parts Kl.trInfo
  have CT := hide' (lawTruthsO vw us w hw hm)
  obtain ⟨pv, cv, rfl, v1, v2, v3⟩ := hv
  obtain ⟨⟨pw, cw, rfl, w1, w2, _⟩, _⟩ := hw
  obtain ⟨nv, hnv⟩ : ∃ n, vs.length = n := ⟨_, rfl⟩
  obtain ⟨nw, hnw⟩ : ∃ n, us.length = n := ⟨_, rfl⟩
  rw [hnv] at v1 v3 hn ⊢
  rw [hnw] at w1 hm CT ⊢
  have HNV := hide' hnv
  have HNW := hide' hnw
  have V3 := hide' v3
  have HML : Hid ((Kl.mrg vs us).length = max nv nw) := by show _ = _; rw [Kl.mrg_len, hnv, hnw]
  clear v3 hnv hnw
  go_enter Try.func33, Try.ntmps33
  go_wp2_with fail
  refine CT.out.mono ?_
  rintro r wa ⟨a, rfl, HO, HB⟩
  clear CT
  go_wp2_with fail
  go_loopw [5] (fun a wr => ∃ k : Nat, (k = 0 ∨ nw + k ≤ nv) ∧ Hid (wr.ownsRow w.heap.size 23 1 a (nw + k) (Kl.ic (us ++ List.replicate k 1))) ∧ Hid (Below w.heap.size w wr)) (fun a _ => nv - Kl.slen a)
  case atStart => exact ⟨0, .inl rfl, by show wa.ownsRow _ _ _ _ _ _; simpa using HO.out, HB⟩
  case round =>
    clear HO HB
    obtain ⟨k, hk, HO, HB⟩ := hrel
    obtain ⟨p, c, hf, f1, f2⟩ := Kl.owns_sl HO.out
    subst hf
    obtain ⟨m, hm'⟩ : ∃ m, nw + k = m := ⟨_, rfl⟩
    have hbs := HB.out.size
    by_cases hlt : m < nv
    · have t1 : (m : Int) < (nv : Int) := by omega
      have HM := hide' hm'
      rw [hm'] at HO f1 ⊢
      have hmb : m < 17592186044416 := by omega
      clear hm' hk
      go_wp2_with (at_builtin; refine wpList_append_own _ rfl _ _ 22 rfl w.heap.size 23 i0 (.int .i64 0) 1 8 Try.underlying22 hi hz0 hz1 hz2 rfl (by decide) _ _ _ rfl (HO.out.alloc _) ⟨wr.heap.size, 0, none⟩ 1 1 [.int .i64 1] rfl rfl ?d1 ?d2 ?d3 ?d4 ?d5 ?_)
      case d1 => exact Kl.new_one wr 1 _
      case d2 => intro u hu; simp at hu; subst hu; rfl
      case d3 => unfold maxLen; omega
      case d4 => omega
      case d5 => simp; omega
      intro v' w3 hown' hg3 _
      have HB3 : Hid (Below w.heap.size w w3) := (HB.out.alloc hbs (.cells #[.int .i64 1] 23)).grown hg3 (by simp; omega) (fun j hj => (HO.out.lt j hj).1)
      have HO3 : Hid (w3.ownsRow w.heap.size 23 1 v' (nw + (k + 1)) (Kl.ic (us ++ List.replicate (k + 1) 1))) := by
        have e1 : nw + (k + 1) = m + 1 := by have := HM.out; omega
        rw [e1, List.replicate_succ', ← List.append_assoc, Kl.ic_app]
        exact hown'
      obtain ⟨p3, c3, hf3, _⟩ := Kl.owns_sl HO3.out
      subst hf3
      clear hown' hg3 HO
      go_wp2_with fail
      go_roundw
      case rel => exact ⟨k + 1, .inr (by have := HM.out; omega), HO3, HB3⟩
      case measure => have := HM.out; simp [Kl.slen]; omega
    · have t1 : ¬ (m : Int) < (nv : Int) := by omega
      rw [hm'] at HO f1 ⊢
      have hmN : m = max nv nw := by rcases hk with h | h <;> omega
      have HL0 : Hid ((us ++ List.replicate k 1).length = m ∧ ∀ j, Kl.at1 (us ++ List.replicate k 1) j = Kl.at1 us j) := by
        refine ⟨by rw [List.length_append, List.length_replicate, HNW.out]; exact hm', fun j => ?_⟩
        unfold Kl.at1
        by_cases c : j < us.length
        · rw [List.getElem?_append_left c]
        · rw [List.getElem?_append_right (by omega), List.getElem?_eq_none (l := us) (by omega), List.getElem?_replicate]
          split <;> rfl
      have HMN := hide' hmN
      have HOF := hide' (Kl.owns_form HO.out)
      clear hm' hk hmN
      go_wp2_with fail
      go_loopw [20] (fun u wr => ∃ (i : Nat) (L : List Int), u = .int .i64 i ∧ i ≤ nv ∧ Hid (wr.ownsRow w.heap.size 23 1 (.slice p m c) m (Kl.ic L)) ∧ Hid (L.length = m ∧ ∀ j, Kl.at1 L j = if j < i ∧ Kl.at1 vs j ≠ 1 then Kl.at1 vs j else Kl.at1 us j) ∧ Hid (Below w.heap.size w wr)) (fun u _ => nv - (RowKit.intOf u).toNat)
      case atStart => exact ⟨0, _, rfl, Nat.zero_le _, HO, ⟨HL0.out.1, fun j => by rw [HL0.out.2 j]; simp⟩, HB⟩
      case round =>
        clear HO HL0 HB hbs
        obtain ⟨i, L, rfl, hi1, HO, HL, HB⟩ := hrel
        by_cases hli : i < nv
        · have t2 : (i : Int) < (nv : Int) := by omega
          have hmi : i < m := by have := HMN.out; omega
          have t3 : (i : Int) < (m : Int) := by omega
          obtain ⟨b, o, rfl, kx⟩ := V3.out (by omega)
          obtain ⟨x, hx⟩ := Kl.some_of (l := vs) (i := i) (by rw [HNV.out]; exact hli)
          have c0 := (HB.out.cell (p := ⟨b, o + i, none⟩) (block_lt_of_cell (kx i x hx))).trans (kx i x hx)
          have HAX : Hid (Kl.at1 vs i = x) := by show Kl.at1 vs i = x; unfold Kl.at1; rw [hx]; rfl
          obtain ⟨g, cap, e, hg1, _, _, _⟩ : ∃ g cap, Value.slice p m c = .slice (some ⟨g, 0, none⟩) m cap ∧ w.heap.size ≤ g ∧ True ∧ True ∧ True := by
            rcases HOF.out with ⟨_, h0⟩ | ⟨g, cap, e, h1, _⟩
            · omega
            · exact ⟨g, cap, e, h1, trivial, trivial, trivial⟩
          cases e
          clear kx hx
          by_cases hx1 : x = 1
          · subst hx1
            go_wp2_with fail
            go_roundw
            case rel => exact ⟨i + 1, L, by go_num, by omega, HO, ⟨HL.out.1, fun j => by
              rw [HL.out.2 j]
              by_cases e : j = i
              · subst e; rw [HAX.out]; simp
              · have : (j < i + 1) ↔ (j < i) := by omega
                simp only [this]⟩, HB⟩
            case measure => simp [RowKit.intOf]; omega
          · have hb1 : (x != 1) = true := by simpa using hx1
            have k0 : wr.cell? ⟨g, i, none⟩ = some (.int .i64 (Kl.at1 L i)) := by
              rw [HO.out.cellAt i (by omega)]
              exact Kl.ic_at (by rw [HL.out.1]; exact hmi)
            have k1 := HO.out.frozenAt i
            have HS := hide' (HO.out.stored i (.int .i64 x))
            have HX1 := hide' hx1
            clear hx1
            go_wp2_with fail
            go_roundw
            case rel => exact ⟨i + 1, L.set i x, by go_num, by omega, by rw [Kl.ic_set]; exact HS.out.1, ⟨by rw [List.length_set]; exact HL.out.1, fun j => by
              rw [Kl.at1_set (by rw [HL.out.1]; exact hmi), HL.out.2 j]
              by_cases e : j = i
              · subst e; rw [if_pos rfl, HAX.out, if_pos ⟨by omega, HX1.out⟩]
              · have : (j < i + 1) ↔ (j < i) := by omega
                rw [if_neg e]; simp only [this]⟩, HB.out.setCell (p := ⟨g, i, none⟩) hg1 _⟩
            case measure => simp [RowKit.intOf]; omega
        · have t2 : ¬ (i : Int) < (nv : Int) := by omega
          have hE : L = Kl.mrg vs us := Kl.list_at (by rw [HL.out.1, HML.out]; exact HMN.out) fun j hj => by
            rw [HL.out.2 j, Kl.at1_mrg]
            by_cases c : j < i
            · simp [c]
            · have : Kl.at1 vs j = 1 := by unfold Kl.at1; rw [List.getElem?_eq_none (by rw [HNV.out]; omega)]; rfl
              rw [this]; simp
          subst hE
          have HF : Hid (wr.ownsRow w.heap.size 23 1 (.slice p m c) (Kl.mrg vs us).length (Kl.ic (Kl.mrg vs us))) := by rw [HL.out.1]; exact HO
          clear HO HL
          go_wp2_with fail
          go_ret
          exact ⟨_, rfl, HF, HB⟩
end Go.Proofs.Ytipnhfnjoaoceaa

/-
  A slice of bytes that came in: what is known of it, its copy ('append([]byte{}, b...)'), its text.
-/
import Derived.Test.YtoccedbnnafjcaaDoorChBegins
import Derived.Laws.AppendOwnNone
import Derived.Laws.BytesArg
namespace Go.Proofs.YtoccedbnnafjcaaDoor
open Go.RowKit Go.Lib

/-- the bytes as cells -/
def bs (f : Nat → Nat) (n : Nat) : List Value := (List.range n).map fun j => .int .u8 (f j : Nat)
theorem bs_length (f : Nat → Nat) (n : Nat) : (bs f n).length = n := by simp [bs]
theorem bs_get {f : Nat → Nat} {n j : Nat} {u : Value} (h : (bs f n)[j]? = some u) : j < n ∧ u = .int .u8 (f j : Nat) := by
  have hj : j < n := by
    have := (List.getElem?_eq_some_iff.1 h).1
    rwa [bs_length] at this
  simp [bs, hj] at h
  exact ⟨hj, h.symm⟩
theorem bs_one (f : Nat → Nat) (n : Nat) : ∀ u ∈ bs f n, u.oneCell' = true := by
  intro u hu
  simp [bs] at hu
  obtain ⟨a, _, rfl⟩ := hu
  rfl
/-- a slice of bytes that came in -/
inductive ArgS (w : World) (f : Nat → Nat) (n : Nat) : Value → Prop
  | nil (hn : n = 0) : ArgS w f n (.slice none 0 0)
  | some (ad : Addr) (cap : Nat) (h1 : n ≤ cap) (h2 : cap ≤ maxLen) (hc : ∀ j, j < n → w.cell? (ad.add j) = .some (.int .u8 (f j : Nat))) (hp : 0 < n → ∃ b o, ad = ⟨b, o, none⟩) : ArgS w f n (.slice (.some ad) n cap)
theorem ArgS.below {w w' : World} {f : Nat → Nat} {n : Nat} {v : Value} (h : ArgS w f n v) {B : Nat} (hb : Below B w w') (hB : w.heap.size ≤ B) : ArgS w' f n v := by
  cases h with
  | nil hn => exact .nil hn
  | some ad cap h1 h2 hc hp => exact .some ad cap h1 h2 (fun j hj => (hb.cell (p := ad.add j) (Nat.lt_of_lt_of_le (block_lt_of_cell (hc j hj)) hB)).trans (hc j hj)) hp
/-- .. as the document's calls take it -/
theorem ArgS.span {w : World} {f : Nat → Nat} {n : Nat} {v : Value} (h : ArgS w f n v) : ∃ pa cap, v = .slice pa n cap ∧ n ≤ cap ∧ (n = 0 ∨ ∃ b o, pa = Option.some ⟨b, o, none⟩ ∧ Bytes w b o n f) := by
  cases h with
  | nil hn => subst hn; exact ⟨none, 0, rfl, Nat.le_refl _, .inl rfl⟩
  | some ad cap h1 h2 hc hp =>
    refine ⟨_, cap, rfl, h1, ?_⟩
    by_cases h0 : n = 0
    · exact .inl h0
    · obtain ⟨b, o, rfl⟩ := hp (by omega)
      exact .inr ⟨b, o, rfl, fun j hj => by have := hc j hj; rwa [show (Addr.add ⟨b, o, none⟩ j) = ⟨b, o + j, none⟩ from by simp [Addr.add]] at this⟩
/-- its text -/
theorem ArgS.text {w : World} {f : Nat → Nat} {n : Nat} {v : Value} (h : ArgS w f n v) (hf : ∀ j, f j < 256) : (convert 22 9 v).run Tryd.prog w = .ok (.string (Rn.arr f n)) w := by
  cases h with
  | nil hn =>
    subst hn
    rw [run_convert_bytes_nil (P := Tryd.prog) w 22 5 Tryd.underlying22 Tryd.underlying5 0 0 9 Tryd.underlying9]
    rfl
  | some ad cap h1 h2 hc hp =>
    have h := run_convert_bytes_back (P := Tryd.prog) w 22 9 5 ad cap (Rn.arr f n).data.toList Tryd.underlying22 Tryd.underlying5 Tryd.underlying9 (fun j hj => by
      have hj' : j < n := by simpa [Rn.arr] using hj
      rw [hc j hj']
      have e : ((Rn.arr f n).data.toList[j]).toNat = f j := by
        simp [Rn.arr]
        have := hf j
        omega
      rw [e])
    have e1 : (Rn.arr f n).data.toList.length = n := by simp [Rn.arr]
    rw [e1] at h
    simpa using h

theorem byteInfo : (Tryd.prog.info? 5).map (fun i => (i.zero, i.size, i.bytes)) = some (some (.int .u8 0), 1, 1) := by kernel_rfl
theorem owns_none (w : World) : (w.alloc (.cells #[] 5)).ownsRow w.heap.size 5 1 (.slice (some ⟨w.heap.size, 0, none⟩) 0 0) 0 [] :=
  ⟨rfl, .inr ⟨w.heap.size, 0, #[], rfl, Nat.le_refl _, (by show (w.heap.push _)[w.heap.size]? = _; simp), Nat.le_refl _, by decide, rfl, rfl⟩⟩
/-- append of a slice that came in to bytes of one's own -/
theorem append_argS {w : World} {ops : Array Oper} {rest : List Oper} {o : Oper} {a : Act} {Q : Exit → Act → World → Prop} (hgd : o.guard = none) (s x : Operand)
    (ho : o.op = .call { callee := .builtin .append, args := #[s, x], argTypes := #[22, 22] }) (base : Nat) (v vx : Value) (n m : Nat) (cells : List Value) (f : Nat → Nat) (hs : a.eval s = v) (hown : w.ownsRow base 5 1 v n cells)
    (hx : a.eval x = vx) (hA : ArgS w f m vx) (hb : n + m ≤ 140737488355328) (hbase : base ≤ w.heap.size)
    (h : ∀ v' w', w'.ownsRow base 5 1 v' (n + m) (cells ++ bs f m) → w.grownBy w' v.ownBlock → wpList Tryd.prog ops Q rest (a.put o.dst v') w') : wpList Tryd.prog ops Q (o :: rest) a w := by
  obtain ⟨i0, hi, hz0, hz1, hz2⟩ := info_parts byteInfo
  cases hA with
  | nil hn =>
    subst hn
    refine wpList_append_own_none hgd s x 22 ho base 5 i0 1 Tryd.underlying22 hi v n cells hs hown hx ?_
    exact h v w (by simpa [bs] using hown) ⟨rfl, rfl, rfl, Nat.le_refl _, fun _ _ _ => rfl⟩
  | some ad cap h1 h2 hc =>
    refine wpList_append_own w hgd s x 22 ho base 5 i0 (.int .u8 0) 1 1 Tryd.underlying22 hi hz0 hz1 hz2 rfl (by decide) v n cells hs hown ad m cap (bs f m) hx (by rw [bs_length]; omega) ?_ (bs_one f m) (by unfold maxLen; omega) (by omega) hbase (fun v' w' h3 h4 _ => h v' w' h3 h4)
    intro j u hu
    obtain ⟨hj, rfl⟩ := bs_get hu
    exact hc j hj
/-- bytes of one's own, as the program's calls take them -/
theorem slAt_own {w : World} {B n : Nat} {v : Value} {f : Nat → Nat} (h : w.ownsRow B 5 1 v n (bs f n)) : SlAt w v n f ∧ ArgS w f n v := by
  rcases h.2 with h0 | ⟨g, cap, cur, rfl, hg, hgg, hc1, hc2, hz, ht⟩
  · obtain ⟨rfl, e⟩ : n = 0 ∧ v = .slice none 0 0 := by
      first | exact h0 | exact ⟨h0.2, h0.1⟩
    subst e
    exact ⟨.inl ⟨rfl, rfl⟩, .nil rfl⟩
  · have hby : ∀ j, j < n → w.cell? ⟨g, 0 + j, none⟩ = some (.int .u8 (f j : Nat)) := by
      intro j hj
      have h3 := h.cells (g := g) rfl j (.int .u8 (f j : Nat)) (by simp [bs, hj])
      rwa [show (Addr.add ⟨g, 0, none⟩ j) = ⟨g, 0 + j, none⟩ from by simp [Addr.add]; omega] at h3
    exact ⟨.inr ⟨g, 0, cap, rfl, hc1, hc2, hby⟩, .some ⟨g, 0, none⟩ cap hc1 hc2 (fun j hj => by rw [show (Addr.add ⟨g, 0, none⟩ j) = ⟨g, 0 + j, none⟩ from by simp [Addr.add]; omega]; exact hby j hj) (fun _ => ⟨g, 0, rfl⟩)⟩
end Go.Proofs.YtoccedbnnafjcaaDoor

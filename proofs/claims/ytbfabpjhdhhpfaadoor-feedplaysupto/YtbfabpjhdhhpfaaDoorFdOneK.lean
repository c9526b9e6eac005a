import Derived.Test.YtbfabpjhdhhpfaaDoorFdMath
import Derived.Test.YtbfabpjhdhhpfaaDoorFdFeed
import Derived.Test.YtbfabpjhdhhpfaaDoorFdOneJ
/-
  A script of calls in memory.
-/
namespace Go.Proofs.YtbfabpjhdhhpfaaDoor
open Go.RowKit Go.Lib

/-- one call of a script: its kind, whose, the bytes -/
structure SOp where
  kind : Int
  oth : Bool
  po : Option Addr
  lo : Nat
  co : Nat
  f : Nat → Nat
instance : Inhabited SOp := ⟨⟨0, false, none, 0, 0, fun _ => 0⟩⟩
/-- its bytes lie in the world -/
structure SOp.Ok (W : World) (s : SOp) : Prop where
  byte : ∀ j, s.f j < 256
  nil : s.po = none → s.lo = 0 ∧ s.co = 0
  cap : s.lo ≤ s.co
  max : s.co ≤ 9223372036854775807
  at' : 0 < s.lo → ∃ b o, s.po = some ⟨b, o, none⟩ ∧ Bytes W b o s.lo s.f ∧ b < W.heap.size
/-- a script's cells -/
def SOps (W : World) (a : Option Addr) (n : Nat) (S : Nat → SOp) : Prop :=
  0 < n → ∃ b o, a = some ⟨b, o, none⟩ ∧ b < W.heap.size ∧ ∀ i, i < n → W.cell? ⟨b, o + i * 3, none⟩ = some (.int .i64 (S i).kind) ∧ W.cell? ⟨b, o + i * 3 + 1, none⟩ = some (.bool (S i).oth) ∧ W.cell? ⟨b, o + i * 3 + 2, none⟩ = some (.slice (S i).po (S i).lo (S i).co)
theorem SOp.Ok.below {W W' : World} {s : SOp} (h : s.Ok W) (hb : Below W.heap.size W W') : s.Ok W' :=
  ⟨h.byte, h.nil, h.cap, h.max, fun h0 => by
    obtain ⟨b, o, e, hby, hlt⟩ := h.at' h0
    exact ⟨b, o, e, hby.below hb (Nat.le_refl _), Nat.lt_of_lt_of_le hlt hb.size⟩⟩
end Go.Proofs.YtbfabpjhdhhpfaaDoor
/-
  gimletlaw04.one, whichever call it is; two Feeds and the document's two, apart from each other.
-/
namespace Go.Proofs.YtbfabpjhdhhpfaaDoor
open Go.RowKit Go.Lib

theorem one_any {W w : World} {D M : Nat} {v u : Value} {F : Nat → Nat} {N T : Nat} {E : Bool} (hb : Below W.heap.size W w) (h : Duo w D W.heap.size M W.heap.size v u F N T E) (hD : W.heap.size ≤ D) (hM : W.heap.size ≤ M)
    (hT : Lib.Utf8Tabs 0 1 W) (s : SOp) (hs : s.Ok W) (hlen : N + s.lo ≤ 1099511627776) :
    Calls Tryd.prog 9 #[.pointer (some ⟨D, 0, none⟩), .pointer (some ⟨M, 0, none⟩), .agg #[.int .i64 s.kind, .bool s.oth, .slice s.po s.lo s.co]] w (OneEnd D W.heap.size M W.heap.size v u N s.lo w) := by
  have hTw := tabs_below hT hb (Nat.le_refl _)
  have hsz := hb.size
  obtain ⟨kd, oth, po, lo, co, f⟩ := s
  have hlen' : N + lo ≤ 1099511627776 := hlen
  show Calls Tryd.prog 9 #[.pointer (some ⟨D, 0, none⟩), .pointer (some ⟨M, 0, none⟩), .agg #[.int .i64 kd, .bool oth, .slice po lo co]] w (OneEnd D W.heap.size M W.heap.size v u N lo w)
  have fin : ∀ (e : Ending) (w' : World), e = .returned (.bool true) ∧ Below w.heap.size w w' → OneEnd D W.heap.size M W.heap.size v u N lo w e w' := fun e w' ⟨he, hbe⟩ =>
    ⟨he, v, u, F, N, T, E, h.below hbe, Nat.le_add_right _ _, fun q hq => .inl hq, fun q hq => .inl hq, .of_below hbe⟩
  have fin2 : ∀ (T' : Nat) (E' : Bool) (e : Ending) (w' : World), DuoEnd D W.heap.size M W.heap.size v u F N T' E' w e w' → OneEnd D W.heap.size M W.heap.size v u N lo w e w' := fun T' E' e w' ⟨he, hd, hbe⟩ =>
    ⟨he, v, u, F, N, T', E', hd, Nat.le_add_right _ _, fun q hq => .inl hq, fun q hq => .inl hq, hbe⟩
  by_cases h1 : kd = 1
  · subst h1
    refine one_push h hTw oth po lo co f hs.byte hs.nil hs.cap hs.max (fun h0 => ?_) hlen' (tabs_low hT) hD hsz
    obtain ⟨b, o, e, hby, hlt⟩ := hs.at' h0
    have hlt' : b < W.heap.size := hlt
    exact ⟨b, o, e, hby.below hb (Nat.le_refl _), by omega, by omega, by omega, fun e => by have := (h.feed.row b e).1; omega, fun e => by have := (own_block_lt h.ref.2 e).2; omega⟩
  by_cases h2 : kd = 2
  · subst h2
    cases E with
    | true => exact (one_ended h oth po lo co).mono fin
    | false => exact (one_end h oth po lo co).mono (fin2 _ _)
  by_cases h3 : kd = 3
  · subst h3
    exact (one_peek h hTw oth po lo co).mono fin
  by_cases h4 : kd = 4
  · subst h4
    exact (one_next h hTw oth po lo co).mono (fin2 _ _)
  by_cases h5 : kd = 5
  · subst h5
    exact (one_rest h oth po lo co).mono fin
  by_cases h6 : kd = 6
  · subst h6
    exact (one_place h oth po lo co).mono fin
  exact (one_none D M w kd (by omega) oth po lo co).mono fin

/-- the blocks of a Feed and the document's -/
def Mine (D M : Nat) (v u : Value) (q : Nat) : Prop := q = D ∨ q = M ∨ v.ownBlock = some q ∨ u.ownBlock = some q
theorem Duo.mine_lt {w : World} {D B M C : Nat} {v u : Value} {F : Nat → Nat} {N T : Nat} {E : Bool} (h : Duo w D B M C v u F N T E) {q : Nat} (hq : Mine D M v u q) : q < w.heap.size := by
  rcases hq with rfl | rfl | e | e
  · exact h.feed.lt
  · exact h.ref.lt
  · exact (h.feed.row q e).2
  · exact (own_block_lt h.ref.2 e).1
theorem Duo.keep {w w' : World} {D B M C : Nat} {v u : Value} {F : Nat → Nat} {N T : Nat} {E : Bool} (h : Duo w D B M C v u F N T E) (hk : ∀ q, Mine D M v u q → w'.heap[q]? = w.heap[q]?) : Duo w' D B M C v u F N T E :=
  ⟨h.feed.keep (hk D (.inl rfl)) (fun q hq => hk q (.inr (.inr (.inl hq)))), h.ref.keep (hk M (.inr (.inl rfl))) (fun q hq => hk q (.inr (.inr (.inr hq)))), h.byte, h.run, h.cr, h.ne, h.vM, h.uD, h.vu, h.big⟩
/-- two Feeds and the document's two; at most k times 2^20 bytes came -/
def Two (X D M D' M' k : Nat) (w : World) : Prop :=
  ∃ v u F N T E v' u' F' N' T' E', Duo w D X M X v u F N T E ∧ Duo w D' X M' X v' u' F' N' T' E' ∧ N ≤ k * 1048576 ∧ N' ≤ k * 1048576 ∧ ∀ q, Mine D M v u q → ¬ Mine D' M' v' u' q
theorem Two.swap {X D M D' M' k : Nat} {w : World} (h : Two X D M D' M' k w) : Two X D' M' D M k w := by
  obtain ⟨v, u, F, N, T, E, v', u', F', N', T', E', h1, h2, h3, h4, h5⟩ := h
  exact ⟨v', u', F', N', T', E', v, u, F, N, T, E, h2, h1, h4, h3, fun q a b => h5 q b a⟩
theorem Two.below {X D M D' M' k : Nat} {w w' : World} (h : Two X D M D' M' k w) (hb : Below w.heap.size w w') : Two X D M D' M' k w' := by
  obtain ⟨v, u, F, N, T, E, v', u', F', N', T', E', h1, h2, h3, h4, h5⟩ := h
  exact ⟨v, u, F, N, T, E, v', u', F', N', T', E', h1.below hb, h2.below hb, h3, h4, h5⟩
/-- one call of the first -/
theorem Two.one {W w0 w : World} {D M D' M' k : Nat} (h0 : Two W.heap.size D M D' M' k w0) (hb0 : Below w0.heap.size w0 w) (hb : Below W.heap.size W w) (hD : W.heap.size ≤ D) (hM : W.heap.size ≤ M) (hk : k < 1048576)
    (hT : Lib.Utf8Tabs 0 1 W) (s : SOp) (hs : s.Ok W) (hlo : s.lo ≤ 1048576) :
    Calls Tryd.prog 9 #[.pointer (some ⟨D, 0, none⟩), .pointer (some ⟨M, 0, none⟩), .agg #[.int .i64 s.kind, .bool s.oth, .slice s.po s.lo s.co]] w fun e w' => e = .returned (.bool true) ∧ Two W.heap.size D M D' M' (k + 1) w' ∧ Below W.heap.size W w' ∧ ∀ q, w0.heap.size ≤ q → q < w.heap.size → w'.heap[q]? = w.heap[q]? := by
  obtain ⟨v, u, F, N, T, E, v', u', F', N', T', E', g1, g2, h3, h4, h5⟩ := h0
  have h1 := g1.below hb0
  have h2 := g2.below hb0
  refine (one_any hb h1 hD hM hT s hs (by omega)).mono ?_
  rintro e w' ⟨rfl, v2, u2, F2, N2, T2, E2, hd, hN, hv, hu, hbu⟩
  have hsz := hb.size
  have hN2 : N2 ≤ (k + 1) * 1048576 := by
    rw [Nat.add_mul, Nat.one_mul]
    exact Nat.le_trans hN (Nat.add_le_add h3 hlo)
  have hN3 : N' ≤ (k + 1) * 1048576 := by
    rw [Nat.add_mul, Nat.one_mul]
    exact Nat.le_trans h4 (Nat.le_add_right _ _)
  have hnew : ∀ q, Mine D M v2 u2 q → Mine D M v u q ∨ w.heap.size ≤ q := fun q hq => by
    rcases hq with rfl | rfl | e | e
    · exact .inl (.inl rfl)
    · exact .inl (.inr (.inl rfl))
    · exact (hv q e).imp (fun e => .inr (.inr (.inl e))) id
    · exact (hu q e).imp (fun e => .inr (.inr (.inr e))) id
  refine ⟨rfl, ⟨v2, u2, F2, N2, T2, E2, v', u', F', N', T', E', hd, h2.keep (fun q hq => ?_), hN2, hN3, fun q a b => ?_⟩, ⟨hbu.os.trans hb.os, hbu.tape.trans hb.tape, hbu.output.trans hb.output, Nat.le_trans hsz hbu.size, fun q hq => ?_⟩, fun q hq1 hq2 => ?_⟩
  · have hn : ¬ Mine D M v u q := fun a => h5 q a hq
    exact hbu.block q (h2.mine_lt hq) (fun e => hn (.inl e)) (fun e => hn (.inr (.inl e))) (fun e => hn (.inr (.inr (.inl e)))) (fun e => hn (.inr (.inr (.inr e))))
  · rcases hnew q a with c | c
    · exact h5 q c b
    · have := h2.mine_lt b
      omega
  · refine (hbu.block q (by omega) (by omega) (by omega) (fun e => ?_) (fun e => ?_)).trans (hb.block q hq)
    · have := (h1.feed.row q e).1
      omega
    · have := (own_block_lt h1.ref.2 e).2
      omega
  · have hn : ¬ Mine D M v u q := fun a => by have := g1.mine_lt a; omega
    exact hbu.block q hq2 (fun e => hn (.inl e)) (fun e => hn (.inr (.inl e))) (fun e => hn (.inr (.inr (.inl e)))) (fun e => hn (.inr (.inr (.inr e))))
end Go.Proofs.YtbfabpjhdhhpfaaDoor

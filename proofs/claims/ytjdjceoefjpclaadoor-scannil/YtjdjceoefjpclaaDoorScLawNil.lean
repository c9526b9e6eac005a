import Derived.Test.YtjdjceoefjpclaaDoorChBegins
import Derived.Laws.AppendOwnNone
import Derived.Laws.BytesArg
import Derived.Test.YtjdjceoefjpclaaDoorScAwake
/-
  A slice of bytes that came in: what is known of it, its copy ('append([]byte{}, b...)'), its text.
-/
namespace Go.Proofs.YtjdjceoefjpclaaDoor
open Go.RowKit Go.Lib

/-- the bytes as cells -/
def bs (f : Nat → Nat) (n : Nat) : List Value := (List.range n).map fun j => .int .u8 (f j : Nat)
theorem bs_length (f : Nat → Nat) (n : Nat) : (bs f n).length = n := by simp [bs]
theorem bs_get {f : Nat → Nat} {n j : Nat} {u : Value} (h : (bs f n)[j]? = some u) : j < n ∧ u = .int .u8 (f j : Nat) := by
  have hj : j < n := by
    have := (List.getElem?_eq_some_iff.1 h).1
    rwa [bs_length] at this
  simp [bs, hj] at h
  exact ⟨hj, h.symm⟩
theorem bs_one (f : Nat → Nat) (n : Nat) : ∀ u ∈ bs f n, u.oneCell' = true := by
  intro u hu
  simp [bs] at hu
  obtain ⟨a, _, rfl⟩ := hu
  rfl
/-- a slice of bytes that came in -/
inductive ArgS (w : World) (f : Nat → Nat) (n : Nat) : Value → Prop
  | nil (hn : n = 0) : ArgS w f n (.slice none 0 0)
  | some (ad : Addr) (cap : Nat) (h1 : n ≤ cap) (h2 : cap ≤ maxLen) (hc : ∀ j, j < n → w.cell? (ad.add j) = .some (.int .u8 (f j : Nat))) (hp : 0 < n → ∃ b o, ad = ⟨b, o, none⟩) : ArgS w f n (.slice (.some ad) n cap)
theorem ArgS.below {w w' : World} {f : Nat → Nat} {n : Nat} {v : Value} (h : ArgS w f n v) {B : Nat} (hb : Below B w w') (hB : w.heap.size ≤ B) : ArgS w' f n v := by
  cases h with
  | nil hn => exact .nil hn
  | some ad cap h1 h2 hc hp => exact .some ad cap h1 h2 (fun j hj => (hb.cell (p := ad.add j) (Nat.lt_of_lt_of_le (block_lt_of_cell (hc j hj)) hB)).trans (hc j hj)) hp
/-- .. as the document's calls take it -/
theorem ArgS.span {w : World} {f : Nat → Nat} {n : Nat} {v : Value} (h : ArgS w f n v) : ∃ pa cap, v = .slice pa n cap ∧ n ≤ cap ∧ (n = 0 ∨ ∃ b o, pa = Option.some ⟨b, o, none⟩ ∧ Bytes w b o n f) := by
  cases h with
  | nil hn => subst hn; exact ⟨none, 0, rfl, Nat.le_refl _, .inl rfl⟩
  | some ad cap h1 h2 hc hp =>
    refine ⟨_, cap, rfl, h1, ?_⟩
    by_cases h0 : n = 0
    · exact .inl h0
    · obtain ⟨b, o, rfl⟩ := hp (by omega)
      exact .inr ⟨b, o, rfl, fun j hj => by have := hc j hj; rwa [show (Addr.add ⟨b, o, none⟩ j) = ⟨b, o + j, none⟩ from by simp [Addr.add]] at this⟩
/-- its text -/
theorem ArgS.text {w : World} {f : Nat → Nat} {n : Nat} {v : Value} (h : ArgS w f n v) (hf : ∀ j, f j < 256) : (convert 22 9 v).run Tryd.prog w = .ok (.string (Rn.arr f n)) w := by
  cases h with
  | nil hn =>
    subst hn
    rw [run_convert_bytes_nil (P := Tryd.prog) w 22 5 Tryd.underlying22 Tryd.underlying5 0 0 9 Tryd.underlying9]
    rfl
  | some ad cap h1 h2 hc hp =>
    have h := run_convert_bytes_back (P := Tryd.prog) w 22 9 5 ad cap (Rn.arr f n).data.toList Tryd.underlying22 Tryd.underlying5 Tryd.underlying9 (fun j hj => by
      have hj' : j < n := by simpa [Rn.arr] using hj
      rw [hc j hj']
      have e : ((Rn.arr f n).data.toList[j]).toNat = f j := by
        simp [Rn.arr]
        have := hf j
        omega
      rw [e])
    have e1 : (Rn.arr f n).data.toList.length = n := by simp [Rn.arr]
    rw [e1] at h
    simpa using h

theorem byteInfo : (Tryd.prog.info? 5).map (fun i => (i.zero, i.size, i.bytes)) = some (some (.int .u8 0), 1, 1) := by kernel_rfl
theorem owns_none (w : World) : (w.alloc (.cells #[] 5)).ownsRow w.heap.size 5 1 (.slice (some ⟨w.heap.size, 0, none⟩) 0 0) 0 [] :=
  ⟨rfl, .inr ⟨w.heap.size, 0, #[], rfl, Nat.le_refl _, (by show (w.heap.push _)[w.heap.size]? = _; simp), Nat.le_refl _, by decide, rfl, rfl⟩⟩
/-- append of a slice that came in to bytes of one's own -/
theorem append_argS {w : World} {ops : Array Oper} {rest : List Oper} {o : Oper} {a : Act} {Q : Exit → Act → World → Prop} (hgd : o.guard = none) (s x : Operand)
    (ho : o.op = .call { callee := .builtin .append, args := #[s, x], argTypes := #[22, 22] }) (base : Nat) (v vx : Value) (n m : Nat) (cells : List Value) (f : Nat → Nat) (hs : a.eval s = v) (hown : w.ownsRow base 5 1 v n cells)
    (hx : a.eval x = vx) (hA : ArgS w f m vx) (hb : n + m ≤ 140737488355328) (hbase : base ≤ w.heap.size)
    (h : ∀ v' w', w'.ownsRow base 5 1 v' (n + m) (cells ++ bs f m) → w.grownBy w' v.ownBlock → wpList Tryd.prog ops Q rest (a.put o.dst v') w') : wpList Tryd.prog ops Q (o :: rest) a w := by
  obtain ⟨i0, hi, hz0, hz1, hz2⟩ := info_parts byteInfo
  cases hA with
  | nil hn =>
    subst hn
    refine wpList_append_own_none hgd s x 22 ho base 5 i0 1 Tryd.underlying22 hi v n cells hs hown hx ?_
    exact h v w (by simpa [bs] using hown) ⟨rfl, rfl, rfl, Nat.le_refl _, fun _ _ _ => rfl⟩
  | some ad cap h1 h2 hc =>
    refine wpList_append_own w hgd s x 22 ho base 5 i0 (.int .u8 0) 1 1 Tryd.underlying22 hi hz0 hz1 hz2 rfl (by decide) v n cells hs hown ad m cap (bs f m) hx (by rw [bs_length]; omega) ?_ (bs_one f m) (by unfold maxLen; omega) (by omega) hbase (fun v' w' h3 h4 _ => h v' w' h3 h4)
    intro j u hu
    obtain ⟨hj, rfl⟩ := bs_get hu
    exact hc j hj
/-- bytes of one's own, as the program's calls take them -/
theorem slAt_own {w : World} {B n : Nat} {v : Value} {f : Nat → Nat} (h : w.ownsRow B 5 1 v n (bs f n)) : SlAt w v n f ∧ ArgS w f n v := by
  rcases h.2 with h0 | ⟨g, cap, cur, rfl, hg, hgg, hc1, hc2, hz, ht⟩
  · obtain ⟨rfl, e⟩ : n = 0 ∧ v = .slice none 0 0 := by
      first | exact h0 | exact ⟨h0.2, h0.1⟩
    subst e
    exact ⟨.inl ⟨rfl, rfl⟩, .nil rfl⟩
  · have hby : ∀ j, j < n → w.cell? ⟨g, 0 + j, none⟩ = some (.int .u8 (f j : Nat)) := by
      intro j hj
      have h3 := h.cells (g := g) rfl j (.int .u8 (f j : Nat)) (by simp [bs, hj])
      rwa [show (Addr.add ⟨g, 0, none⟩ j) = ⟨g, 0 + j, none⟩ from by simp [Addr.add]; omega] at h3
    exact ⟨.inr ⟨g, 0, cap, rfl, hc1, hc2, hby⟩, .some ⟨g, 0, none⟩ cap hc1 hc2 (fun j hj => by rw [show (Addr.add ⟨g, 0, none⟩ j) = ⟨g, 0 + j, none⟩ from by simp [Addr.add]; omega]; exact hby j hj) (fun _ => ⟨g, 0, rfl⟩)⟩
end Go.Proofs.YtjdjceoefjpclaaDoor
/-
  WALKS over a nil scanner's calls, and over alike of two empty tokens.
-/
namespace Go.Proofs.YtjdjceoefjpclaaDoor
open Go.RowKit Go.Lib
namespace Sc
set_option maxRecDepth 4000 in
set_option maxHeartbeats 1000000 in
theorem next_nil (iv : Int) (s : ByteArray) (w : World) :
    Calls Tryd.prog 17 #[.pointer none, .int .i64 iv, .string s] w fun e w' => e = .returned (.tuple #[.agg tok0, .agg place0, .int .i64 0]) ∧ Below w.heap.size w w' := by
  unfold tok0 place0
  go_enter Tryd.func17, Tryd.ntmps17
  go_wp2
  refine bodyPost_ret (v := .tuple #[.agg #[.int .i64 0, .string ⟨#[]⟩, .slice none 0 0, .string ⟨#[]⟩, .int .i64 0, .int .i64 0, .int .i64 0, .int .i64 0, .int .i64 0, .int .i64 0, .int .i64 0, .int .i64 0], .agg #[.int .i64 0, .int .i64 0, .int .i64 0, .int .i64 0], .int .i64 0]) (by simp [results, Tryd.results17, go_sem]) rfl ⟨rfl, ?_⟩
  exact ((Below.refl _ _).alloc (Nat.le_refl _) _).alloc (by simp) _
set_option maxHeartbeats 400000 in
theorem push_nil (v : Value) (w : World) : Calls Tryd.prog 11 #[.pointer none, v] w fun e w' => e = .returned (.int .i64 1) ∧ w' = w := by
  go_enter Tryd.func11, Tryd.ntmps11
  go_wp2
  go_ret
  exact ⟨rfl, rfl⟩
set_option maxHeartbeats 400000 in
theorem end_nil (w : World) : Calls Tryd.prog 13 #[.pointer none] w fun e w' => e = .returned (.int .i64 1) ∧ w' = w := by
  go_enter Tryd.func13, Tryd.ntmps13
  go_wp2
  go_ret
  exact ⟨rfl, rfl⟩
set_option maxRecDepth 10000 in
set_option maxHeartbeats 1000000 in
theorem alike_zero (w : World) : Calls Tryd.prog 14 #[.agg tok0, .agg tok0] w fun e w' => e = .returned (.bool true) ∧ Below w.heap.size w w' := by
  unfold tok0
  go_enter Tryd.func14, Tryd.ntmps14
  go_wp2
  go_loopw [5] (fun i wr => i = .int .i64 0 ∧ Hid (Below w.heap.size w wr) ∧ wr.cell? ⟨w.heap.size, 2, none⟩ = some (.slice none 0 0)) (fun _ _ => 0)
  case atStart => exact ⟨rfl, ((Below.refl _ _).alloc (Nat.le_refl _) _).alloc (by simp) _, by go_simp⟩
  case round =>
    obtain ⟨rfl, hb, hc⟩ := hrel
    go_wp2
    go_ret
    exact ⟨rfl, hb.out⟩
end Sc
end Go.Proofs.YtjdjceoefjpclaaDoor
/-
  THE WALK over gimletlaw06.ScanNil.
-/
namespace Go.Proofs.YtjdjceoefjpclaaDoor
open Go.RowKit Go.Lib
namespace Sc
set_option maxRecDepth 10000 in
set_option maxHeartbeats 4000000 in
theorem lawNil_any (iv : Int) (s : ByteArray) (v : Value) (f : Nat → Nat) (n : Nat) (w : World) (hS : Spans w) (hU : Lib.Utf8Tabs 2 3 w) (hA : ArgS w f n v) (hn : n ≤ 140737488355328) :
    Calls Tryd.prog 7 #[.int .i64 iv, .string s, v] w fun e w' => e = .returned (.bool true) ∧ Below w.heap.size w w' := by
  have cA := awake_any w hS hU
  have cN := fun W => next_nil iv s W
  have cL := fun W => alike_zero W
  have cP := fun x W => push_nil x W
  have cE := fun W => end_nil W
  unfold tok0 at cN cL
  unfold place0 at cN
  obtain ⟨pa, cap, ev, _⟩ := hA.span
  have CA := hide' cA
  have CN := hide' cN
  have CL := hide' cL
  have CP := hide' cP
  have CE := hide' cE
  have HA := hide' hA
  have HN := hide' hn
  clear hS hU cA cN cL cP cE hA hn
  subst ev
  go_enter Tryd.func7, Tryd.ntmps7
  go_wp2_with fail
  refine CA.out.mono ?_
  rintro e w1 ⟨rfl, hb1⟩
  have HB1 := hide' hb1
  clear hb1 CA
  go_wp2_with fail
  refine (CN.out _).mono ?_
  rintro e w2 ⟨rfl, hb2⟩
  have HB2 : Hid (Below w.heap.size w w2) := HB1.out.trans (hb2.mono HB1.out.size)
  clear hb2 CN HB1
  have hbc : Below w2.heap.size w2 (((w2.alloc (.cells tok0 43)).alloc (.cells place0 32)).alloc (.cells #[] 5)) := (((Below.refl _ _).alloc (Nat.le_refl _) _).alloc (by simp) _).alloc (by simp; omega) _
  have hA2 := (HA.out.below HB2.out (Nat.le_refl _)).below hbc (Nat.le_refl _)
  have hsz : ((w2.alloc (.cells tok0 43)).alloc (.cells place0 32)).heap.size = w2.heap.size + 1 + 1 := by simp
  have hO := owns_none ((w2.alloc (.cells tok0 43)).alloc (.cells place0 32))
  rw [hsz] at hO
  have h6 : (((w2.alloc (.cells tok0 43)).alloc (.cells place0 32)).alloc (.cells #[] 5)).heap[w2.heap.size]? = some (.cells tok0 43 (0, 0)) :=
    (((Below.refl _ _).alloc (Nat.le_refl _) (.cells #[] 5)).block w2.heap.size (by simp; omega)).trans ((((Below.refl _ _).alloc (Nat.le_refl _) _).block w2.heap.size (by simp)).trans (heap_alloc_new w2 _))
  have h7 : (((w2.alloc (.cells tok0 43)).alloc (.cells place0 32)).alloc (.cells #[] 5)).heap[w2.heap.size + 1]? = some (.cells place0 32 (0, 0)) := by
    have e1 := heap_alloc_new (w2.alloc (.cells tok0 43)) (.cells place0 32)
    rw [show (w2.alloc (.cells tok0 43)).heap.size = w2.heap.size + 1 by simp] at e1
    exact (((Below.refl _ _).alloc (Nat.le_refl _) (.cells #[] 5)).block (w2.heap.size + 1) (by simp)).trans e1
  have HA2 := hide' hA2
  have HO := hide' hO
  have H6 := hide' h6
  have H7 := hide' h7
  have HBC := hide' hbc
  clear hbc hA2 hsz hO h6 h7
  go_wp2_with (at_builtin; refine append_argS rfl (.tmp 22) (.tmp 23) rfl (w2.heap.size + 1 + 1) (.slice (some ⟨w2.heap.size + 1 + 1, 0, none⟩) 0 0) (.slice pa n cap) 0 n [] f rfl HO.out rfl HA2.out (by have := HN.out; omega) (by simp) ?_)
  intro v4 w4 hown hgrow
  have g6 := (hgrow.block w2.heap.size (by simp; omega) (by simp [Value.ownBlock]; omega)).trans H6.out
  have g7 := (hgrow.block (w2.heap.size + 1) (by simp) (by simp [Value.ownBlock])).trans H7.out
  have d0 : w4.cell? ⟨w2.heap.size, 0, none⟩ = some (.int .i64 0) := by rw [Lib.cell_of_heap g6]; rfl
  have d1 : w4.cell? ⟨w2.heap.size, 1, none⟩ = some (.string ⟨#[]⟩) := by rw [Lib.cell_of_heap g6]; rfl
  have d2 : w4.cell? ⟨w2.heap.size, 2, none⟩ = some (.slice none 0 0) := by rw [Lib.cell_of_heap g6]; rfl
  have d3 : w4.cell? ⟨w2.heap.size, 3, none⟩ = some (.string ⟨#[]⟩) := by rw [Lib.cell_of_heap g6]; rfl
  have d4 : w4.cell? ⟨w2.heap.size, 4, none⟩ = some (.int .i64 0) := by rw [Lib.cell_of_heap g6]; rfl
  have d5 : w4.cell? ⟨w2.heap.size, 5, none⟩ = some (.int .i64 0) := by rw [Lib.cell_of_heap g6]; rfl
  have d6 : w4.cell? ⟨w2.heap.size, 6, none⟩ = some (.int .i64 0) := by rw [Lib.cell_of_heap g6]; rfl
  have d7 : w4.cell? ⟨w2.heap.size, 7, none⟩ = some (.int .i64 0) := by rw [Lib.cell_of_heap g6]; rfl
  have d8 : w4.cell? ⟨w2.heap.size, 8, none⟩ = some (.int .i64 0) := by rw [Lib.cell_of_heap g6]; rfl
  have d9 : w4.cell? ⟨w2.heap.size, 9, none⟩ = some (.int .i64 0) := by rw [Lib.cell_of_heap g6]; rfl
  have d10 : w4.cell? ⟨w2.heap.size, 10, none⟩ = some (.int .i64 0) := by rw [Lib.cell_of_heap g6]; rfl
  have d11 : w4.cell? ⟨w2.heap.size, 11, none⟩ = some (.int .i64 0) := by rw [Lib.cell_of_heap g6]; rfl
  have e0 : w4.cell? ⟨w2.heap.size + 1, 0, none⟩ = some (.int .i64 0) := by rw [Lib.cell_of_heap g7]; rfl
  have e1 : w4.cell? ⟨w2.heap.size + 1, 1, none⟩ = some (.int .i64 0) := by rw [Lib.cell_of_heap g7]; rfl
  have e2 : w4.cell? ⟨w2.heap.size + 1, 2, none⟩ = some (.int .i64 0) := by rw [Lib.cell_of_heap g7]; rfl
  have e3 : w4.cell? ⟨w2.heap.size + 1, 3, none⟩ = some (.int .i64 0) := by rw [Lib.cell_of_heap g7]; rfl
  have hB4 : Below w.heap.size w w4 := (HB2.out.trans (HBC.out.mono HB2.out.size)).grown hgrow (by have := HB2.out.size; simp; omega) (fun k hk => by have := HB2.out.size; simp [Value.ownBlock] at hk; omega)
  have HB4 := hide' hB4
  clear g6 g7 hown hgrow hB4 HA2 HO H6 H7 HBC
  go_wp2_with fail
  refine (CP.out _ _).mono ?_
  rintro e w5 ⟨rfl, rfl⟩
  go_wp2_with fail
  refine (CE.out _).mono ?_
  rintro e w6 ⟨rfl, rfl⟩
  go_wp2_with fail
  refine (CL.out _).mono ?_
  rintro e w7 ⟨rfl, hb7⟩
  have hB7 := HB4.out.trans (hb7.mono HB4.out.size)
  clear CL CE CP hb7
  go_wp2_with fail
  go_ret
  exact ⟨rfl, hB7⟩
end Sc
end Go.Proofs.YtjdjceoefjpclaaDoor

/-
  The mathematics of layer 9: events that are a document's, the nodes that grow of them, their shape by depths.
-/
import Derived.Test.YtcmjipgigkalcaaDoorRnPlain
namespace Go.Proofs.YtcmjipgigkalcaaDoor
namespace Tr
/-- an event as it lies in memory: av is where its attributes lie -/
structure Ev (V : Type) where
  kind : Int
  num : Int
  dep : Int
  nm : ByteArray
  av : V
  ats : List (ByteArray × ByteArray)
  tx : ByteArray
  fr : Int
  be : Int
/-- where the look at events is: the open elements' Opens, how many nodes -/
structure Ds where
  op : List Nat
  nd : Nat
variable {V : Type}
def closes (e o : Ev V) : Bool := decide (e.num = o.num) && (decide (e.dep = o.dep) && (decide (e.nm.toList = o.nm.toList) && (decide (e.ats.length = 0) && decide (e.tx.toList = []))))
/-- one event more; ok: what is asked of an Open's and of a Text's own fields -/
def dstep (ok : Ev V → Bool) (E : Nat → Ev V) (s : Ds) (i : Nat) : Option Ds :=
  if s.op = [] ∧ 0 < i then none
  else if (E i).kind = 0 then
    if (E i).num = s.nd ∧ (E i).dep = s.op.length + 1 ∧ ok (E i) = true then some ⟨s.op ++ [i], s.nd + 1⟩ else none
  else if (E i).kind = 1 then
    if s.op ≠ [] ∧ (E (i - 1)).kind ≠ 1 ∧ (E i).num = s.nd ∧ (E i).dep = s.op.length + 1 ∧ ok (E i) = true then some ⟨s.op, s.nd + 1⟩ else none
  else if (E i).kind = 2 then
    match s.op.getLast? with
    | none => none
    | some o => if closes (E i) (E o) = true then some ⟨s.op.dropLast, s.nd⟩ else none
  else none
def drun (ok : Ev V → Bool) (E : Nat → Ev V) : Nat → Option Ds
  | 0 => some ⟨[], 0⟩
  | i + 1 => match drun ok E i with
    | none => none
    | some s => dstep ok E s i
/-- are they a document's? -/
def doc (ok : Ev V → Bool) (E : Nat → Ev V) (n : Nat) : Bool :=
  match drun ok E n with
  | none => false
  | some s => decide (0 < s.nd) && s.op.isEmpty
/-- a node -/
structure Nd where
  par : Int
  beh : Int
  fst : Int
  fin : Int
  deriving Inhabited
structure Gs where
  ns : List Nd
  last : Int
def gstep (E : Nat → Ev V) (g : Gs) (i : Nat) : Gs :=
  if (E i).kind = 0 then ⟨g.ns ++ [⟨g.last, 0, i, 0⟩], (E i).num⟩
  else if (E i).kind = 1 then ⟨g.ns ++ [⟨g.last, (E i).num + 1, i, i + 1⟩], g.last⟩
  else ⟨g.ns.set g.last.toNat ⟨(g.ns[g.last.toNat]?.getD default).par, g.ns.length, (g.ns[g.last.toNat]?.getD default).fst, i + 1⟩, (g.ns[g.last.toNat]?.getD default).par⟩
def grun (E : Nat → Ev V) : Nat → Gs
  | 0 => ⟨[], -1⟩
  | i + 1 => gstep E (grun E i) i
/-- the node of a number -/
def Gs.nth (g : Gs) (m : Nat) : Nd := g.ns[m]?.getD default
/-- its depth, by its event -/
def dp (E : Nat → Ev V) (g : Gs) (m : Nat) : Nat := (E (g.nth m).fst.toNat).dep.toNat

/-- what holds between the two looks, behind i events -/
structure GI (E : Nat → Ev V) (s : Ds) (g : Gs) (i : Nat) : Prop where
  len : g.ns.length = s.nd
  ndi : s.nd ≤ i
  /-- the top -/
  top : g.last = match s.op.getLast? with | none => -1 | some o => (E o).num
  /-- open elements -/
  opn : ∀ (k o : Nat), s.op[k]? = some o → ∃ m : Nat, (E o).num = m ∧ m < s.nd ∧ o < i ∧ (E o).kind = 0 ∧ (g.nth m).fst = o ∧ dp E g m = k + 1 ∧ (∀ x, m < x → x < s.nd → k + 2 ≤ dp E g x) ∧ (g.nth m).par = (match k with | 0 => -1 | k' + 1 => (E (s.op[k']?.getD 0)).num)
  /-- every node has its event -/
  evt : ∀ m, m < s.nd → ∃ f : Nat, (g.nth m).fst = f ∧ f < i ∧ (E f).num = m ∧ ((E f).kind = 0 ∨ (E f).kind = 1) ∧ (E f).dep = dp E g m
  /-- depths -/
  one : ∀ m, m < s.nd → (m = 0 → dp E g m = 1) ∧ (0 < m → 2 ≤ dp E g m)
  up : ∀ m, m + 1 < s.nd → dp E g (m + 1) ≤ dp E g m + 1
  hi : ∀ m, m + 1 = s.nd → s.op.length ≤ dp E g m
  none0 : s.nd = 0 → s.op = []
  par : ∀ m, m < s.nd → (m = 0 ∧ (g.nth m).par = -1) ∨ ∃ p : Nat, p < m ∧ (g.nth m).par = p ∧ dp E g p + 1 = dp E g m ∧ ∀ x, p < x → x < m → dp E g m ≤ dp E g x
  /-- a node is open, or closed -/
  beh : ∀ m, m < s.nd → (∃ k o : Nat, s.op[k]? = some o ∧ (E o).num = m) ∨ ∃ b z : Nat, (g.nth m).beh = b ∧ (g.nth m).fin = z ∧ (g.nth m).fst < z ∧ z ≤ i ∧ m < b ∧ b ≤ s.nd ∧ (∀ x, m < x → x < b → dp E g m < dp E g x) ∧ (b < s.nd → dp E g b ≤ dp E g m) ∧ (b = s.nd → s.op.length + 1 ≤ dp E g m)

/-- the shape of a whole document's nodes -/
structure Shape (E : Nat → Ev V) (g : Gs) (nd n : Nat) : Prop where
  len : g.ns.length = nd
  pos : 0 < nd
  ndn : nd ≤ n
  evt : ∀ m, m < nd → ∃ f : Nat, (g.nth m).fst = f ∧ f < n ∧ (E f).num = m ∧ ((E f).kind = 0 ∨ (E f).kind = 1) ∧ (E f).dep = dp E g m
  one : ∀ m, m < nd → (m = 0 → dp E g m = 1) ∧ (0 < m → 2 ≤ dp E g m)
  up : ∀ m, m + 1 < nd → dp E g (m + 1) ≤ dp E g m + 1
  par : ∀ m, m < nd → (m = 0 ∧ (g.nth m).par = -1) ∨ ∃ p : Nat, p < m ∧ (g.nth m).par = p ∧ dp E g p + 1 = dp E g m ∧ ∀ x, p < x → x < m → dp E g m ≤ dp E g x
  beh : ∀ m, m < nd → ∃ b z : Nat, (g.nth m).beh = b ∧ (g.nth m).fin = z ∧ (g.nth m).fst < z ∧ z ≤ n ∧ m < b ∧ b ≤ nd ∧ (∀ x, m < x → x < b → dp E g m < dp E g x) ∧ (b < nd → dp E g b ≤ dp E g m)

theorem nth_app (ns : List Nd) (d : Nd) (l : Int) (m : Nat) (h : m < ns.length) : (Gs.mk (ns ++ [d]) l).nth m = (ns[m]?.getD default) := by
  simp [Gs.nth, List.getElem?_append_left h]
theorem nth_new (ns : List Nd) (d : Nd) (l : Int) : (Gs.mk (ns ++ [d]) l).nth ns.length = d := by
  simp [Gs.nth]
theorem GI.start (E : Nat → Ev V) : GI E ⟨[], 0⟩ ⟨[], -1⟩ 0 :=
  ⟨rfl, Nat.le_refl _, rfl, fun k o h => by simp at h, fun m h => absurd h (by simp), fun m h => absurd h (by simp), fun m h => absurd h (by simp), fun m h => absurd h (by simp), fun _ => rfl, fun m h => absurd h (by simp), fun m h => absurd h (by simp)⟩

theorem dp_app (E : Nat → Ev V) (g : Gs) (d : Nd) (l : Int) (m : Nat) (h : m < g.ns.length) : dp E ⟨g.ns ++ [d], l⟩ m = dp E g m := by
  unfold dp
  rw [nth_app _ _ _ _ h]
  rfl
/-- the top of the open elements, as a number -/
theorem GI.last_of {E : Nat → Ev V} {s : Ds} {g : Gs} {i : Nat} (h : GI E s g i) : (s.op = [] ∧ g.last = -1) ∨ ∃ (k o m : Nat), s.op.length = k + 1 ∧ s.op[k]? = some o ∧ s.op.getLast? = some o ∧ (E o).num = m ∧ g.last = m := by
  have ht := h.top
  rcases hl : s.op.getLast? with _ | o
  · rw [hl] at ht
    exact .inl ⟨List.getLast?_eq_none_iff.1 hl, ht⟩
  · rw [hl] at ht
    have hne : s.op ≠ [] := fun e => by rw [e] at hl; cases hl
    obtain ⟨k, hk⟩ : ∃ k, s.op.length = k + 1 := ⟨s.op.length - 1, by have := List.length_pos_iff.2 hne; omega⟩
    have h1 : s.op[k]? = some o := by rw [List.getLast?_eq_getElem?, hk] at hl; exact hl
    obtain ⟨m, hm, _⟩ := h.opn k o h1
    exact .inr ⟨k, o, m, hk, h1, rfl, hm, ht.trans hm⟩
/-- a new node -/
theorem GI.node {E : Nat → Ev V} {s : Ds} {g : Gs} {i : Nat} (h : GI E s g i) (b z l : Int) (h0 : s.op = [] → i = 0) (hn : (E i).num = s.nd) (hd : (E i).dep = s.op.length + 1) (hk : (E i).kind = 0 ∨ (E i).kind = 1) :
    let g' : Gs := ⟨g.ns ++ [⟨g.last, b, i, z⟩], l⟩
    dp E g' s.nd = s.op.length + 1 ∧ (∀ m, m < s.nd → dp E g' m = dp E g m ∧ g'.nth m = g.nth m) ∧ g'.nth s.nd = ⟨g.last, b, i, z⟩ ∧
    (∀ m, m < s.nd + 1 → ∃ f : Nat, (g'.nth m).fst = f ∧ f < i + 1 ∧ (E f).num = m ∧ ((E f).kind = 0 ∨ (E f).kind = 1) ∧ (E f).dep = dp E g' m) ∧
    (∀ m, m < s.nd + 1 → (m = 0 → dp E g' m = 1) ∧ (0 < m → 2 ≤ dp E g' m)) ∧
    (∀ m, m + 1 < s.nd + 1 → dp E g' (m + 1) ≤ dp E g' m + 1) ∧
    (∀ m, m < s.nd + 1 → (m = 0 ∧ (g'.nth m).par = -1) ∨ ∃ p : Nat, p < m ∧ (g'.nth m).par = p ∧ dp E g' p + 1 = dp E g' m ∧ ∀ x, p < x → x < m → dp E g' m ≤ dp E g' x) := by
  intro g'
  have e1 : ∀ m, m < s.nd → dp E g' m = dp E g m ∧ g'.nth m = g.nth m := fun m hm => ⟨dp_app E g _ l m (by rw [h.len]; exact hm), nth_app _ _ _ _ (by rw [h.len]; exact hm)⟩
  have e2 : g'.nth s.nd = ⟨g.last, b, i, z⟩ := by rw [← h.len]; exact nth_new _ _ _
  have e3 : dp E g' s.nd = s.op.length + 1 := by
    unfold dp
    rw [e2]
    show (E ((i : Int).toNat)).dep.toNat = _
    rw [Int.toNat_natCast, hd]
    omega
  have e0 : s.op = [] → s.nd = 0 := fun e => by have := h.ndi; have := h0 e; omega
  refine ⟨e3, e1, e2, fun m hm => ?_, fun m hm => ?_, fun m hm => ?_, fun m hm => ?_⟩
  · rcases Nat.lt_or_ge m s.nd with c | c
    · obtain ⟨f, h1, h2, h3, h4, h5⟩ := h.evt m c
      exact ⟨f, by rw [(e1 m c).2]; exact h1, by omega, h3, h4, by rw [(e1 m c).1]; exact h5⟩
    · obtain rfl : m = s.nd := by omega
      exact ⟨i, by rw [e2], by omega, hn, hk, by rw [e3, hd]; omega⟩
  · rcases Nat.lt_or_ge m s.nd with c | c
    · rw [(e1 m c).1]; exact h.one m c
    · obtain rfl : m = s.nd := by omega
      rw [e3]
      refine ⟨fun e => ?_, fun e => ?_⟩
      · rw [h.none0 e]; rfl
      · have : s.op ≠ [] := fun e' => by have := e0 e'; omega
        have := List.length_pos_iff.2 this
        omega
  · rcases Nat.lt_or_ge (m + 1) s.nd with c | c
    · rw [(e1 _ c).1, (e1 m (by omega)).1]; exact h.up m c
    · obtain c : m + 1 = s.nd := by omega
      have := h.hi m c
      rw [c, e3, (e1 m (by omega)).1]
      omega
  · rcases Nat.lt_or_ge m s.nd with c | c
    · rcases h.par m c with ⟨h1, h2⟩ | ⟨p, h1, h2, h3, h4⟩
      · exact .inl ⟨h1, by rw [(e1 m c).2]; exact h2⟩
      · refine .inr ⟨p, h1, by rw [(e1 m c).2]; exact h2, by rw [(e1 m c).1, (e1 p (by omega)).1]; exact h3, fun x hx hy => ?_⟩
        rw [(e1 m c).1, (e1 x (by omega)).1]
        exact h4 x hx hy
    · obtain rfl : m = s.nd := by omega
      rw [e2, e3]
      rcases h.last_of with ⟨c1, c2⟩ | ⟨k, o, q, c1, c2, c3, c4, c5⟩
      · exact .inl ⟨e0 c1, c2⟩
      · obtain ⟨q', a1, a2, a3, a4, a5, a6, a7, a8⟩ := h.opn k o c2
        obtain rfl : q = q' := by omega
        refine .inr ⟨q, a2, c5, by rw [(e1 q a2).1, a6, c1], fun x hx hy => ?_⟩
        rw [(e1 x hy).1]
        have := a7 x hx hy
        omega
theorem GI.open' {E : Nat → Ev V} {s : Ds} {g : Gs} {i : Nat} (h : GI E s g i) (h0 : s.op = [] → i = 0) (hn : (E i).num = s.nd) (hd : (E i).dep = s.op.length + 1) (hk : (E i).kind = 0) :
    GI E ⟨s.op ++ [i], s.nd + 1⟩ ⟨g.ns ++ [⟨g.last, 0, i, 0⟩], (E i).num⟩ (i + 1) := by
  obtain ⟨e3, e1, e2, hE, hO, hU, hP⟩ := h.node 0 0 (E i).num h0 hn hd (.inl hk)
  refine ⟨by simp [h.len], by have := h.ndi; show _ + 1 ≤ _; omega, by simp, fun k o hko => ?_, hE, hO, hU, fun m hm => ?_, (fun e => by cases e), hP, fun m hm => ?_⟩
  · dsimp only at hko ⊢
    rcases Nat.lt_or_ge k s.op.length with c | c
    · rw [List.getElem?_append_left c] at hko
      obtain ⟨m, a1, a2, a3, a4, a5, a6, a7, a8⟩ := h.opn k o hko
      refine ⟨m, a1, by omega, by omega, a4, by rw [(e1 m a2).2]; exact a5, by rw [(e1 m a2).1]; exact a6, fun x hx hy => ?_, ?_⟩
      · rcases Nat.lt_or_ge x s.nd with cx | cx
        · rw [(e1 x cx).1]; exact a7 x hx cx
        · obtain rfl : x = s.nd := by omega
          rw [e3]; omega
      · rw [(e1 m a2).2, a8]
        cases k with
        | zero => rfl
        | succ k' =>
          show (E (s.op[k']?.getD 0)).num = (E ((s.op ++ [i])[k']?.getD 0)).num
          rw [List.getElem?_append_left (by omega)]
    · have hl := (List.getElem?_eq_some_iff.1 hko).1
      simp at hl
      obtain rfl : k = s.op.length := by omega
      obtain rfl : i = o := by simpa using hko
      refine ⟨s.nd, hn, by omega, by omega, hk, by rw [e2], e3, fun x hx hy => by omega, ?_⟩
      rw [e2]
      show g.last = _
      rcases h.last_of with ⟨c1, c2⟩ | ⟨k, o, q, c1, c2, c3, c4, c5⟩
      · rw [c1, c2]; rfl
      · rw [c1, c5]
        show _ = (E ((s.op ++ [i])[k]?.getD 0)).num
        rw [List.getElem?_append_left (by omega), c2]
        exact c4.symm
  · dsimp only at hm ⊢
    obtain rfl : m = s.nd := by omega
    rw [e3]; simp
  · dsimp only at hm ⊢
    rcases Nat.lt_or_ge m s.nd with c | c
    · rcases h.beh m c with ⟨k, o, h1, h2⟩ | ⟨b, z, h1, h2, h2', h2'', h3, h4, h5, h6, h7⟩
      · exact .inl ⟨k, o, by rw [List.getElem?_append_left (List.getElem?_eq_some_iff.1 h1).1]; exact h1, h2⟩
      · refine .inr ⟨b, z, by rw [(e1 m c).2]; exact h1, by rw [(e1 m c).2]; exact h2, by rw [(e1 m c).2]; exact h2', by omega, h3, by omega, fun x hx hy => ?_, fun hb => ?_, fun hb => by omega⟩
        · rw [(e1 m c).1, (e1 x (by omega)).1]; exact h5 x hx hy
        · rw [(e1 m c).1]
          rcases Nat.lt_or_ge b s.nd with cb | cb
          · rw [(e1 b cb).1]; exact h6 cb
          · obtain rfl : b = s.nd := by omega
            rw [e3]; exact h7 rfl
    · obtain rfl : m = s.nd := by omega
      exact .inl ⟨s.op.length, i, by simp, hn⟩
theorem GI.text {E : Nat → Ev V} {s : Ds} {g : Gs} {i : Nat} (h : GI E s g i) (h0 : s.op ≠ []) (hn : (E i).num = s.nd) (hd : (E i).dep = s.op.length + 1) (hk : (E i).kind = 1) :
    GI E ⟨s.op, s.nd + 1⟩ ⟨g.ns ++ [⟨g.last, (E i).num + 1, i, i + 1⟩], g.last⟩ (i + 1) := by
  obtain ⟨e3, e1, e2, hE, hO, hU, hP⟩ := h.node ((E i).num + 1) (i + 1) g.last (fun e => absurd e h0) hn hd (.inr hk)
  refine ⟨by simp [h.len], by have := h.ndi; show _ + 1 ≤ _; omega, h.top, fun k o hko => ?_, hE, hO, hU, fun m hm => ?_, (fun e => by cases e), hP, fun m hm => ?_⟩
  · dsimp only at hko ⊢
    obtain ⟨m, a1, a2, a3, a4, a5, a6, a7, a8⟩ := h.opn k o hko
    have hl := (List.getElem?_eq_some_iff.1 hko).1
    refine ⟨m, a1, by omega, by omega, a4, by rw [(e1 m a2).2]; exact a5, by rw [(e1 m a2).1]; exact a6, fun x hx hy => ?_, by rw [(e1 m a2).2]; exact a8⟩
    rcases Nat.lt_or_ge x s.nd with cx | cx
    · rw [(e1 x cx).1]; exact a7 x hx cx
    · obtain rfl : x = s.nd := by omega
      rw [e3]; omega
  · dsimp only at hm ⊢
    obtain rfl : m = s.nd := by omega
    rw [e3]; omega
  · dsimp only at hm ⊢
    rcases Nat.lt_or_ge m s.nd with c | c
    · rcases h.beh m c with ⟨k, o, h1, h2⟩ | ⟨b, z, h1, h2, h2', h2'', h3, h4, h5, h6, h7⟩
      · exact .inl ⟨k, o, h1, h2⟩
      · refine .inr ⟨b, z, by rw [(e1 m c).2]; exact h1, by rw [(e1 m c).2]; exact h2, by rw [(e1 m c).2]; exact h2', by omega, h3, by omega, fun x hx hy => ?_, fun hb => ?_, fun hb => by omega⟩
        · rw [(e1 m c).1, (e1 x (by omega)).1]; exact h5 x hx hy
        · rw [(e1 m c).1]
          rcases Nat.lt_or_ge b s.nd with cb | cb
          · rw [(e1 b cb).1]; exact h6 cb
          · obtain rfl : b = s.nd := by omega
            rw [e3]; exact h7 rfl
    · obtain rfl : m = s.nd := by omega
      exact .inr ⟨s.nd + 1, i + 1, by rw [e2, hn]; simp, by rw [e2]; simp, by rw [e2]; show (i : Int) < _; omega, by omega, by omega, by omega, fun x hx hy => by omega, fun hb => by omega, fun _ => by rw [e3]; omega⟩
theorem GI.close {E : Nat → Ev V} {s : Ds} {g : Gs} {i o : Nat} (h : GI E s g i) (ho : s.op.getLast? = some o) :
    ∃ m : Nat, g.last = m ∧ m < s.nd ∧ (E o).num = m ∧ GI E ⟨s.op.dropLast, s.nd⟩ ⟨g.ns.set m ⟨(g.nth m).par, g.ns.length, (g.nth m).fst, i + 1⟩, (g.nth m).par⟩ (i + 1) := by
  rcases h.last_of with ⟨c1, c2⟩ | ⟨k, o', m, c1, c2, c3, c4, c5⟩
  · rw [c1] at ho; cases ho
  obtain rfl : o' = o := Option.some.inj (c3.symm.trans ho)
  obtain ⟨m', a1, a2, a3, a4, a5, a6, a7, a8⟩ := h.opn k o' c2
  obtain rfl : m = m' := by omega
  have hlen := h.len
  obtain ⟨d', hd'⟩ : ∃ d' : Nd, d' = ⟨(g.nth m).par, g.ns.length, (g.nth m).fst, i + 1⟩ := ⟨_, rfl⟩
  refine ⟨m, c5, a2, c4, ?_⟩
  rw [← hd']
  obtain ⟨g', hg'⟩ : ∃ g' : Gs, g' = ⟨g.ns.set m d', (g.nth m).par⟩ := ⟨_, rfl⟩
  rw [← hg']
  have n1 : g'.nth m = d' := by rw [hg']; simp [Gs.nth, hlen, a2]
  have n2 : ∀ x, x ≠ m → g'.nth x = g.nth x := fun x hx => by rw [hg']; simp [Gs.nth, List.getElem?_set_ne (Ne.symm hx)]
  have nf : ∀ x, (g'.nth x).fst = (g.nth x).fst ∧ (g'.nth x).par = (g.nth x).par := fun x => by
    by_cases e : x = m
    · subst e; rw [n1, hd']; exact ⟨rfl, rfl⟩
    · rw [n2 x e]; exact ⟨rfl, rfl⟩
  have ed : ∀ x, dp E g' x = dp E g x := fun x => by unfold dp; rw [(nf x).1]
  have hdl : ∀ j, s.op.dropLast[j]? = if j < k then s.op[j]? else none := fun j => by
    rw [List.getElem?_dropLast, c1]; rfl
  refine ⟨by rw [hg']; simp [hlen], (by have := h.ndi; show s.nd ≤ i + 1; omega), ?_, fun j q hj => ?_, fun x hx => ?_, fun x hx => ?_, fun x hx => ?_, fun x hx => ?_, fun e => ?_, fun x hx => ?_, fun x hx => ?_⟩
  · rw [hg']
    show (g.nth m).par = _
    rw [a8, List.getLast?_eq_getElem?, List.length_dropLast, c1]
    cases k with
    | zero => rw [hdl]; rfl
    | succ k' =>
      rw [hdl, if_pos (by omega)]
      have : k' < s.op.length := by omega
      show _ = match s.op[k']? with | none => (-1 : Int) | some o => (E o).num
      have e3 : s.op[k']?.getD 0 = s.op[k'] := by rw [List.getElem?_eq_getElem this]; rfl
      rw [List.getElem?_eq_getElem this]
      show (E (s.op[k']?.getD 0)).num = (E s.op[k']).num
      rw [e3]
  · dsimp only at hj ⊢
    rw [hdl] at hj
    split at hj
    · next hjk =>
      obtain ⟨x, b1, b2, b3, b4, b5, b6, b7, b8⟩ := h.opn j q hj
      refine ⟨x, b1, b2, by omega, b4, by rw [(nf x).1]; exact b5, by rw [ed]; exact b6, fun y hy hz => by rw [ed]; exact b7 y hy hz, ?_⟩
      rw [(nf x).2, b8]
      cases j with
      | zero => rfl
      | succ j' =>
        show _ = (E (s.op.dropLast[j']?.getD 0)).num
        rw [hdl, if_pos (by omega)]
    · cases hj
  · obtain ⟨f, h1, h2, h3, h4, h5⟩ := h.evt x hx
    exact ⟨f, by rw [(nf x).1]; exact h1, by omega, h3, h4, by rw [ed]; exact h5⟩
  · rw [ed]; exact h.one x hx
  · rw [ed, ed]; exact h.up x hx
  · rw [ed]
    have := h.hi x hx
    dsimp only
    rw [List.length_dropLast]
    omega
  · dsimp only at e ⊢
    rw [h.none0 e]; rfl
  · rcases h.par x hx with ⟨h1, h2⟩ | ⟨p, h1, h2, h3, h4⟩
    · exact .inl ⟨h1, by rw [(nf x).2]; exact h2⟩
    · exact .inr ⟨p, h1, by rw [(nf x).2]; exact h2, by rw [ed, ed]; exact h3, fun y hy hz => by rw [ed, ed]; exact h4 y hy hz⟩
  · dsimp only at hx ⊢
    by_cases e : x = m
    · subst e
      right
      refine ⟨s.nd, i + 1, by rw [n1, hd', hlen], by rw [n1, hd']; simp, by rw [n1, hd']; dsimp only; rw [a5]; omega, by omega, a2, by omega, fun y hy hz => ?_, fun hb => by omega, fun _ => ?_⟩
      · rw [ed, ed, a6]
        have := a7 y hy hz
        omega
      · rw [ed, a6, List.length_dropLast]; omega
    · rcases h.beh x hx with ⟨j, q, h1, h2⟩ | ⟨b, z, h1, h2, h2', h2'', h3, h4, h5, h6, h7⟩
      · refine .inl ⟨j, q, ?_, h2⟩
        have hj := (List.getElem?_eq_some_iff.1 h1).1
        have : j ≠ k := fun e2 => by
          subst e2
          rw [c2] at h1
          cases h1
          omega
        rw [hdl, if_pos (by omega)]
        exact h1
      · refine .inr ⟨b, z, by rw [n2 x e]; exact h1, by rw [n2 x e]; exact h2, by rw [n2 x e]; exact h2', by omega, h3, h4, fun y hy hz => by rw [ed, ed]; exact h5 y hy hz, fun hb => by rw [ed, ed]; exact h6 hb, fun hb => ?_⟩
        have := h7 hb
        rw [ed, List.length_dropLast]; omega
/-- event by event -/
theorem GI.step {ok : Ev V → Bool} {E : Nat → Ev V} {s s' : Ds} {g : Gs} {i : Nat} (h : GI E s g i) (hs : dstep ok E s i = some s') : GI E s' (gstep E g i) (i + 1) := by
  unfold dstep at hs
  split at hs
  · cases hs
  next h0 =>
  split at hs
  · next k0 =>
    split at hs
    · next c =>
      cases hs
      unfold gstep
      rw [if_pos k0]
      exact h.open' (fun e => by
        rcases Nat.eq_zero_or_pos i with q | q
        · exact q
        · exact absurd ⟨e, q⟩ h0) c.1 (by simpa using c.2.1) k0
    · cases hs
  next k0 =>
  split at hs
  · next k1 =>
    split at hs
    · next c =>
      cases hs
      unfold gstep
      rw [if_neg k0, if_pos k1]
      exact h.text c.1 c.2.2.1 (by simpa using c.2.2.2.1) k1
    · cases hs
  next k1 =>
  split at hs
  · next k2 =>
    split at hs
    · cases hs
    next o ho =>
    split at hs
    · cases hs
      obtain ⟨m, h1, h2, h3, h4⟩ := h.close ho
      unfold gstep
      rw [if_neg k0, if_neg k1, h1, Int.toNat_natCast]
      exact h4
    · cases hs
  · cases hs
theorem grun_inv {ok : Ev V → Bool} {E : Nat → Ev V} : ∀ (i : Nat) (s : Ds), drun ok E i = some s → GI E s (grun E i) i
  | 0, s, h => by cases h; exact GI.start E
  | i + 1, s, h => by
    unfold drun at h
    split at h
    · cases h
    · next s0 h0 => exact (grun_inv i s0 h0).step h
theorem drun_op {ok : Ev V → Bool} {E : Nat → Ev V} : ∀ (i : Nat) (s : Ds), drun ok E i = some s → s.op.length ≤ s.nd
  | 0, s, h => by cases h; exact Nat.le_refl _
  | i + 1, s, h => by
    unfold drun at h
    split at h
    · cases h
    next s0 h0 =>
    have ih := drun_op i s0 h0
    unfold dstep at h
    split at h
    · cases h
    split at h
    · split at h
      · cases h; simp; omega
      · cases h
    split at h
    · split at h
      · cases h; dsimp only; omega
      · cases h
    split at h
    · split at h
      · cases h
      split at h
      · cases h; simp; omega
      · cases h
    · cases h
theorem drun_pos {ok : Ev V → Bool} {E : Nat → Ev V} {i : Nat} {s : Ds} (h : drun ok E i = some s) (hs : 0 < s.op.length) : 0 < i := by
  have := (grun_inv i s h).ndi
  have := drun_op i s h
  omega
theorem doc_shape {ok : Ev V → Bool} {E : Nat → Ev V} {n : Nat} (h : doc ok E n = true) : ∃ nd, drun ok E n = some ⟨[], nd⟩ ∧ Shape E (grun E n) nd n := by
  unfold doc at h
  split at h
  · cases h
  next s hs =>
  simp at h
  obtain ⟨op, nd⟩ := s
  obtain ⟨h1, rfl⟩ := h
  have q := grun_inv n _ hs
  refine ⟨nd, hs, q.len, h1, q.ndi, q.evt, q.one, q.up, q.par, fun m hm => ?_⟩
  rcases q.beh m hm with ⟨k, o, e, _⟩ | ⟨b, z, a1, a2, a3, a4, a5, a6, a7, a8, _⟩
  · simp at e
  · exact ⟨b, z, a1, a2, a3, a4, a5, a6, a7, a8⟩
/-- the first child's parent is the node; so is that of the node behind a child, within it -/
theorem Shape.child {E : Nat → Ev V} {g : Gs} {nd n : Nat} (h : Shape E g nd n) {p : Nat} (hp : p < nd) (hb : ((p : Int) + 1) < (g.nth p).beh) : (g.nth (p + 1)).par = p := by
  obtain ⟨b, z, a1, a2, a3, a4, a5, a6, a7, a8⟩ := h.beh p hp
  have c1 : p + 1 < b := by omega
  have c2 := a7 (p + 1) (by omega) c1
  rcases h.par (p + 1) (by omega) with ⟨e, _⟩ | ⟨q, b1, b2, b3, b4⟩
  · omega
  · have := h.up p (by omega)
    rcases Nat.lt_or_ge q p with c | c
    · have := b4 p c (by omega); omega
    · have : q = p := by omega
      rw [b2, this]
theorem Shape.next {E : Nat → Ev V} {g : Gs} {nd n : Nat} (h : Shape E g nd n) {p m : Nat} (hp : p < nd) (hm : m < nd) (e : (g.nth m).par = p) (hb : (g.nth m).beh < (g.nth p).beh) : ∃ k : Nat, (g.nth m).beh = k ∧ k < nd ∧ (g.nth k).par = p := by
  obtain ⟨b, z, a1, a2, a3, a4, a5, a6, a7, a8⟩ := h.beh p hp
  obtain ⟨b', z', d1, d2, d3, d4, d5, d6, d7, d8⟩ := h.beh m hm
  have hlt : b' < nd := by omega
  refine ⟨b', d1, hlt, ?_⟩
  rcases h.par m hm with ⟨_, e2⟩ | ⟨q, b1, b2, b3, b4⟩
  · rw [e2] at e; omega
  obtain rfl : q = p := by omega
  have c1 := d8 hlt
  have c2 := a7 b' (by omega) (by omega)
  rcases h.par b' hlt with ⟨e3, _⟩ | ⟨r, f1, f2, f3, f4⟩
  · omega
  · rcases Nat.lt_or_ge r q with c | c
    · have := f4 q c (by omega)
      omega
    · rcases Nat.lt_or_ge q r with c' | c'
      · have := a7 r c' (by omega)
        omega
      · rw [f2]; congr 1; omega
/-- the root's node is the first and holds all -/
theorem Shape.root {E : Nat → Ev V} {g : Gs} {nd n : Nat} (h : Shape E g nd n) : (g.nth 0).beh = nd ∧ (g.nth 0).par = -1 := by
  have hp := h.pos
  obtain ⟨b, z, a1, a2, a3, a4, a5, a6, a7, a8⟩ := h.beh 0 hp
  refine ⟨?_, ?_⟩
  · rcases Nat.lt_or_ge b nd with c | c
    · have h1 := a8 c
      have h2 := (h.one b c).2 a5
      have h3 := (h.one 0 hp).1 rfl
      omega
    · rw [a1]; omega
  · rcases h.par 0 hp with ⟨_, e⟩ | ⟨q, b1, _⟩
    · exact e
    · omega
/-- what is in a node lies within it -/
theorem Shape.within {E : Nat → Ev V} {g : Gs} {nd n : Nat} (h : Shape E g nd n) {p m : Nat} (hp : p < nd) (h1 : p < m) (h2 : (m : Int) < (g.nth p).beh) : (g.nth m).beh ≤ (g.nth p).beh ∧ (p : Int) ≤ (g.nth m).par := by
  obtain ⟨b, z, a1, a2, a3, a4, a5, a6, a7, a8⟩ := h.beh p hp
  obtain ⟨b', z', d1, d2, d3, d4, d5, d6, d7, d8⟩ := h.beh m (by omega)
  have c0 := a7 m h1 (by omega)
  refine ⟨?_, ?_⟩
  · rcases Nat.lt_or_ge b b' with c | c
    · have := d7 b (by omega) c
      have := a8 (by omega)
      omega
    · omega
  · rcases h.par m (by omega) with ⟨e, _⟩ | ⟨q, b1, b2, b3, b4⟩
    · omega
    · rw [b2]
      rcases Nat.lt_or_ge q p with c | c
      · have := b4 p c h1
        omega
      · omega
end Tr
end Go.Proofs.YtcmjipgigkalcaaDoor

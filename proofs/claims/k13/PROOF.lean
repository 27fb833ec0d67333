import PyProof.Rows.All
import HandS.TupSets
import KE.KDictKeyed
import KE.SortData
import HandS.SetFor
import HandS.ExcInit
import HandS.ExcIs
import HandS.ExcField
import KE.KExcInit
import HandS.ExcOwn
import HandS.Words
import HandS.Defaults
import HandS.MakeKw
import KE.KExcIs
import HandS.IsInst
import HandS.WordsExc
import HandS.Ends
import HandS.ForMost
import HandS.TupAny
import HandS.TupMul
import KE.KIndexOf
import HandS.Exc
import HandS.TryOnly
import HandS.Conv
import HandS.Flow
import HandS.Wide
import HandS.Deep
import PyProof.ReprRoads
import HandS.Strs
import HandS.More
import KE.LtData
import KE.DataIsa
import HandS.Style
import HandS.RaiseMore
import KE.DataEq
import KE.KRevSl
import HandS.Iter
import KE.GoesEnum
import HandS.Dict
import PyProof.ReprReads
import PyProof.CallFns
import HandS.Zip
import HandS.Star
import HandS.SetBool
import KE.GoesZip
import KE.GoesMore
import PyProof.CollectWalk
import KE.KDictZip
import PyProof.TupleOfGen
import PySem.Challenge.RW_backasked_k13_cases_before_a_deed
set_option Elab.async false
set_option linter.all false
set_option maxRecDepth 100000
set_option maxHeartbeats 4100000
set_option exponentiation.threshold 3000
/-! NS1: sets whose elements are tuples of ints, None and such tuples, nested to depth 8: what stands at the set, the search, adding. -/
namespace NS
open PySem PySem.Spec L2
open PySem.SetTable (bits turns below insertAt sizeAbove grown)

/-! ### the elements -/
mutual
/-- no text and no bool matter: whole numbers, None, tuples -/
def bare : NestedKey → Bool
  | .none => true
  | .num _ => true
  | .text _ => false
  | .tup ks => bareAll ks
def bareAll : List NestedKey → Bool
  | [] => true
  | k :: ks => bare k && bareAll ks
end
structure Elt (hp : Heap) (c : NestedKey) (b : Addr) : Prop where
  is : NestedIs hp c (.ref b)
  dp : c.depth ≤ 8
  br : bare c = true
theorem Elt.stay {hp hp' : Heap} {c : NestedKey} {b : Addr} (x : Elt hp c b) (k : ∀ q o vs n, hp.get? q = some o → o.data = .seq vs n → hp'.get? q = some o) : Elt hp' c b :=
  ⟨NestedIs.at k _ _ x.is, x.dp, x.br⟩
theorem Elt.keep {hp hp' : Heap} {c : NestedKey} {b : Addr} (x : Elt hp c b) (k : ∀ q o, hp.get? q = some o → hp'.get? q = some o) : Elt hp' c b := x.stay fun q o _ _ e _ => k q o e
theorem Elt.beside {hp hp' : Heap} {c : NestedKey} {a b : Addr} {o : Obj} {rows : Array (Int × Value)} {e0 : Nat} {tb : SetTable} (x : Elt hp c b) (ho : hp.get? a = some o) (hd : o.data = .set rows e0 tb) (sb : Heap.SameBut a hp hp') : Elt hp' c b :=
  x.stay fun q u vs n e d => (sb.2 q (fun z => by rw [z, ho] at e; cases e; rw [hd] at d; cases d)).trans e
theorem Elt.inj {hp : Heap} {c d : NestedKey} {b : Addr} (x : Elt hp c b) (y : Elt hp d b) : c = d := NestedIs.inj _ _ _ x.is y.is

section
variable {P : Program} {w : World} {A : Around} {E : Value → Shared → Prop} {st : Shared}
mutual
theorem stmt_free : ∀ (c : NestedKey) (v : Value) (n : Nat) (A : Around) (st : Shared) (E : Value → Shared → Prop) (Q : Bool → Shared → Prop), NestedIs st.heap c v → c.depth ≤ n → Q false st → wpAny (model P w) A (ofAClassStatement n v) Q E st
  | .none, v, n, A, st, E, Q, x, _, q => by cases x; cases n <;> exact wpAny_pure q
  | .num i, v, n, A, st, E, Q, x, _, q => by cases x <;> cases n <;> exact wpAny_pure q
  | .text t, v, n, A, st, E, Q, x, _, q => by cases x; cases n <;> exact wpAny_pure q
  | .tup ks, v, 0, A, st, E, Q, x, hn, q => by simp [NestedKey.depth] at hn
  | .tup ks, v, n + 1, A, st, E, Q, x, hn, q => by
    cases x with
    | @tup b o vs m _ h1 h2 h3 h4 =>
      have hT : st.TypeIs (.ref b) "tuple" := ⟨o, h1, h2⟩
      unfold ofAClassStatement; refine wpAny_bind (wpAny_typeOf hT ?_)
      dsimp only
      simp only [show (("tuple" : String) == "tuple") = true by decide, if_true, Bool.not_true, Bool.false_eq_true, if_false]
      try (refine wpAny_bind (wpAny_pure ?_))
      try (simp only [Bool.not_true, Bool.false_eq_true, if_false])
      refine wpAny_bind (wpAny_seqItems h1 h3 ?_)
      dsimp only
      refine wpAny_bind ?_
      rw [← Array.forIn_toList]
      have hd : NestedKey.depthAll ks ≤ n := by simp only [NestedKey.depth] at hn; omega
      refine wpAny_forIn_list _ (fun rest r s' => r.1 = none ∧ s' = st ∧ ∃ cs, NestedAll st.heap cs rest ∧ cs <:+ ks) _ ?_ ?_ _ _ ⟨rfl, rfl, ks, h4, List.suffix_refl ks⟩
      · rintro u rest r s' ⟨hr, rfl, cs, hall, suf⟩
        cases hall with
        | @cons c _ cs' _ g1 g2 =>
          have hc : c ∈ ks := suf.subset List.mem_cons_self
          refine wpAny_bind (stmts_free ks c hc u n A s' E _ g1 (by omega) ?_); simp only [Bool.false_eq_true, if_false]
          exact wpAny_pure ⟨rfl, rfl, cs', g2, (List.suffix_cons c cs').trans suf⟩
      · (rintro ⟨r1, r2⟩ s' ⟨hr, rfl, _⟩)
        simp only at hr
        subst hr
        exact wpAny_pure q
theorem stmts_free : ∀ (ks : List NestedKey) (c : NestedKey), c ∈ ks → ∀ (v : Value) (n : Nat) (A : Around) (st : Shared) (E : Value → Shared → Prop) (Q : Bool → Shared → Prop), NestedIs st.heap c v → NestedKey.depthAll ks ≤ n → Q false st → wpAny (model P w) A (ofAClassStatement n v) Q E st
  | [], c, hc, _, _, _, _, _, _, _, _, _ => by cases hc
  | k :: ks, c, hc, v, n, A, st, E, Q, x, hn, q => by
    (simp only [NestedKey.depthAll] at hn)
    by_cases e : c = k
    · exact stmt_free k v n A st E Q (e ▸ x) (by omega) q
    · exact stmts_free ks c (by rcases List.mem_cons.mp hc with z | z; exact absurd z e; exact z) v n A st E Q x (by omega) q
end
mutual
theorem by_value : ∀ (c : NestedKey) (v : Value) (n : Nat) (A : Around) (st : Shared) (E : Value → Shared → Prop) (Q : Bool → Shared → Prop), NestedIs st.heap c v → c.depth ≤ n → bare c = true → Q true st → wpAny (model P w) A (hashByValue n v) Q E st
  | .none, v, n, A, st, E, Q, x, _, _, q => by cases x; cases n <;> exact wpAny_pure q
  | .num i, v, n, A, st, E, Q, x, _, _, q => by cases x <;> cases n <;> exact wpAny_pure q
  | .text t, v, n, A, st, E, Q, x, _, hb, q => by simp [bare] at hb
  | .tup ks, v, 0, A, st, E, Q, x, hn, _, q => by simp [NestedKey.depth] at hn
  | .tup ks, v, n + 1, A, st, E, Q, x, hn, hb, q => by
    cases x with
    | @tup b o vs m _ h1 h2 h3 h4 =>
      have hT : st.TypeIs (.ref b) "tuple" := ⟨o, h1, h2⟩
      unfold hashByValue; refine wpAny_bind (wpAny_specialOf hT F.slot_tuple_hash.lookup ?_)
      dsimp only
      refine wpAny_bind (wpAny_seqItems h1 h3 ?_)
      refine wpAny_bind ?_
      show wpAny _ _ (forIn vs _ _) _ _ st
      rw [← Array.forIn_toList]
      have hd : NestedKey.depthAll ks ≤ n := by simp only [NestedKey.depth] at hn; omega
      have hb' : bareAll ks = true := by simpa [bare] using hb
      refine wpAny_forIn_list _ (fun rest r s' => r.1 = none ∧ s' = st ∧ ∃ cs, NestedAll st.heap cs rest ∧ cs <:+ ks) _ ?_ ?_ _ _ ⟨rfl, rfl, ks, h4, List.suffix_refl ks⟩
      · rintro u rest r s' ⟨hr, rfl, cs, hall, suf⟩
        cases hall with
        | @cons c _ cs' _ g1 g2 =>
          have hc : c ∈ ks := suf.subset List.mem_cons_self
          refine wpAny_bind (by_values ks c hc u n A s' E _ g1 (by omega) hb' ?_); simp only [Bool.not_true, Bool.false_eq_true, if_false]
          exact wpAny_pure ⟨rfl, rfl, cs', g2, (List.suffix_cons c cs').trans suf⟩
      · (rintro ⟨r1, r2⟩ s' ⟨hr, rfl, _⟩)
        simp only at hr
        subst hr
        exact wpAny_pure q
theorem by_values : ∀ (ks : List NestedKey) (c : NestedKey), c ∈ ks → ∀ (v : Value) (n : Nat) (A : Around) (st : Shared) (E : Value → Shared → Prop) (Q : Bool → Shared → Prop), NestedIs st.heap c v → NestedKey.depthAll ks ≤ n → bareAll ks = true → Q true st → wpAny (model P w) A (hashByValue n v) Q E st
  | [], c, hc, _, _, _, _, _, _, _, _, _, _ => by cases hc
  | k :: ks, c, hc, v, n, A, st, E, Q, x, hn, hb, q => by
    simp only [NestedKey.depthAll] at hn; simp only [bareAll, Bool.and_eq_true] at hb
    by_cases e : c = k
    · exact by_value k v n A st E Q (e ▸ x) (by omega) hb.1 q
    · exact by_values ks c (by rcases List.mem_cons.mp hc with z | z; exact absurd z e; exact z) v n A st E Q x (by omega) hb.2 q
end
/-- the questions that a search asks of two elements tell nothing -/
theorem unseen {c : NestedKey} {b : Addr} (x : Elt st.heap c b) {ys : List Value} (hy : ∀ y ∈ ys, ∃ d q, y = Value.ref q ∧ Elt st.heap d q) {Q : Bool → Shared → Prop} (q : Q false st) : wpAny (model P w) A (searchCouldBeSeen (.ref b) ys) Q E st := by
  unfold searchCouldBeSeen
  refine wpAny_bind ?_
  refine wpAny_forIn_list _ (fun rest r s' => r.1 = none ∧ s' = st ∧ ∀ y ∈ rest, ∃ d q, y = Value.ref q ∧ Elt st.heap d q) _ ?_ ?_ _ _ ⟨rfl, rfl, hy⟩
  · rintro u rest r s' ⟨hr, rfl, all⟩
    obtain ⟨d, z, rfl, y⟩ := all u List.mem_cons_self
    have more : ∀ y ∈ rest, ∃ d q, y = Value.ref q ∧ Elt s'.heap d q := fun v hv => all v (List.mem_cons_of_mem _ hv)
    dsimp only
    by_cases same : (b == z || (carriedByValue (.ref b) && carriedByValue (.ref z))) = true
    · exact wp_if_pos same (wpAny_pure ⟨rfl, rfl, more⟩)
    · refine wp_if_neg same ?_
      refine wpAny_bind ((nestedKind P w).quiet ⟨x.is, x.dp⟩ ?_); simp only [Bool.not_true, Bool.false_eq_true, if_false]
      refine wpAny_bind ((nestedKind P w).quiet ⟨y.is, y.dp⟩ ?_); simp only [Bool.not_true, Bool.false_eq_true, if_false]
      refine wpAny_bind (stmt_free _ _ 8 _ _ _ _ x.is x.dp ?_); simp only [Bool.false_eq_true, if_false]
      refine wpAny_bind (stmt_free _ _ 8 _ _ _ _ y.is y.dp ?_); simp only [Bool.false_eq_true, if_false]
      exact wpAny_pure ⟨rfl, rfl, more⟩
  · (rintro ⟨r1, r2⟩ s' ⟨hr, rfl, _⟩)
    simp only at hr
    subst hr
    exact wpAny_pure q
end
end NS
/-! NS2: the search in such a set, adding to it. -/
namespace NS
open PySem PySem.Spec L2

abbrev El := Addr × NestedKey
abbrev hOf (w : World) (p : El) : Int := p.2.hash w
abbrev rowW (w : World) (p : El) : Int × Value := (p.2.hash w, Value.ref p.1)
/-- at a stands a set with the elements B, in the table's order -/
structure SetN (P : Program) (w : World) (hp : Heap) (a : Addr) (B : List El) (rows : Array (Int × Value)) (e0 : Nat) (tb : SetTable) : Prop where
  obj : ∃ o, hp.get? a = some o ∧ o.ExactSet ∧ o.data = .set rows e0 tb
  rws : rows.toList = B.map (rowW w)
  tab : TabOk tb (B.map (hOf w))
  uni : (B.map (·.2)).Nodup
  els : ∀ p ∈ B, Elt hp p.2 p.1
  pln : tb.plain = true
  ldd : w.params.followText "set-order" = true ∨ tb.led = true
  rom : B.length * 5 < tb.mask * 3
  few : B.length < 64
section
variable {P : Program} {w : World} {A : Around} {E : Value → Shared → Prop} {st : Shared} {a : Addr} {B : List El} {rows : Array (Int × Value)} {e0 : Nat} {tb : SetTable}
theorem SetN.count (Z : SetN P w st.heap a B rows e0 tb) : rows.size = B.length := by
  have q := congrArg List.length Z.rws
  simpa using q
theorem SetN.slots (Z : SetN P w st.heap a B rows e0 tb) : tb.place.toList.length = B.length := by
  have q := Z.tab.sz
  rw [List.length_map] at q
  rw [Array.length_toList]
  exact q
theorem SetN.inTable (Z : SetN P w st.heap a B rows e0 tb) : tb.fits rows.size = true := by
  have q1 := Z.slots
  rw [Array.length_toList] at q1
  have q2 := Z.count
  have q3 := Z.rom; unfold SetTable.fits SetTable.fill
  rw [Z.tab.dm, Bool.and_eq_true, beq_iff_eq, decide_eq_true_eq]
  exact ⟨by omega, by show tb.place.size + 0 ≤ tb.mask; omega⟩
theorem SetN.row (Z : SetN P w st.heap a B rows e0 tb) {i : Nat} {p : El} (q : B[i]? = some p) : rows[i]? = some (rowW w p) := by
  rw [← Array.getElem?_toList, Z.rws, List.getElem?_map, q]
  rfl
theorem SetN.still (Z : SetN P w st.heap a B rows e0 tb) : ¬ tb.gaveWay = true := by
  unfold SetTable.gaveWay
  rw [mask_odd Z.tab.mok]
  decide
/-- the c-th look of the search for a hash -/
abbrev look (tb : SetTable) (hc : Int) (c : Nat) : SetTable.Probe := nth tb.mask (runAt tb.mask (SetTable.bits hc % (tb.mask + 1)) (SetTable.bits hc)) c
theorem look_on (tb : SetTable) (hc : Int) (c q : Nat) : nth tb.mask (look tb hc c) q = look tb hc (c + q) := (nth_add tb.mask c _ q).symm
theorem look_clean (tb : SetTable) (hc : Int) (c : Nat) : (look tb hc c).dummy = none := by
  have gen : ∀ (n : Nat) (p : SetTable.Probe), p.dummy = none → (nth tb.mask p n).dummy = none := by
    intro n
    induction n with
    | zero => exact fun _ e => e
    | succ n ih =>
      intro p e
      refine ih (adv tb.mask p) ?_
      unfold adv
      split <;> exact e
  exact gen c _ rfl
/-- from the c-th look on; K: the first empty slot on the way -/
theorem seek (Z : SetN P w st.heap a B rows e0 tb) {b : Addr} {k : NestedKey} (x : Elt st.heap k b) (hu : A.units + 8 < cLine) {adding : Bool} {K : Nat} (hKf : K < 10 * SetTable.turns tb.mask)
    (hK : way tb.mask (k.hash w) K ∉ tb.place.toList) (hKb : ∀ c, c < K → way tb.mask (k.hash w) c ∈ tb.place.toList) {Q : SetFound → Shared → Prop}
    (yes : ∀ r : Option Nat, (adding = true ∨ r.isSome = true) → k ∈ B.map (·.2) → Q (.there r) st) (no : k ∉ B.map (·.2) → Q (.free (way tb.mask (k.hash w) K) false) st) :
    ∀ (fuel c : Nat) (stand : Option SetTable.Probe), stand.getD (tb.probeStart (k.hash w)) = look tb (k.hash w) c → c ≤ K → K - c < fuel →
      (∀ (i : Nat) (p : El), B[i]? = some p → p.2 = k → ∃ c', c ≤ c' ∧ c' < K ∧ tb.place.toList[i]? = some (way tb.mask (k.hash w) c')) →
      wpAny (model P w) A (setSearchFrom a (.ref b) (k.hash w) adding fuel stand) Q E st
  | 0, c, stand, _, _, hf, _ => (absurd hf (Nat.not_lt_zero _))
  | fuel + 1, c, stand, hst, hc, hf, ahead => by
    obtain ⟨o, ho, hex, hd⟩ := Z.obj
    rw [setSearchFrom_succ]
    refine wpAny_bind (wpAny_setState_of ho hd Z.inTable ?_)
    dsimp only
    refine wp_if_neg Z.still ?_
    try (refine wpAny_bind (wpAny_pure ?_))
    have place : ∀ q, (nth tb.mask (look tb (k.hash w) c) q).j = way tb.mask (k.hash w) (c + q) := fun q => congrArg SetTable.Probe.j (look_on tb (k.hash w) c q)
    have rowHash : ∀ (i : Nat) (p : El), B[i]? = some p → (fun i => (rows[i]?.map (·.1)).getD 0) i = p.2.hash w := fun i p hp => by
      show (rows[i]?.map (·.1)).getD 0 = _
      rw [Z.row hp]
      rfl
    have met := go_spec tb Z.tab.ris Z.tab.dm (fun i => (rows[i]?.map (·.1)).getD 0) (k.hash w) (10 * SetTable.turns tb.mask) (K - c) (look tb (k.hash w) c) (look_clean tb _ c) (by omega)
      (fun q hq => by rw [place]; exact hKb (c + q) (by omega)) (by rw [place, show c + (K - c) = K by omega]; exact hK)
    rcases met with ⟨q, i, hq, hi, hh, before, found⟩ | ⟨before, found⟩
    · -- a row with this hash
      have found' : tb.probe (fun i => (rows[i]?.map (·.1)).getD 0) (k.hash w) (stand.getD (tb.probeStart (k.hash w))) = some (.candidate (way tb.mask (k.hash w) (c + q)) i (look tb (k.hash w) (c + (q + 1)))) := by
        rw [hst, ← place, ← look_on]
        exact found
      rw [found']
      dsimp only
      rw [place] at hi
      have hiB : i < B.length := by rw [← Z.slots]; exact (List.getElem?_eq_some_iff.mp hi).1
      obtain ⟨p, hp⟩ : ∃ p, B[i]? = some p := ⟨B[i], List.getElem?_eq_getElem hiB⟩
      have hpB : p ∈ B := List.mem_of_getElem? hp
      have y := Z.els p hpB
      have live : tb.slot (way tb.mask (k.hash w) (c + q)) = .live i := slot_live Z.tab.ris hi
      have rest : wpAny (model P w) A (searchRest a (.ref b) (k.hash w) adding fuel rows tb (way tb.mask (k.hash w) (c + q)) i (look tb (k.hash w) (c + (q + 1)))) Q E st := by
        unfold searchRest
        rw [Z.row hp]
        dsimp only
        refine wpAny_bind (wpAny_holding ((nestedKind P w).eqBool (show A.units + 8 < cLine from hu) ⟨y.is, y.dp⟩ ⟨x.is, x.dp⟩ ?_))
        refine wpAny_bind (wpAny_setState_of ho hd Z.inTable ?_)
        dsimp only
        by_cases same : p.2 = k
        · have inB : k ∈ B.map (·.2) := List.mem_map.mpr ⟨p, hpB, same⟩
          rw [decide_eq_true same]
          cases adding with
          | true =>
            refine wp_if_pos rfl ?_
            exact wpAny_pure (yes none (.inl rfl) inB)
          | false =>
            refine wp_if_neg (by decide) ?_
            try (refine wpAny_bind (wpAny_pure ?_))
            rw [sameMem]
            dsimp only
            simp only [if_true, live, Z.row hp]; refine wpAny_bind (wpAny_isSame_ref_self (wpAny_bind (wpAny_pure ?_)))
            simp only [if_true]
            exact wpAny_pure (yes (some i) (.inr rfl) inB)
        · rw [decide_eq_false same]
          refine wp_if_neg (by simp) ?_
          try (refine wpAny_bind (wpAny_pure ?_))
          rw [sameMem]
          dsimp only
          simp only [if_true, live, Z.row hp]; refine wpAny_bind (wpAny_isSame_ref_self (wpAny_bind (wpAny_pure ?_)))
          simp only [if_true]
          refine wp_if_neg (by decide) ?_
          refine seek Z x hu hKf hK hKb yes no fuel (c + (q + 1)) (some _) rfl (by omega) (by omega) fun i1 p1 h1 e1 => ?_
          obtain ⟨c', g1, g2, g3⟩ := ahead i1 p1 h1 e1
          refine ⟨c', ?_, g2, g3⟩
          -- none with this key lies behind
          rcases Nat.lt_trichotomy c' (c + q) with z | z | z
          · refine absurd ((rowHash i1 p1 h1).trans (congrArg (·.hash w) e1)) (before (c' - c) i1 (by omega) ?_)
            rw [place, show c + (c' - c) = c' by omega]
            exact g3
          · rw [z] at g3
            have live1 := slot_live Z.tab.ris g3
            rw [live] at live1
            injection live1 with ei
            rw [← ei, hp] at h1
            exact absurd ((congrArg Prod.snd (Option.some.inj h1)).trans e1) same
          · omega
      by_cases hl : tb.led = true
      · (refine wp_if_neg (by simp [hl]) ?_)
        try (refine wpAny_bind (wpAny_pure ?_))
        exact rest
      · (refine wp_if_pos (by simp [hl]) ?_)
        refine wpAny_bind (unseen x (fun u hu' => ?_) ?_)
        · obtain ⟨r, hr, er⟩ := List.mem_map.mp hu'
          have hr1 : r ∈ rows ∧ r.1 = k.hash w := by simpa using hr
          have hr2 : r ∈ rows.toList := by simpa using hr1.1
          rw [Z.rws] at hr2
          obtain ⟨p2, hp2, e2⟩ := List.mem_map.mp hr2
          exact ⟨p2.2, p2.1, by rw [← er, ← e2], Z.els p2 hp2⟩
        · (refine wp_if_neg (by decide) ?_)
          try (refine wpAny_bind (wpAny_pure ?_))
          exact rest
    · -- an empty slot
      have found' : tb.probe (fun i => (rows[i]?.map (·.1)).getD 0) (k.hash w) (stand.getD (tb.probeStart (k.hash w))) = some (.empty (way tb.mask (k.hash w) K) none) := by
        have e2 : way tb.mask (k.hash w) K = (nth tb.mask (look tb (k.hash w) c) (K - c)).j := by rw [place, show c + (K - c) = K by omega]
        rw [hst, e2]
        exact found
      rw [found']
      dsimp only
      refine wpAny_pure (no fun hm => ?_)
      obtain ⟨p, hpB, ep⟩ := List.mem_map.mp hm
      obtain ⟨i, hi, ei⟩ := List.getElem_of_mem hpB
      have hp : B[i]? = some p := by rw [List.getElem?_eq_getElem hi, ei]
      obtain ⟨c', g1, g2, g3⟩ := ahead i p hp ep
      refine absurd ((rowHash i p hp).trans (congrArg (·.hash w) ep)) (before (c' - c) i (by omega) ?_)
      rw [place, show c + (c' - c) = c' by omega]
      exact g3
/-- the search as the set's own functions ask for it -/
theorem sought (Z : SetN P w st.heap a B rows e0 tb) {b : Addr} {k : NestedKey} (x : Elt st.heap k b) (hu : A.units + 8 < cLine) {adding : Bool} {Q : SetFound → Shared → Prop}
    (yes : ∀ r : Option Nat, (adding = true ∨ r.isSome = true) → k ∈ B.map (·.2) → Q (.there r) st)
    (no : ∀ K, k ∉ B.map (·.2) → way tb.mask (k.hash w) K ∉ tb.place.toList → (∀ c, c < K → way tb.mask (k.hash w) c ∈ tb.place.toList) → Q (.free (way tb.mask (k.hash w) K) false) st) :
    wpAny (model P w) A (setSearch a (.ref b) (k.hash w) adding) Q E st := by
  have hr := Z.rom
  obtain ⟨K, hKf, hK, hKb⟩ := Z.tab.first (by rw [List.length_map]; omega) (k.hash w)
  have small : 10 * SetTable.turns tb.mask ≤ 1420 := by
    unfold SetTable.turns
    rcases Z.tab.mok with e | e | e <;> omega
  unfold setSearch
  refine seek Z x hu hKf hK hKb yes (fun hn => no K hn hK hKb) 100000 0 none rfl (Nat.zero_le _) (by omega) fun i p hp ep => ?_
  have e1 : (B.map (hOf w))[i]? = some (k.hash w) := by
    rw [List.getElem?_map, hp, ← ep]
    rfl
  have hi : i < tb.place.toList.length := by rw [Z.slots]; exact (List.getElem?_eq_some_iff.mp hp).1
  have hj := List.getElem?_eq_getElem hi
  obtain ⟨c, hc, e⟩ := Z.tab.before hK e1 hj; exact ⟨c, Nat.zero_le _, hc, by rw [hj, e]⟩
end
end NS
/-! NS3: adding, laying anew, set(list). -/
namespace NS
open PySem PySem.Spec L2
section
variable {P : Program} {w : World} {A : Around} {E : Value → Shared → Prop} {st : Shared} {a : Addr} {B : List El} {rows : Array (Int × Value)} {e0 : Nat} {tb : SetTable}
/-- rows picked by an order that is a permutation of all places -/
theorem picked (B : List El) (rows : Array (Int × Value)) (ord : Array Nat) (hr : rows.toList = B.map (rowW w)) (hp : ord.toList.Perm (List.range B.length)) :
    ∃ B2 : List El, (ord.filterMap (rows[·]?)).toList = B2.map (rowW w) ∧ B2.Perm B ∧ B2.map (hOf w) = ord.toList.map fun i => (rows.map (·.1)).getD i 0 := by
  have at_ : ∀ i, rows[i]? = (B[i]?).map (rowW w) := fun i => by rw [← Array.getElem?_toList, hr, List.getElem?_map]
  have part : ∀ l : List Nat, (∀ i ∈ l, i < B.length) → l.filterMap (fun i => rows[i]?) = (l.filterMap fun i => B[i]?).map (rowW w) ∧ (l.filterMap fun i => B[i]?).map (hOf w) = l.map fun i => (rows.map (·.1)).getD i 0 := by
    intro l
    induction l with
    | nil => exact fun _ => ⟨rfl, rfl⟩
    | cons i l ih =>
      intro all
      obtain ⟨g1, g2⟩ := ih fun j hj => all j (List.mem_cons_of_mem _ hj)
      obtain ⟨p, hi⟩ : ∃ p, B[i]? = some p := ⟨_, List.getElem?_eq_getElem (all i List.mem_cons_self)⟩
      have hri : rows[i]? = some (rowW w p) := by rw [at_, hi]; rfl
      have h0 : (rows.map (·.1)).getD i 0 = hOf w p := by
        have q : (rows.map (·.1))[i]? = some (hOf w p) := by rw [Array.getElem?_map, hri]; rfl
        simp [Array.getD_eq_getD_getElem?, q]
      exact ⟨by rw [List.filterMap_cons_some hri, List.filterMap_cons_some hi, g1, List.map_cons], by rw [List.filterMap_cons_some hi, List.map_cons, List.map_cons, g2, h0]⟩
  have whole : ∀ n, n ≤ B.length → (List.range n).filterMap (fun i => B[i]?) = B.take n := by
    intro n
    induction n with
    | zero => exact fun _ => by simp
    | succ n ih =>
      intro hn
      rw [List.range_succ, List.filterMap_append, ih (Nat.le_of_lt hn), List.take_succ]
      simp only [List.filterMap_cons, List.filterMap_nil]
      cases B[n]? <;> rfl
  obtain ⟨g1, g2⟩ := part ord.toList fun i hi => List.mem_range.mp (hp.mem_iff.mp hi)
  refine ⟨_, by first | (rw [Array.toList_filterMap]; exact g1) | simpa using g1, ?_, g2⟩
  have q := hp.filterMap (fun i => B[i]?)
  rwa [whole B.length (Nat.le_refl _), List.take_length] at q
/-- what stands in the set where its table is laid anew -/
structure Loose (P : Program) (w : World) (hp : Heap) (a : Addr) (B : List El) (rows : Array (Int × Value)) (e0 : Nat) (tb : SetTable) : Prop where
  obj : ∃ o, hp.get? a = some o ∧ o.ExactSet ∧ o.data = .set rows e0 tb
  rws : rows.toList = B.map (rowW w)
  siz : tb.place.size = rows.size
  dum : tb.dummies = #[]
  low : rows.size ≤ tb.mask
  uni : (B.map (·.2)).Nodup
  els : ∀ p ∈ B, Elt hp p.2 p.1
  pln : tb.plain = true
  ldd : w.params.followText "set-order" = true ∨ tb.led = true
  few : B.length < 64
theorem relaid_at (Z : Loose P w st.heap a B rows e0 tb) {wanted N : Nat} (hw : SetTable.sizeAbove wanted - 1 = N) (hN : MaskOk N) (hw2 : SetTable.sizeAbove wanted ≤ 128) (hn : B.length * 5 < N * 3) {Q : Unit → Shared → Prop}
    (hQ : ∀ h' B' rows' e' tb', Heap.SameBut a st.heap h' → SetN P w h' a B' rows' e' tb' → B'.Perm B → Q () { st with heap := h' }) : wpAny (model P w) A (setRelay a wanted) Q E st := by
  obtain ⟨o, ho, hex, hd⟩ := Z.obj
  have cnt : rows.size = B.length := by simpa using congrArg List.length Z.rws
  have fits : tb.fits rows.size = true := by
    have q1 := Z.siz
    have q2 := Z.low; unfold SetTable.fits SetTable.fill
    rw [Z.dum, Bool.and_eq_true, beq_iff_eq, decide_eq_true_eq]
    exact ⟨q1, by show tb.place.size + 0 ≤ tb.mask; omega⟩
  obtain ⟨tb', ord, laid, perm, T, em, el, ep', ed⟩ := relaid_ok tb (hs := rows.map (·.1)) (wanted := wanted) hw hN (by rw [Array.size_map, cnt]; omega)
  rw [Array.size_map, cnt] at perm
  obtain ⟨B2, g1, g2, g3⟩ := picked (w := w) B rows ord Z.rws perm
  rw [← g3] at T
  have cnt2 : (ord.filterMap (rows[·]?)).size = rows.size := by
    have q := congrArg List.length g1
    rw [Array.length_toList, List.length_map, g2.length_eq] at q
    omega
  rw [setRelay_eq]
  refine wpAny_bind (wpAny_setState_of ho hd fits ?_)
  dsimp only; refine wp_if_neg (by rw [sizeLine_eq]; omega) ?_
  try (refine wpAny_bind (wpAny_pure ?_))
  rw [laid]
  dsimp only
  refine wpAny_bind ?_
  refine wp_if_neg (by rw [cnt2]; simp) ?_
  try (refine wpAny_bind (wpAny_pure ?_))
  refine wpAny_pure ?_
  dsimp only
  have hf := Z.few
  refine wpAny_storeSet_of ho hd ?_ (by rw [cnt2, cnt, sizeLine_eq]; omega)
  have sb : Heap.SameBut a st.heap (st.heap.update a (Obj.putSet (ord.filterMap (rows[·]?)) tb')) := Heap.SameBut.update ..
  refine hQ _ B2 (ord.filterMap (rows[·]?)) (e0 + 1) tb' sb ?_ g2
  exact { obj := ⟨_, store_at ho hd, ⟨hex.1, hex.2.1, hex.2.2⟩, rfl⟩, rws := g1, tab := T, uni := (g2.map (·.2)).nodup_iff.mpr Z.uni,
          els := fun p hpm => (Z.els p (g2.mem_iff.mp hpm)).beside ho hd sb, pln := by rw [ep']; exact Z.pln, ldd := by rw [el]; exact Z.ldd, rom := by rw [g2.length_eq, em]; exact hn, few := by rw [g2.length_eq]; exact hf }
/-- an element is put in, where it isn't yet -/
theorem added (Z : SetN P w st.heap a B rows e0 tb) {b : Addr} {k : NestedKey} (x : Elt st.heap k b) (hu : A.units + 8 < cLine) (room : B.length + 1 < 64) {Q : Bool → Shared → Prop}
    (hQ : ∀ r h' B' rows' e' tb', Heap.SameBut a st.heap h' → SetN P w h' a B' rows' e' tb' → (k ∈ B.map (·.2) → B' = B) → (k ∉ B.map (·.2) → B'.Perm ((b, k) :: B)) → Q r { st with heap := h' }) :
    wpAny (model P w) A (setAddHashed a (.ref b) (k.hash w)) Q E st := by
  obtain ⟨o, ho, hex, hd⟩ := Z.obj
  have cnt := Z.count
  have hroom := Z.rom
  unfold setAddHashed
  refine wpAny_holding ?_; rw [show (100000 : Nat) = 99999 + 1 from rfl, setAddHashedIn_succ]
  refine wpAny_bind (wpAny_setState_of ho hd Z.inTable ?_)
  dsimp only; refine wp_if_neg (by simp [byScan, Value.scannable]) ?_
  try (refine wpAny_bind (wpAny_pure ?_))
  refine wpAny_bind (sought Z x hu (fun r _ hm => ?_) fun K hm hK hKb => ?_)
  · dsimp only
    exact wpAny_pure (hQ false st.heap B rows e0 tb (Heap.SameBut.refl a st.heap) Z (fun _ => rfl) fun z => absurd hm z)
  · dsimp only
    refine wpAny_bind (wpAny_setState_of ho hd Z.inTable ?_)
    dsimp only
    obtain ⟨t1, t2, t3, t4, t5, t6, t7, t8, t9⟩ := Z.tab.put hK hKb
    have pl1 : (tb.put (way tb.mask (k.hash w) K)).1.plain = true := by rw [t6]; exact Z.pln
    generalize epb : tb.put (way tb.mask (k.hash w) K) = pb at t1 t3 t4 t5 t6 t7 t8 t9 pl1 ⊢
    obtain ⟨tb1, j⟩ := pb
    dsimp only at t1 t3 t4 t5 t6 t7 t8 t9 pl1 ⊢
    subst t1
    first
      | (refine wpAny_bind ?_; refine wp_if_pos pl1 ?_; refine by_value _ _ 8 _ _ _ _ x.is x.dp x.br ?_)
      | refine wp_if_pos pl1 (wpAny_bind (by_value _ _ 8 _ _ _ _ x.is x.dp x.br ?_))
    simp only [if_true]
    generalize ej : SetTable.below tb.place (way tb.mask (k.hash w) K) = j at t2 t3 ⊢
    -- the elements, the new one among them
    obtain ⟨B1, eB1⟩ : ∃ B1 : List El, B1 = B.take j ++ (b, k) :: B.drop j := ⟨_, rfl⟩
    have pm : B1.Perm ((b, k) :: B) := by
      rw [eB1]
      have q : (B.take j ++ (b, k) :: B.drop j).Perm ((b, k) :: (B.take j ++ B.drop j)) := List.perm_middle
      rwa [List.take_append_drop] at q
    have len1 : B1.length = B.length + 1 := by simpa using pm.length_eq
    have rws1 : (SetTable.insertAt rows j (k.hash w, Value.ref b)).toList = B1.map (rowW w) := by
      rw [SetTable.toList_insertAt, Z.rws, eB1, List.map_append, List.map_cons, List.map_take, List.map_drop]
    have tab1 : TabOk tb1 (B1.map (hOf w)) := by
      rw [eB1, List.map_append, List.map_cons, List.map_take, List.map_drop]
      exact t3
    have uni1 : (B1.map (·.2)).Nodup := by
      refine (pm.map (·.2)).nodup_iff.mpr ?_; rw [List.map_cons]
      exact List.nodup_cons.mpr ⟨hm, Z.uni⟩
    have cnt1 : (SetTable.insertAt rows j (k.hash w, Value.ref b)).size = B.length + 1 := by
      have q := congrArg List.length rws1; rw [Array.length_toList, List.length_map] at q
      omega
    generalize SetTable.insertAt rows j (k.hash w, Value.ref b) = rows1 at rws1 cnt1 ⊢
    refine wpAny_bind (wpAny_storeSet_of ho hd ?_ (by rw [cnt1, sizeLine_eq]; omega))
    have sb : Heap.SameBut a st.heap (st.heap.update a (Obj.putSet rows1 tb1)) := Heap.SameBut.update ..
    have ho1 := store_at (es' := rows1) (t' := tb1) ho hd
    generalize st.heap.update a (Obj.putSet rows1 tb1) = h1 at sb ho1 ⊢
    have els1 : ∀ p ∈ B1, Elt h1 p.2 p.1 := fun p hp => by
      rcases List.mem_cons.mp (pm.mem_iff.mp hp) with z | z
      · rw [z]; exact x.beside ho hd sb
      · exact (Z.els p z).beside ho hd sb
    have ldd1 : w.params.followText "set-order" = true ∨ tb1.led = true := by rw [t5]; exact Z.ldd
    have siz1 : tb1.place.size = rows1.size := by
      have q := tab1.sz
      rw [List.length_map, len1] at q
      omega
    by_cases full : tb1.tooFull = true
    · first
        | (refine wpAny_bind ?_; refine wp_if_pos (by simp [full]) ?_)
        | (refine wp_if_pos (by simp [full]) ?_; refine wpAny_bind ?_)
      have many : (B.length + 1) * 5 ≥ tb1.mask * 3 := by
        have q := full
        unfold SetTable.tooFull at q
        rwa [decide_eq_true_eq, t9, List.length_map] at q
      rw [cnt]
      have anew : ∀ N, SetTable.sizeAbove (SetTable.grown (B.length + 1)) - 1 = N → MaskOk N → SetTable.sizeAbove (SetTable.grown (B.length + 1)) ≤ 128 → (B.length + 1) * 5 < N * 3 →
          wpAny (model P w) A (setRelay a (SetTable.grown (B.length + 1))) (fun _ s' => wpAny (model P w) A (pure true) Q E s') E { st with heap := h1 } := fun N w1 w2 w3 w4 => by
        refine relaid_at (st := { st with heap := h1 }) (B := B1) (rows := rows1) (tb := tb1) ⟨⟨_, ho1, ⟨hex.1, hex.2.1, hex.2.2⟩, rfl⟩, rws1, siz1, tab1.dm, ?_, uni1, els1, pl1, ldd1, by omega⟩ w1 w2 w3 (by rw [len1]; exact w4) ?_
        · rw [cnt1, t4]
          omega
        · exact fun h2 B2 rows2 e2 tb2 sb2 Z2 pm2 => wpAny_pure (hQ true h2 B2 rows2 e2 tb2 (sb.trans sb2) Z2 (fun z => absurd z hm) fun _ => pm2.trans pm)
      rcases Z.tab.mok with e | e | e
      · have e2 : B.length = 4 := by rw [t4, e] at many; rw [e] at hroom; omega
        exact anew 31 (by rw [e2, size_20]) (.inr (.inl rfl)) (by rw [e2, size_20]; decide) (by omega)
      · have e2 : B.length = 18 := by rw [t4, e] at many; rw [e] at hroom; omega
        exact anew 127 (by rw [e2, size_76]) (.inr (.inr rfl)) (by rw [e2, size_76]; decide) (by omega)
      · exfalso
        rw [t4, e] at many
        omega
    · first
        | refine wp_if_neg (by simp [full]) ?_
        | (refine wpAny_bind ?_; refine wp_if_neg (by simp [full]) ?_; refine wpAny_pure ?_)
      refine wpAny_pure (hQ true h1 B1 rows1 (e0 + 1) tb1 sb { obj := ⟨_, ho1, ⟨hex.1, hex.2.1, hex.2.2⟩, rfl⟩, rws := rws1, tab := tab1, uni := uni1, els := els1, pln := pl1, ldd := ldd1, rom := ?_, few := by omega } (fun z => absurd z hm) fun _ => pm)
      have q := full
      unfold SetTable.tooFull at q
      rw [decide_eq_true_eq, t9, List.length_map] at q
      rw [len1]
      omega
end
end NS
/-! NS4: set(list), set(tuple). -/
namespace NS
open L2 PyProof.Rows PySem PySem.Spec
section
variable {P : Program} {w : World} {A : Around} {E : Value → Shared → Prop} {st : Shared}
theorem SetN.at {h h' : Heap} {a : Addr} {B : List El} {rows : Array (Int × Value)} {e0 : Nat} {tb : SetTable} (Z : SetN P w h a B rows e0 tb) (ha : ∀ o, h.get? a = some o → h'.get? a = some o) (he : ∀ p ∈ B, Elt h' p.2 p.1) : SetN P w h' a B rows e0 tb := by
  obtain ⟨o, ho, r⟩ := Z.obj
  exact ⟨⟨o, ha o ho, r⟩, Z.rws, Z.tab, Z.uni, he, Z.pln, Z.ldd, Z.rom, Z.few⟩
abbrev emptySet (w : World) : Obj := { cls := .type "set", dict := none, data := .set #[] 0 (.fresh 0 0 (!w.params.followText "set-order")) }
theorem setN_new {h : Heap} {a : Addr} (ho : h.get? a = some (emptySet w)) : SetN P w h a [] #[] 0 (.fresh 0 0 (!w.params.followText "set-order")) where
  obj := ⟨_, ho, ⟨rfl, rfl, rfl⟩, rfl⟩
  rws := rfl
  tab := (⟨List.Pairwise.nil, rfl, rfl, .inl rfl, fun x hx => (by cases hx), fun i h j hi => (by simp at hi)⟩)
  uni := List.nodup_nil
  els := fun p hp => (by cases hp)
  pln := rfl
  ldd := by
    show _ ∨ (!w.params.followText "set-order") = true; cases w.params.followText "set-order"
    · exact .inr rfl
    · exact .inl rfl
  rom := by
    show 0 * 5 < 7 * 3
    decide
  few := by
    show 0 < 64
    decide
/-- what has come in from the first i of ks -/
structure In (ks : List El) (i : Nat) (B : List El) : Prop where
  of : ∀ p ∈ B, p ∈ ks.take i
  has : ∀ p ∈ ks.take i, p.2 ∈ B.map (·.2)
  len : B.length ≤ i
theorem take_more {α : Type} {l : List α} {i : Nat} {x : α} (h : l[i]? = some x) : l.take (i + 1) = l.take i ++ [x] := by
  rw [List.take_succ, h]
  rfl
theorem In.next {ks B B' : List El} {i : Nat} {x : El} (g : In ks i B) (h : ks[i]? = some x) (c1 : x.2 ∈ B.map (·.2) → B' = B) (c2 : x.2 ∉ B.map (·.2) → B'.Perm (x :: B)) : In ks (i + 1) B' := by
  have e := take_more h
  by_cases c : x.2 ∈ B.map (·.2)
  · rw [c1 c]
    (refine ⟨fun p hp => ?_, fun p hp => ?_, Nat.le_succ_of_le g.len⟩)
    · rw [e]; exact List.mem_append_left _ (g.of p hp)
    · rw [e] at hp
      rcases (List.mem_append.mp hp) with z | z
      · exact g.has p z
      · rw [List.mem_singleton.mp z]; exact c
  · have pm := c2 c
    (refine ⟨fun p hp => ?_, fun p hp => ?_, ?_⟩)
    · rw [e]
      rcases List.mem_cons.mp (pm.mem_iff.mp hp) with z | z
      · rw [z]; simp
      · exact List.mem_append_left _ (g.of p z)
    · rw [e] at hp
      refine (pm.map (·.2)).mem_iff.mpr ?_
      rw [List.map_cons]; rcases List.mem_append.mp hp with z | z
      · exact List.mem_cons_of_mem _ (g.has p z)
      · (rw [List.mem_singleton.mp z]; exact List.mem_cons_self)
    · rw [pm.length_eq]
      exact Nat.succ_le_succ g.len
/-- the loop of set.update, over any walk -/
theorem updated {I : Addr} {fp wr : List Addr} {G : Array GenState → Array GenState → Prop} {n : Nat} {Pv : Nat → Value → Prop} {St : Nat → Shared → Prop} {R : Result → Shared → Prop}
    (W : WalksS P w A.in1 I fp wr G n Pv St) (S : Addr) (hSf : S ∉ fp) (ks : List El) (hn : n = ks.length) (few : ks.length < 64) (val : ∀ i v, Pv i v → ∃ p, ks[i]? = some p ∧ v = .ref p.1)
    (h0 : Heap) (hk : ∀ p ∈ ks, Elt h0 p.2 p.1) (hS0 : h0.get? S = none) (hw0 : ∀ b ∈ wr, h0.get? b = none) (hu : A.in1.units + 8 < cLine) :
    ∀ (m i : Nat) (s : Shared), n - i = m → i ≤ n → St i s → (∀ b o, h0.get? b = some o → s.heap.get? b = some o) → (∃ B rows e0 tb, SetN P w s.heap S B rows e0 tb ∧ In ks i B) →
      (∀ s' B rows e0 tb, Moved (S :: wr) G s s' → SetN P w s'.heap S B rows e0 tb → In ks n B → (∀ b o, h0.get? b = some o → s'.heap.get? b = some o) → R (.ok (.ret .none)) s') → codeAny (model P w) A (.builtin "set.update.loop" ⟨[.ref S, .ref I], []⟩) R s := by
  have notW : S ∉ wr := fun z => hSf (W.sub _ z)
  have wider : ∀ b ∈ wr, b ∈ S :: wr := fun b hb => List.mem_cons_of_mem _ hb
  have stays : ∀ {s s' : Shared}, Moved wr G s s' → (∀ b o, h0.get? b = some o → s.heap.get? b = some o) → ∀ b o, h0.get? b = some o → s'.heap.get? b = some o := fun hm k0 b o e =>
    hm.heap b o (fun z => by rw [hw0 b z] at e; cases e) (k0 b o e)
  intro m
  induction m with
  | zero =>
    intro i s hm' hi at_i k0 ⟨B, rows, e0, tb, Z, g⟩ fin
    obtain rfl : i = n := by omega
    refine codeAny_builtin F.entry_set_update_loop ?_; rw [Around.under_plainId F.plain_set_update_loop _]
    refine wpAny_bind (W.done s _ _ at_i fun s' mv => ?_)
    have k1 := stays mv k0
    exact wpAny_pure (fin s' B rows e0 tb (mv.mono wider) (Z.at (fun o e => mv.heap S o notW e) fun p hp => (hk p (List.mem_of_mem_take (g.of p hp))).keep k1) g k1)
  | succ m ih =>
    intro i s hm' hi at_i k0 ⟨B, rows, e0, tb, Z, g⟩ fin
    have lt : i < n := by omega
    refine codeAny_builtin F.entry_set_update_loop ?_; rw [Around.under_plainId F.plain_set_update_loop _]
    refine wpAny_bind (W.item i s _ _ lt at_i fun v s' hv at_n mv => ?_)
    obtain ⟨p, hp, rfl⟩ := val i v hv
    have k1 := stays mv k0
    have Z1 : SetN P w s'.heap S B rows e0 tb := Z.at (fun o e => mv.heap S o notW e) fun q hq => (hk q (List.mem_of_mem_take (g.of q hq))).keep k1
    have x : Elt s'.heap p.2 p.1 := (hk p (List.mem_of_getElem? hp)).keep k1; show wpAny _ A.in1 (holding [Value.ref p.1] (setAdd S (.ref p.1)) >>= _) _ _ s'; refine wpAny_bind (wpAny_holding ?_)
    unfold setAdd
    refine wpAny_holding ?_
    refine wpAny_bind ((nestedKind P w).pyHash (show A.in1.units + 8 < cLine from hu) ⟨x.is, x.dp⟩ ?_)
    refine added (st := { s' with toks := s'.toks + (nestedKind P w).draws p.2 }) Z1 x hu (by have := g.len; omega) fun r h' B' rows' e' tb' sb Z2 c1 c2 => ?_
    have k2 : ∀ b o, h0.get? b = some o → h'.get? b = some o := fun b o e => (sb.2 b (fun z => by rw [z, hS0] at e; cases e)).trans (k1 b o e)
    refine wpAny_pure ⟨plainId_quiet F.plain_set_update_loop _, ih (i + 1) _ (by omega) lt (W.frame _ s' _ _ at_n (Nat.le_add_right _ _) fun b hb o e => ?_) k2 ⟨B', rows', e', tb', Z2, g.next hp c1 c2⟩ fun s2 B2 rows2 e2 tb2 mv2 Z3 g3 k3 => ?_⟩
    · rw [sb.2 b (fun z : b = S => hSf (by rw [← z]; exact hb))]
      exact e
    · refine fin s2 B2 rows2 e2 tb2 (Moved.trans W.gtrans ((mv.mono wider).then_heap (Nat.le_add_right _ _) fun b o hb e => ?_) mv2) Z3 g3 k3
      rw [sb.2 b (fun z : b = S => hb (by rw [z]; exact List.mem_cons_self))]
      exact e
end
end NS
/-! NS5: set(x). -/
namespace NS
open L2 PyProof.Rows PySem PySem.Spec
section
variable {P : Program} {w : World} {A : Around} {E : Value → Shared → Prop} {st : Shared}

set_option maxHeartbeats 3200007 in
/-- set(x), x a list -/
theorem set_of_list {l : Addr} {items : Array Value} (ks : List El) {Q : Value → Shared → Prop} (hh : A.handled = none) (hl : st.heap.IsList l items) (hit : items.toList = ks.map fun p => Value.ref p.1)
    (hk : ∀ p ∈ ks, Elt st.heap p.2 p.1) (few : ks.length < 64) (hu : A.units + 11 < cLine)
    (fin : ∀ (h' : Heap) (tk : Nat) B rows e0 tb, SetN P w h' st.heap.objs.size B rows e0 tb → In ks ks.length B → (∀ b o, st.heap.get? b = some o → h'.get? b = some o) → Q (.ref st.heap.objs.size) { st with heap := h', toks := tk }) :
    wpAny (model P w) A (call (.type "set") [.ref l]) Q E st := by
  have cnt : items.size = ks.length := by simpa using congrArg List.length hit
  obtain ⟨c0, tl0, mro0⟩ := F.called_set.mro
  have f_made := F.called_set.made
  have f_sub := F.called_set.sub
  have f_not := F.called_set.notType
  have f_can := F.called_set.canCreate
  have f_call := F.typeCall_set_1 (.ref l); refine wpAny_call (codeAny_of_tree ?_)
  show wpAny _ _ (callAny (.type "set") _) _ _ _; refine wpAny_pure ⟨Code.quiet_builtin _ (by decide +kernel), codeAny_builtin F.entry_type_call ?_⟩; rw [Around.under_plain (weight_type_call_type "set" [.ref l] []) rfl]; repeat (any_goals (first | assumption | wp_step))
  -- the new set
  have laid : (st.heap.push (emptySet w)).get? st.heap.objs.size = some (emptySet w) := Heap.get?_push_size _ rfl
  refine codeAny_mono (code_set_led1 (.ref l) (E := E) (Q₁ := fun u s1 => u = .ref st.heap.objs.size ∧ s1 = { st with heap := st.heap.push (emptySet w) }) ⟨rfl, rfl⟩) fun r s1 hr => ?_
  match r, hr with
  | .error e, hr => exact hr
  | .ok (.ret u), hr =>
    obtain ⟨rfl, rfl⟩ := hr
    have isSet : Shared.TypeIs { st with heap := st.heap.push (emptySet w) } (.ref st.heap.objs.size) "set" := ⟨_, laid, rfl⟩
    have f_il := F.called_set.init.lookup
    have f_ib := F.called_set.init.bind (.ref st.heap.objs.size); repeat (any_goals (first | assumption | wp_step))
    refine codeAny_mono (codeAny_call_builtin (R := wants (fun r s2 => r = .none ∧ ∃ h' tk B rows e0 tb, s2 = { st with heap := h', toks := tk } ∧ SetN P w h' st.heap.objs.size B rows e0 tb ∧ In ks ks.length B ∧
        (∀ b o, st.heap.get? b = some o → h'.get? b = some o)) E) F.called_set.init.plain F.entry_set_init (check_set_init_1 isSet ?_)) fun r2 s2 hr2 => ?_
    · obtain ⟨⟨cl, dc, dt, sl⟩, at_l, cls_l, nl, dat_l⟩ := id hl
      simp only at cls_l dat_l
      subst cls_l
      subst dat_l
      have lt_l : l < st.heap.objs.size := Heap.lt_size at_l
      have at_l1 : (st.heap.push (emptySet w)).get? l = some { cls := .type "list", dict := dc, data := .seq items nl, slots := sl } := Heap.get?_push_of_some _ at_l
      have f_s1 := F.sub_list_set
      have f_s2 := F.sub_list_frozenset
      have f_nd : (Value.type "list" == Value.type "dict") = false := by decide
      have seq1 : (st.heap.push (emptySet w)).IsList l items := ⟨_, at_l1, rfl, nl, rfl⟩
      have cool : A.in1.in1.in1.handled = none := by simp [hh]
      unfold Builtin.«set.__init__» noKeywords Builtin.Frozenset.updateFrom; generalize epi : pyIter = PI
      wp_walk
      subst epi
      refine wpAny_pyIter_list seq1 ?_; refine wpAny_bind (wpAny_runValue ?_)
      have ne_it : l ≠ (st.heap.push (emptySet w)).objs.size := by
        rw [Heap.size_push]
        exact Nat.ne_of_lt (Nat.lt_succ_of_lt lt_l)
      have off_it : st.heap.objs.size ∉ [(st.heap.push (emptySet w)).objs.size, l] := by
        rw [Heap.size_push]
        simp only [List.mem_cons, List.not_mem_nil, or_false, not_or]
        exact ⟨Nat.ne_of_lt (Nat.lt_succ_self _), Nat.ne_of_gt lt_l⟩
      have val : ∀ (i : Nat) (v : Value), items[i]? = some v → ∃ p, ks[i]? = some p ∧ v = .ref p.1 := fun i v hv => by
        have q : (ks.map fun p => Value.ref p.1)[i]? = some v := by rw [← hit, Array.getElem?_toList]; exact hv
        rw [List.getElem?_map] at q
        cases e : ks[i]? with
        | none => rw [e] at q; cases q
        | some p => rw [e] at q; exact ⟨p, rfl, (Option.some.inj q).symm⟩
      have free : ∀ b, st.heap.objs.size ≤ b → st.heap.get? b = none := fun b hb => by
        cases q : st.heap.get? b with
        | none => rfl
        | some o => (exact absurd (Nat.lt_of_lt_of_le (Heap.lt_size q) hb) (Nat.lt_irrefl _))
      refine updated ((Walks.list cool _ l ne_it items).toS) st.heap.objs.size off_it ks cnt few val st.heap hk (free _ (Nat.le_refl _)) (fun b hb => free b (by
          rw [List.mem_singleton.mp hb, Heap.size_push]; exact Nat.le_succ _)) (by show A.units + 1 + 1 + 1 + 8 < cLine; omega) (items.size - 0) 0 _ (by omega) (Nat.zero_le _)
        ⟨⟨_, Heap.get?_push_size _ rfl, rfl, rfl⟩, (seq1.push _)⟩ (fun b o e => Heap.get?_push_of_some _ (Heap.get?_push_of_some _ e)) ⟨[], #[], 0, _, setN_new (Heap.get?_push_of_some _ laid), fun p hp => (by cases hp), fun p hp => (by simp at hp), Nat.le_refl _⟩ ?_
      intro s' B rows e0 tb mv Z g k1
      obtain ⟨h', g2, d2, t2, o2⟩ := s'
      have eg : g2 = st.gens := mv.gens
      have ed : d2 = st.drawn := mv.drawn
      have eo : o2 = st.os := mv.os
      subst eg
      subst ed
      subst eo
      refine wpAny_pure ?_
      rw [cnt] at g
      exact wpAny_pure ⟨rfl, h', t2, B, rows, e0, tb, rfl, Z, g, k1⟩
    · match r2, hr2 with
      | .error e, hr2 => exact hr2
      | .ok (.ret r), hr2 =>
        obtain ⟨rfl, h', tk, B, rows, e0, tb, rfl, Z, g, k1⟩ := hr2; repeat (any_goals (first | assumption | wp_step))
        exact fin _ _ _ _ _ _ Z g k1
      | .ok .next, hr2 => exact hr2.elim
      | .ok .brk, hr2 => exact hr2.elim
      | .ok .cont, hr2 => exact hr2.elim
  | .ok .next, hr => exact hr.elim
  | .ok .brk, hr => exact hr.elim
  | .ok .cont, hr => exact hr.elim

set_option maxHeartbeats 3200007 in
/-- set(x), x a tuple -/
theorem set_of_tuple {l : Addr} {items : Array Value} (ks : List El) {Q : Value → Shared → Prop} (hh : A.handled = none) (hl : st.heap.IsTuple l items) (hit : items.toList = ks.map fun p => Value.ref p.1)
    (hk : ∀ p ∈ ks, Elt st.heap p.2 p.1) (few : ks.length < 64) (hu : A.units + 11 < cLine)
    (fin : ∀ (h' : Heap) (tk : Nat) B rows e0 tb, SetN P w h' st.heap.objs.size B rows e0 tb → In ks ks.length B → (∀ b o, st.heap.get? b = some o → h'.get? b = some o) → Q (.ref st.heap.objs.size) { st with heap := h', toks := tk }) :
    wpAny (model P w) A (call (.type "set") [.ref l]) Q E st := by
  have cnt : items.size = ks.length := by simpa using congrArg List.length hit
  obtain ⟨c0, tl0, mro0⟩ := F.called_set.mro
  have f_made := F.called_set.made
  have f_sub := F.called_set.sub
  have f_not := F.called_set.notType
  have f_can := F.called_set.canCreate
  have f_call := F.typeCall_set_1 (.ref l); refine wpAny_call (codeAny_of_tree ?_)
  show wpAny _ _ (callAny (.type "set") _) _ _ _; refine wpAny_pure ⟨Code.quiet_builtin _ (by decide +kernel), codeAny_builtin F.entry_type_call ?_⟩; rw [Around.under_plain (weight_type_call_type "set" [.ref l] []) rfl]; repeat (any_goals (first | assumption | wp_step))
  -- the new set
  have laid : (st.heap.push (emptySet w)).get? st.heap.objs.size = some (emptySet w) := Heap.get?_push_size _ rfl
  refine codeAny_mono (code_set_led1 (.ref l) (E := E) (Q₁ := fun u s1 => u = .ref st.heap.objs.size ∧ s1 = { st with heap := st.heap.push (emptySet w) }) ⟨rfl, rfl⟩) fun r s1 hr => ?_
  match r, hr with
  | .error e, hr => exact hr
  | .ok (.ret u), hr =>
    obtain ⟨rfl, rfl⟩ := hr
    have isSet : Shared.TypeIs { st with heap := st.heap.push (emptySet w) } (.ref st.heap.objs.size) "set" := ⟨_, laid, rfl⟩
    have f_il := F.called_set.init.lookup
    have f_ib := F.called_set.init.bind (.ref st.heap.objs.size); repeat (any_goals (first | assumption | wp_step))
    refine codeAny_mono (codeAny_call_builtin (R := wants (fun r s2 => r = .none ∧ ∃ h' tk B rows e0 tb, s2 = { st with heap := h', toks := tk } ∧ SetN P w h' st.heap.objs.size B rows e0 tb ∧ In ks ks.length B ∧
        (∀ b o, st.heap.get? b = some o → h'.get? b = some o)) E) F.called_set.init.plain F.entry_set_init (check_set_init_1 isSet ?_)) fun r2 s2 hr2 => ?_
    · obtain ⟨⟨cl, dc, dt, sl⟩, at_l, cls_l, nl, dat_l⟩ := id hl
      simp only at cls_l dat_l
      subst cls_l
      subst dat_l
      have lt_l : l < st.heap.objs.size := Heap.lt_size at_l
      have at_l1 : (st.heap.push (emptySet w)).get? l = some { cls := .type "tuple", dict := dc, data := .seq items nl, slots := sl } := Heap.get?_push_of_some _ at_l
      have f_s1 := F.sub_tuple_set
      have f_s2 := F.sub_tuple_frozenset
      have f_nd : (Value.type "tuple" == Value.type "dict") = false := by decide
      have seq1 : (st.heap.push (emptySet w)).IsTuple l items := ⟨_, at_l1, rfl, nl, rfl⟩
      have cool : A.in1.in1.in1.handled = none := by simp [hh]
      unfold Builtin.«set.__init__» noKeywords Builtin.Frozenset.updateFrom; generalize epi : pyIter = PI
      wp_walk
      subst epi
      refine wpAny_pyIter_tuple seq1 ?_; refine wpAny_bind (wpAny_runValue ?_)
      have ne_it : l ≠ (st.heap.push (emptySet w)).objs.size := by
        rw [Heap.size_push]
        exact Nat.ne_of_lt (Nat.lt_succ_of_lt lt_l)
      have off_it : st.heap.objs.size ∉ [(st.heap.push (emptySet w)).objs.size, l] := by
        rw [Heap.size_push]
        simp only [List.mem_cons, List.not_mem_nil, or_false, not_or]
        exact ⟨Nat.ne_of_lt (Nat.lt_succ_self _), Nat.ne_of_gt lt_l⟩
      have val : ∀ (i : Nat) (v : Value), items[i]? = some v → ∃ p, ks[i]? = some p ∧ v = .ref p.1 := fun i v hv => by
        have q : (ks.map fun p => Value.ref p.1)[i]? = some v := by rw [← hit, Array.getElem?_toList]; exact hv
        rw [List.getElem?_map] at q
        cases e : ks[i]? with
        | none => rw [e] at q; cases q
        | some p => rw [e] at q; exact ⟨p, rfl, (Option.some.inj q).symm⟩
      have free : ∀ b, st.heap.objs.size ≤ b → st.heap.get? b = none := fun b hb => by
        cases q : st.heap.get? b with
        | none => rfl
        | some o => (exact absurd (Nat.lt_of_lt_of_le (Heap.lt_size q) hb) (Nat.lt_irrefl _))
      refine updated ((Walks.tuple cool _ l ne_it items).toS) st.heap.objs.size off_it ks cnt few val st.heap hk (free _ (Nat.le_refl _)) (fun b hb => free b (by
          rw [List.mem_singleton.mp hb, Heap.size_push]; exact Nat.le_succ _)) (by show A.units + 1 + 1 + 1 + 8 < cLine; omega) (items.size - 0) 0 _ (by omega) (Nat.zero_le _)
        ⟨⟨_, Heap.get?_push_size _ rfl, rfl, rfl⟩, (seq1.push _)⟩ (fun b o e => Heap.get?_push_of_some _ (Heap.get?_push_of_some _ e)) ⟨[], #[], 0, _, setN_new (Heap.get?_push_of_some _ laid), fun p hp => (by cases hp), fun p hp => (by simp at hp), Nat.le_refl _⟩ ?_
      intro s' B rows e0 tb mv Z g k1
      obtain ⟨h', g2, d2, t2, o2⟩ := s'
      have eg : g2 = st.gens := mv.gens
      have ed : d2 = st.drawn := mv.drawn
      have eo : o2 = st.os := mv.os
      subst eg
      subst ed
      subst eo
      refine wpAny_pure ?_
      rw [cnt] at g
      exact wpAny_pure ⟨rfl, h', t2, B, rows, e0, tb, rfl, Z, g, k1⟩
    · match r2, hr2 with
      | .error e, hr2 => exact hr2
      | .ok (.ret r), hr2 =>
        obtain ⟨rfl, h', tk, B, rows, e0, tb, rfl, Z, g, k1⟩ := hr2; repeat (any_goals (first | assumption | wp_step))
        exact fin _ _ _ _ _ _ Z g k1
      | .ok .next, hr2 => exact hr2.elim
      | .ok .brk, hr2 => exact hr2.elim
      | .ok .cont, hr2 => exact hr2.elim
  | .ok .next, hr => exact hr.elim
  | .ok .brk, hr => exact hr.elim
  | .ok .cont, hr => exact hr.elim
end
end NS
/-! NS6: sorted(set), x in set. -/
namespace NS
open L2 PyProof.Rows PySem PySem.Spec
section
variable {P : Program} {w : World} {A : Around} {E : Value → Shared → Prop} {st : Shared} {a : Addr} {B : List El} {rows : Array (Int × Value)} {e0 : Nat} {tb : SetTable}
theorem each_of {R : Value → El → Prop} : ∀ {L : List El}, (∀ p ∈ L, R (.ref p.1) p) → W.EachIs R (L.map fun p => Value.ref p.1) L
  | [], _ => .nil
  | _ :: _, all => .cons (all _ List.mem_cons_self) (each_of fun q hq => all q (List.mem_cons_of_mem _ hq))
theorem of_each : ∀ {vs : List Value} {L : List El}, W.EachIs (fun v (p : El) => v = .ref p.1) vs L → vs = L.map fun p => Value.ref p.1
  | _, _, .nil => rfl
  | _, _, .cons e t => by rw [e, of_each t, List.map_cons]
/-- sorted(s): the data of the elements, sorted -/
theorem sorted_of {enc : El → PyData} (Z : SetN P w st.heap a B rows e0 tb) (hh : A.handled = none) (rd : ∀ p ∈ B, ∃ as, Reads st.heap (.ref p.1) (enc p) as) (nl : ∀ p ∈ B, ∀ as, Reads st.heap (.ref p.1) (enc p) as → as = [])
    (al : W.AllAlike (B.map enc)) (so : W.Sortable (B.map enc)) (hu : ∀ p ∈ B, A.units + 3 + (enc p).depth < cLine) {Q : Value → Shared → Prop}
    (fin : ∀ s' q (L : List El) (c : Nat), (∀ b o, st.heap.get? b = some o → s'.heap.get? b = some o) → s'.gens = st.gens → s'.os = st.os → st.heap.objs.size ≤ q → L.Perm B →
      s'.heap.get? q = some (seqObj "list" ((L.mergeSort (W.dataLe false enc)).map fun p => Value.ref p.1).toArray c) → Q (.ref q) s') :
    wpAny (model P w) A (call (.builtin "sorted") [.ref a]) Q E st := by
  obtain ⟨o, ho, hex, hd⟩ := Z.obj
  have cnt := Z.count
  have few := Z.few; refine Calls.call_function_entry kind_sorted plain_sorted entry_sorted (args_sorted1 _) ?_
  unfold Builtin.«sorted»; refine wpAny_bind (m := checkCount "sorted" 1 1 _) (wpAny_pure ?_)
  refine wpAny_bind (collect_set (A := A.in1) hh ⟨o, ho, hex.1, hd⟩ Z.inTable (by unfold scanBound; omega) Z.tab.ris Z.ldd fun s1 vs k1 hz g1 o1 pm => ?_)
  have vals : rows.toList.map (·.2) = B.map fun p => Value.ref p.1 := by
    rw [Z.rws, List.map_map]
    rfl
  rw [vals] at pm
  -- the collected values are the elements in some order
  obtain ⟨L, pL, eL⟩ : ∃ L : List El, L.Perm B ∧ vs = L.map fun p => Value.ref p.1 := by
    have gen : ∀ {vs : List Value} {ys : List Value}, vs.Perm ys → ∀ B : List El, ys = B.map (fun p => Value.ref p.1) → ∃ L : List El, L.Perm B ∧ vs = L.map fun p => Value.ref p.1 := by
      intro vs ys h
      induction h with
      | nil => exact fun B e => by cases B with | nil => exact ⟨[], .nil, rfl⟩ | cons _ _ => cases e
      | cons x h ih =>
        intro B e
        cases B with
        | nil => cases e
        | cons p B =>
          simp only [List.map_cons, List.cons.injEq] at e; obtain ⟨L, g1, g2⟩ := ih B e.2
          exact ⟨p :: L, g1.cons p, by rw [List.map_cons, g2, e.1]⟩
      | swap x y l =>
        intro B e
        match B, e with
        | p :: q :: B, e =>
          simp only [List.map_cons, List.cons.injEq] at e; exact ⟨q :: p :: B, .swap p q B, by rw [List.map_cons, List.map_cons, e.1, e.2.1, e.2.2]⟩
      | trans h1 h2 ih1 ih2 =>
        intro B e
        obtain ⟨L2, g1, g2⟩ := ih2 B e
        obtain ⟨L1, g3, g4⟩ := ih1 L2 g2
        exact ⟨L1, g3.trans g1, g4⟩
    exact gen pm B rfl
  have len : vs.length = B.length := by rw [eL, List.length_map, pL.length_eq]
  refine wpAny_bind (wpAny_newList ?_ (by rw [sizeLine_eq]; omega)); have at_l : (s1.heap.push (seqObj "list" vs.toArray 0)).get? s1.heap.objs.size = some (seqObj "list" vs.toArray 0) := Heap.get?_push_size _ rfl
  have keep : ∀ b u, st.heap.get? b = some u → (s1.heap.push (seqObj "list" vs.toArray 0)).get? b = some u := fun b u e => Heap.get?_push_of_some _ (k1 b u e)
  have allIn : ∀ p ∈ L, p ∈ B := fun p hp => pL.mem_iff.mp hp
  have rd1 : ∀ p ∈ L, ∃ as, Reads (s1.heap.push (seqObj "list" vs.toArray 0)) (.ref p.1) (enc p) as ∧ s1.heap.objs.size ∉ as := fun p hp => by
    obtain ⟨as, r⟩ := rd p (allIn p hp)
    have e := nl p (allIn p hp) as r
    exact ⟨as, PyProof.Rows.Reads.keeps keep r, by rw [e]; exact fun z => nomatch z⟩
  have al1 : W.AllAlike (L.map enc) := fun d hd d' hd' => by
    obtain ⟨p, hp, rfl⟩ := List.mem_map.mp hd
    obtain ⟨q, hq, rfl⟩ := List.mem_map.mp hd'
    exact al _ (List.mem_map.mpr ⟨p, allIn p hp, rfl⟩) _ (List.mem_map.mpr ⟨q, allIn q hq, rfl⟩)
  have so1 : W.Sortable (L.map enc) := by
    rcases so with z | z
    · exact .inl fun d hd => by
        obtain ⟨p, hp, rfl⟩ := List.mem_map.mp hd
        exact z _ (List.mem_map.mpr ⟨p, allIn p hp, rfl⟩)
    · exact .inr fun d hd => by
        obtain ⟨p, hp, rfl⟩ := List.mem_map.mp hd
        exact z _ (List.mem_map.mpr ⟨p, allIn p hp, rfl⟩)
  refine wpAny_bind (wpAny_holding (W.list_sort_data (s := { s1 with heap := s1.heap.push (seqObj "list" vs.toArray 0) }) (R := fun v (p : El) => v = .ref p.1) (enc := enc) (bs := L) at_l
    (by rw [eL]; exact each_of fun p _ => rfl) (by rw [eL] at rd1 ⊢; exact each_of rd1) al1 so1 (by rw [pL.length_eq, sizeLine_eq]; omega) (fun p hp => ?_) fun out ol oe => ?_))
  · have q := hu p (allIn p hp)
    show A.units + 1 + 1 + (enc p).depth < cLine
    omega
  · have eo := of_each oe
    obtain ⟨c, hc⟩ := sortedHeap_at (vs := vs) (out := out.toArray) at_l
    refine wpAny_pure ⟨_, rfl, fin _ s1.heap.objs.size L c (fun b u e => ?_) g1 o1 hz pL (by rw [← eo]; exact hc)⟩
    have q := k1 b u e
    have lt := Heap.lt_size q
    show (sortedHeap (s1.heap.push (seqObj "list" vs.toArray 0)) s1.heap.objs.size vs out.toArray).get? b = some u
    rw [sortedHeap_old (Nat.ne_of_lt lt) (by rw [size_push']; exact Nat.lt_succ_of_lt lt)]; exact Heap.get?_push_of_some _ q
theorem found (Z : SetN P w st.heap a B rows e0 tb) {b : Addr} {k : NestedKey} (x : Elt st.heap k b) (hu : A.units + 8 < cLine) {Q : Option Nat → Shared → Prop} (q : ∀ r : Option Nat, r.isSome = decide (k ∈ B.map (·.2)) → Q r st) :
    wpAny (model P w) A (setFind a (.ref b) (k.hash w)) Q E st := by
  obtain ⟨o, ho, hex, hd⟩ := Z.obj
  unfold setFind
  rw [show (100000 : Nat) = 99999 + 1 from rfl]
  unfold setFindIn
  refine wpAny_bind (wpAny_setState_of ho hd Z.inTable ?_)
  dsimp only; refine wp_if_neg (by simp [byScan, Value.scannable]) ?_
  try (refine wpAny_bind (wpAny_pure ?_))
  refine wpAny_bind (sought Z x hu (fun r hr hm => ?_) fun K hm _ _ => ?_)
  · refine wpAny_pure (q r ?_)
    rw [decide_eq_true hm]
    rcases hr with z | z
    · cases z
    · exact z
  · exact wpAny_pure (q none (by rw [decide_eq_false hm]; rfl))
theorem has_of (Z : SetN P w st.heap a B rows e0 tb) {b : Addr} {k : NestedKey} (x : Elt st.heap k b) (hu : A.units + 20 < cLine) {Q : Bool → Shared → Prop} (q : ∀ tk, Q (decide (k ∈ B.map (·.2))) { st with toks := tk }) :
    wpAny (model P w) A (contains (.ref a) (.ref b)) Q E st := by
  obtain ⟨o, ho, hex, hd⟩ := id Z.obj
  have isSet : st.TypeIs (.ref a) "set" := ⟨o, ho, hex.1⟩
  unfold contains
  try (with_reducible refine wpAny_holding ?_)
  refine wpAny_bind (wpAny_specialOf isSet PySem.F.slot_set_contains.lookup ?_)
  show wpAny _ _ (if (some (Value.builtin "set.__contains__") == some Value.none) = true then _ else _) _ E st; rw [if_neg (by rw [beq_builtin_none]; exact Bool.false_ne_true)]
  refine wpAny_bind (wpAny_callSpecialUnlessNone?_slot (name := Str.ofString "__contains__") isSet PySem.F.slot_set_contains
    (wpAny_call_entry PySem.F.slot_set_contains isSet entry_set_contains ?_ (PySem.F.args_set_contains_2 _ _)))
  unfold Builtin.«frozenset.__contains__» Builtin.Frozenset.oneOther; simp only [List.isEmpty_nil, bind_assoc]; unfold Builtin.Frozenset.addrOf Builtin.Frozenset.withSetAsKey setContains; refine wpAny_bind (wpAny_pure ?_)
  try dsimp only
  (refine wpAny_bind (wpAny_pure ?_))
  try dsimp only
  refine wpAny_bind (wpAny_tryCatch ?_); refine wpAny_holding ?_
  refine wpAny_bind ((nestedKind P w).pyHash (by show _ + 8 < cLine; simp; omega) ⟨x.is, x.dp⟩ ?_)
  refine wpAny_bind (found (st := { st with toks := st.toks + (nestedKind P w).draws k }) Z x (by simp; omega) fun r hr => ?_)
  refine wpAny_pure ?_; show wpAny _ _ (ret (Value.bool r.isSome)) _ _ _
  rw [hr]
  exact wpAny_pure ⟨_, rfl, wpAny_truthy_bool (q _)⟩
/-- b in s, b not in s -/
theorem in_of (Z : SetN P w st.heap a B rows e0 tb) {b : Addr} {k : NestedKey} (x : Elt st.heap k b) (hu : A.units + 20 < cLine) {Q : Value → Shared → Prop} (q : ∀ tk, Q (.bool (decide (k ∈ B.map (·.2)))) { st with toks := tk }) :
    wpAny (model P w) A (compareOp .In (.ref b) (.ref a)) Q E st := by
  show wpAny _ _ (do return .bool (← contains (.ref a) (.ref b))) Q E st
  exact wpAny_bind (has_of Z x hu fun tk => wpAny_pure (q tk))
theorem notIn_of (Z : SetN P w st.heap a B rows e0 tb) {b : Addr} {k : NestedKey} (x : Elt st.heap k b) (hu : A.units + 20 < cLine) {Q : Value → Shared → Prop} (q : ∀ tk, Q (.bool (!decide (k ∈ B.map (·.2)))) { st with toks := tk }) :
    wpAny (model P w) A (compareOp .NotIn (.ref b) (.ref a)) Q E st := by
  show wpAny _ _ (do return .bool (!(← contains (.ref a) (.ref b)))) Q E st
  exact wpAny_bind (has_of Z x hu fun tk => wpAny_pure (q tk))
end
end NS
/-! NS7: the elements as data; the one sorted list. -/
namespace NS
open PySem PySem.Spec L2
mutual
/-- whole numbers (no bools), None, tuples of such: the key -/
def keyOf : PyData → Option NestedKey
  | .none => some .none
  | .int i => some (.num i)
  | .tuple ds => (keysOf ds).map .tup
  | .bool _ => none
  | .str _ => none
  | .list _ => none
  | .dict _ => none
def keysOf : List PyData → Option (List NestedKey)
  | [] => some []
  | d :: ds => match keyOf d with
    | some k => (keysOf ds).map (k :: ·)
    | none => none
end
mutual
def dataOf : NestedKey → PyData
  | .none => .none
  | .num i => .int i
  | .text x => .str x
  | .tup ks => .tuple (datasOf ks)
def datasOf : List NestedKey → List PyData
  | [] => []
  | k :: ks => dataOf k :: datasOf ks
end
mutual
theorem data_key : ∀ (d : PyData) (k : NestedKey), keyOf d = some k → dataOf k = d
  | .none, k, h => by simp only [keyOf] at h; cases h; rfl
  | .int i, k, h => by simp only [keyOf] at h; cases h; rfl
  | .tuple ds, k, h => by
    simp only [keyOf] at h
    cases e : keysOf ds with
    | none => (rw [e] at h; cases h)
    | some ks =>
      rw [e] at h
      cases h
      simp only [dataOf]
      rw [datas_keys ds ks e]
  | .bool _, _, h => by simp only [keyOf] at h; cases h
  | .str _, _, h => by simp only [keyOf] at h; cases h
  | .list _, _, h => by simp only [keyOf] at h; cases h
  | .dict _, _, h => by simp only [keyOf] at h; cases h
theorem datas_keys : ∀ (ds : List PyData) (ks : List NestedKey), keysOf ds = some ks → datasOf ks = ds
  | [], ks, h => by simp only [keysOf] at h; cases h; rfl
  | d :: ds, ks, h => by
    simp only [keysOf] at h
    cases e : keyOf d with
    | none => (rw [e] at h; cases h)
    | some k =>
      rw [e] at h
      dsimp only at h
      cases e2 : keysOf ds with
      | none => rw [e2] at h; cases h
      | some ks' =>
        rw [e2] at h
        cases h
        simp only [datasOf]
        rw [data_key d k e, datas_keys ds ks' e2]
end
mutual
theorem key_bare : ∀ (d : PyData) (k : NestedKey), keyOf d = some k → bare k = true
  | .none, k, h => by simp only [keyOf] at h; cases h; rfl
  | .int i, k, h => by simp only [keyOf] at h; cases h; rfl
  | .tuple ds, k, h => by
    simp only [keyOf] at h
    cases e : keysOf ds with
    | none => (rw [e] at h; cases h)
    | some ks => rw [e] at h; cases h; simp only [bare]; exact keys_bare ds ks e
  | .bool _, _, h => by simp only [keyOf] at h; cases h
  | .str _, _, h => by simp only [keyOf] at h; cases h
  | .list _, _, h => by simp only [keyOf] at h; cases h
  | .dict _, _, h => by simp only [keyOf] at h; cases h
theorem keys_bare : ∀ (ds : List PyData) (ks : List NestedKey), keysOf ds = some ks → bareAll ks = true
  | [], ks, h => by simp only [keysOf] at h; cases h; rfl
  | d :: ds, ks, h => by
    simp only [keysOf] at h
    cases e : keyOf d with
    | none => (rw [e] at h; cases h)
    | some k =>
      rw [e] at h
      dsimp only at h
      cases e2 : keysOf ds with
      | none => rw [e2] at h; cases h
      | some ks' =>
        rw [e2] at h
        cases h
        simp only [bareAll, key_bare d k e, keys_bare ds ks' e2, Bool.and_self]
end
mutual
theorem key_reads {h : Heap} : ∀ (d : PyData) (k : NestedKey) (v : Value) (as : List Addr), keyOf d = some k → Reads h v d as → NestedIs h k v ∧ as = []
  | .none, k, v, as, e, r => by simp only [keyOf] at e; cases e; cases r; exact ⟨.none, rfl⟩
  | .int i, k, v, as, e, r => by simp only [keyOf] at e; cases e; cases r; exact ⟨.int i _, rfl⟩
  | .tuple ds, k, v, as, e, r => by
    simp only [keyOf] at e
    cases e2 : keysOf ds with
    | none => rw [e2] at e; cases e
    | some ks =>
      rw [e2] at e
      cases e
      cases r with
      | tuple h1 h2 h3 h4 =>
        obtain ⟨q1, q2⟩ := keys_reads ds ks _ _ e2 h4
        exact ⟨.tup h1 h2 h3 q1, q2⟩
  | .bool _, _, _, _, h, _ => by simp only [keyOf] at h; cases h
  | .str _, _, _, _, h, _ => by simp only [keyOf] at h; cases h
  | .list _, _, _, _, h, _ => by simp only [keyOf] at h; cases h
  | .dict _, _, _, _, h, _ => by simp only [keyOf] at h; cases h
theorem keys_reads {h : Heap} : ∀ (ds : List PyData) (ks : List NestedKey) (vs : List Value) (as : List Addr), keysOf ds = some ks → ReadsAll h vs ds as → NestedAll h ks vs ∧ as = []
  | [], ks, vs, as, e, r => by simp only [keysOf] at e; cases e; cases r; exact ⟨.nil, rfl⟩
  | d :: ds, ks, vs, as, e, r => by
    simp only [keysOf] at e
    cases e1 : keyOf d with
    | none => rw [e1] at e; cases e
    | some k =>
      rw [e1] at e
      dsimp only at e
      cases e2 : keysOf ds with
      | none => rw [e2] at e; cases e
      | some ks' =>
        rw [e2] at e
        cases e
        cases r with
        | cons r1 r2 =>
          obtain ⟨q1, q2⟩ := key_reads d k _ _ e1 r1
          obtain ⟨q3, q4⟩ := keys_reads ds ks' _ _ e2 r2
          exact ⟨.cons q1 q3, by rw [q2, q4]; rfl⟩
end
/-! ### once each -/
def once : List NestedKey → List NestedKey
  | [] => []
  | k :: ks => if k ∈ ks then once ks else k :: once ks
theorem mem_once {x : NestedKey} : ∀ {ks : List NestedKey}, x ∈ once ks ↔ x ∈ ks
  | [] => Iff.rfl
  | k :: ks => by
    unfold once
    split
    · rename_i h
      rw [mem_once, List.mem_cons]
      exact ⟨.inr, fun z => z.elim (fun e => e ▸ h) id⟩
    · rw [List.mem_cons, List.mem_cons, mem_once]
theorem once_nodup : ∀ ks : List NestedKey, (once ks).Nodup
  | [] => List.nodup_nil
  | k :: ks => by
    unfold once
    split
    · exact once_nodup ks
    · rename_i h
      exact List.nodup_cons.mpr ⟨fun z => h (mem_once.mp z), once_nodup ks⟩
/-! ### the order tells unlike data apart -/
abbrev leD : PyData → PyData → Bool := W.dataLe false id
theorem le_antisymm {x y : PyData} (hal : W.alike x y = true) (h1 : leD x y = true) (h2 : leD y x = true) : PyData.eqv x y = true := by
  have a1 : W.dataLt y x = false := by
    have q : (!W.dataLt y x) = true := h1
    simpa using q
  have a2 : W.dataLt x y = false := by
    have q : (!W.dataLt x y) = true := h2
    simpa using q
  have e : W.keyToks x = W.keyToks y := PyProof.Rows.lex_total _ _ a2 a1
  cases ev : PyData.eqv x y with
  | true => rfl
  | false =>
    exfalso
    have q := (W.toks_eqv x y hal).2 ev [] [Sum.inl 0]
    rw [e, W.lex_pre, PyProof.Rows.lex_irrefl] at q
    cases q
mutual
theorem eqv_key : ∀ (x y : PyData) (k j : NestedKey), keyOf x = some k → keyOf y = some j → PyData.eqv x y = true → x = y
  | .none, y, k, j, hx, hy, e => by
    cases y with
    | none => rfl
    | int _ => simp [PyData.eqv] at e
    | tuple _ => simp [PyData.eqv] at e
    | _ => simp only [keyOf] at hy; cases hy
  | .int i, y, k, j, hx, hy, e => by
    cases y with
    | none => simp [PyData.eqv] at e
    | int z =>
      simp only [PyData.eqv, beq_iff_eq] at e
      rw [e]
    | tuple _ => simp [PyData.eqv] at e
    | _ => simp only [keyOf] at hy; cases hy
  | .tuple xs, y, k, j, hx, hy, e => by
    cases y with
    | none => simp [PyData.eqv] at e
    | int _ => simp [PyData.eqv] at e
    | tuple ys =>
      simp only [keyOf] at hx hy
      cases e1 : keysOf xs with
      | none => rw [e1] at hx; cases hx
      | some ks =>
        cases e2 : keysOf ys with
        | none => rw [e2] at hy; cases hy
        | some js =>
          simp only [PyData.eqv] at e
          rw [eqvs_keys xs ys ks js e1 e2 e]
    | _ => simp only [keyOf] at hy; cases hy
  | .bool _, _, _, _, h, _, _ => by simp only [keyOf] at h; cases h
  | .str _, _, _, _, h, _, _ => by simp only [keyOf] at h; cases h
  | .list _, _, _, _, h, _, _ => by simp only [keyOf] at h; cases h
  | .dict _, _, _, _, h, _, _ => by simp only [keyOf] at h; cases h
theorem eqvs_keys : ∀ (xs ys : List PyData) (ks js : List NestedKey), keysOf xs = some ks → keysOf ys = some js → PyData.eqvAll xs ys = true → xs = ys
  | [], [], _, _, _, _, _ => (rfl)
  | [], _ :: _, _, _, _, _, e => by simp [PyData.eqvAll] at e
  | _ :: _, [], _, _, _, _, e => by simp [PyData.eqvAll] at e
  | x :: xs, y :: ys, ks, js, hx, hy, e => by
    simp only [keysOf] at hx hy
    simp only [PyData.eqvAll, Bool.and_eq_true] at e
    cases e1 : keyOf x with
    | none => rw [e1] at hx; cases hx
    | some k =>
      cases e2 : keyOf y with
      | none => rw [e2] at hy; cases hy
      | some j =>
        rw [e1] at hx
        rw [e2] at hy
        dsimp only at hx hy
        cases e3 : keysOf xs with
        | none => rw [e3] at hx; cases hx
        | some ks' =>
          cases e4 : keysOf ys with
          | none => rw [e4] at hy; cases hy
          | some js' =>
            rw [eqv_key x y k j e1 e2 e.1, eqvs_keys xs ys ks' js' e3 e4 e.2]
end
theorem leD_total : W.TotalLe leD := W.sortLe_total (PyProof.Rows.listOrd PyProof.Rows.itemOrd) false (fun d : PyData => W.keyToks d)
theorem perm_few {α : Type} {l1 l2 : List α} (p : l1.Perm l2) (n : l1.Nodup) (h : ∀ x ∈ l1, ∀ y ∈ l1, x = y) : l1 = l2 := by
  match l1, p, n, h with
  | [], p, _, _ => exact (List.Perm.nil_eq p)
  | [x], p, _, _ => exact (List.Perm.singleton_eq p)
  | x :: y :: l, p, n, h =>
    exfalso
    have e := h x (by simp) y (by simp)
    rw [List.nodup_cons] at n
    exact n.1 (by simp [e])
/-- two lists with the same bare, comparable data, once each, are sorted to one list -/
theorem sort_same {l m : List PyData} (p : l.Perm m) (n : l.Nodup) (key : ∀ d ∈ l, ∃ k, keyOf d = some k) (al : W.AllAlike l) : l.mergeSort leD = m.mergeSort leD := by
  refine W.sort_unique leD_total (W.sort_pairwise leD_total l) fun c => ?_
  rw [W.sort_stable leD_total]
  refine perm_few (p.filter _) (n.filter _) fun x hx y hy => ?_
  have x1 := List.mem_filter.mp hx
  have y1 := List.mem_filter.mp hy
  have x2 : leD c x = true ∧ leD x c = true := by simpa [W.sameRank] using x1.2
  have y2 : leD c y = true ∧ leD y c = true := by simpa [W.sameRank] using y1.2
  obtain ⟨k, hk⟩ := key x x1.1
  obtain ⟨j, hj⟩ := key y y1.1
  exact eqv_key x y k j hk hj (le_antisymm (al x x1.1 y y1.1) (leD_total.trans _ _ _ x2.2 y2.1) (leD_total.trans _ _ _ y2.2 x2.1))
end NS
namespace NS
open PySem PySem.Spec L2
/-- the set at a, without its elements' own objects -/
def SetO0 (w : World) (h : Heap) (a : Addr) (B : List El) : Prop :=
  ∃ (rows : Array (Int × Value)) (e0 : Nat) (tb : SetTable), (∃ o, h.get? a = some o ∧ o.ExactSet ∧ o.data = .set rows e0 tb) ∧ rows.toList = B.map (rowW w) ∧ TabOk tb (B.map (hOf w)) ∧ (B.map (·.2)).Nodup ∧ tb.plain = true ∧
    (w.params.followText "set-order" = true ∨ tb.led = true) ∧ B.length * 5 < tb.mask * 3 ∧ B.length < 64
def setHO (w : World) (a : Addr) (B : List El) : HO := .ext fun h => SetO0 w h a B
theorem SetN.bare {P : Program} {w : World} {h : Heap} {a : Addr} {B : List El} {rows : Array (Int × Value)} {e0 : Nat} {tb : SetTable} (Z : SetN P w h a B rows e0 tb) : SetO0 w h a B :=
  ⟨rows, e0, tb, Z.obj, Z.rws, Z.tab, Z.uni, Z.pln, Z.ldd, Z.rom, Z.few⟩
theorem SetO0.full {P : Program} {w : World} {h : Heap} {a : Addr} {B : List El} (Z : SetO0 w h a B) (e : ∀ p ∈ B, Elt h p.2 p.1) : ∃ rows e0 tb, SetN P w h a B rows e0 tb := by
  obtain ⟨rows, e0, tb, z1, z2, z3, z4, z5, z6, z7, z8⟩ := Z
  exact ⟨rows, e0, tb, z1, z2, z3, z4, e, z5, z6, z7, z8⟩
theorem setHO_new {P : Program} {w : World} {H : Hp} {h : Heap} {a : Addr} {B : List El} (Z : SetO0 w h a B) : ObjOk P w H h a (setHO w a B) := by
  obtain ⟨rows, e0, tb, ⟨o, ho, r⟩, q⟩ := id Z
  refine ⟨Z, ⟨o, ho⟩, fun h1 h2 y k => ?_⟩
  obtain ⟨rows', e0', tb', ⟨o', ho', r'⟩, q'⟩ := y
  exact ⟨rows', e0', tb', ⟨o', k o' ho', r'⟩, q'⟩
end NS
/-! EX1: own exception classes over any built-in class, made with positional and keyword arguments. -/
namespace EX
open PySem PySem.Spec PySem.W PySem.Calls PyProof.Rows Builtin Builtin.ObjectAttr
theorem hasOf {C : Addr} {bm bmB : List Value} {Y : String} {b : Bool} (hT : ∀ Y : String, bm.contains (.type Y) = bmB.contains (.type Y)) (h : bmB.contains (.type Y) = b) : (Value.ref C :: bm).contains (.type Y) = b := by
  rw [List.contains_cons, hT, h]; cases b <;> rfl
section
variable {M : Model} {A : Around} {E : Value → Shared → Prop} {h : Heap} {g : Array GenState} {d : Drawn} {t : Nat} {os : OsState} {nm q : Str} {C N : Addr} {bs bm bmB : List Value} {hdct : Bool} {sn : List Str} {sub : List Value} {ab : Bool} {col : Option Bool} {dd : Option Addr} {k0 k1 k2 k3 k5 : Option Value} {B newId initId : String}
theorem checkNew (F : ExcBaseFacts B newId initId bmB) (hT : ∀ Y : String, bm.contains (.type Y) = bmB.contains (.type Y)) {rest : List Value} {kw : List (Str × Value)} {Q : Unit → Shared → Prop}
    (hC : h.get? C = some (excClassObj nm q C N bs bm hdct sn sub ab col dd k0 k1 k2 k3 k5 newId)) (hq : Q () ⟨h, g, d, t, os⟩) : wpAny M A (checkBuiltinCall newId ⟨.ref C :: rest, kw⟩) Q E ⟨h, g, d, t, os⟩ := by
  have hcont := hasOf (C := C) hT F.hasB
  have hstar := F.noStar; simp only [checkBuiltinCall, F.newKind, F.newSplit, F.newRow]; repeat (first | refine wpAny_loadPart_at hC ?_ | (refine wpAny_isSubtype_exc hC ?_; rw [hcont]) | refine wpAny_staticBase_exc hC ?_ | refine wpAny_madeBy_exc hC ?_ | simp only [bne_self_eq_false, Bool.false_eq_true, if_false] | wp_step)
  exact hq
end
section
variable {prog : Program} {w : World} {A : Around} {E : Value → Shared → Prop} {R : Result → Shared → Prop} {h : Heap} {g : Array GenState} {d : Drawn} {t : Nat} {os : OsState} {nm q : Str} {C N : Addr} {bs bm bmB : List Value} {hdct : Bool} {sn : List Str} {sub : List Value} {ab : Bool} {col : Option Bool} {dd : Option Addr} {k0 k1 k2 k3 k5 : Option Value} {B newId initId : String}
abbrev exO (C t : Addr) : Obj := { cls := .ref C, data := .fields #[.ref t, .none, .none, .none, .bool false, .none] }
theorem newKw (F : ExcBaseFacts B newId initId bmB) (hT : ∀ Y : String, bm.contains (.type Y) = bmB.contains (.type Y)) {rest : List Value} {kw : List (Str × Value)} (hC : h.get? C = some (excClassObj nm q C N bs bm hdct sn sub ab col dd k0 k1 k2 k3 k5 newId))
    (hq : R (.ok (.ret (.ref (h.objs.size + 1)))) ⟨(h.push (W.kdv_tup rest)).push (exO C h.objs.size), g, d, t, os⟩) (hl : rest.length ≤ sizeLine) :
    codeAny (model prog w) A (.builtin newId ⟨.ref C :: rest, kw⟩) R ⟨h, g, d, t, os⟩ := by
  have hends := F.ends; have hcB := hasOf (C := C) hT F.hasB
  have hcA := hasOf (C := C) hT F.noAttr
  have hcN := hasOf (C := C) hT F.noName
  refine codeAny_builtinAt F.entry ?_; unfold Builtin.«BaseException.__new__»
  refine PySem.wpAt_bind ?_
  show PySem.wpAt _ _ _ (stack >>= _) _ _ _
  refine PySem.wpAt_bind (PySem.wpAt_stack fun p below => PySem.wpAt_of_wpAny ?_)
  wp_walk
  refine PySem.wpAt_of_wpAny ?_
  rw [F.owner]; repeat (first | with_reducible refine wpAny_madeHere_exc F.canon hC ?_ | with_reducible refine wpAny_loadPart_at hC ?_ | (with_reducible refine wpAny_isSubtype_exc hC ?_; first | rw [hcB] | rw [hcA] | rw [hcN]) | wp_step)
  show R _ _
  rw [Heap.size_push]
  exact hq
theorem typeCallKw (F : ExcBaseFacts B newId initId bmB) (hT : ∀ Y : String, bm.contains (.type Y) = bmB.contains (.type Y)) {rest : List Value} {kw : List (Str × Value)} {fI : Addr} {Q : Fin → Shared → Prop} (hC : h.get? C = some (excClassObj nm q C N bs bm hdct sn sub ab col dd k0 k1 k2 k3 k5 newId))
    (hi : W.Looks (model prog w) h (typeLookup (.ref C) "__init__") (some (.ref fI))) (hb : ∀ self, W.Looks (model prog w) h (bindSpecial (.ref fI) self) (.ref fI, [self])) (hl : rest.length ≤ sizeLine)
    (hq : codeAny (model prog w) A (.call (.ref fI) ⟨.ref (h.objs.size + 1) :: rest, kw⟩) (fun r s' => match r with | .ok (.ret v) => v = .none ∧ Q (.done (.ret (.ref (h.objs.size + 1)))) s' | .ok _ => False | .error e => E e s')
      ⟨(h.push (W.kdv_tup rest)).push (exO C h.objs.size), g, d, t, os⟩) :
    wpAny (model prog w) A (Builtin.«type.__call__» ⟨.ref C :: rest, kw⟩) Q E ⟨h, g, d, t, os⟩ := by
  (repeat (first | with_reducible refine wpAny_loadPart_at hC ?_ | with_reducible refine wpAny_madeBy_exc hC ?_ | wp_step)); refine codeAny_call_builtin_code (Code.quiet_builtin _ F.quiet) (checkNew F hT hC ?_)
  refine newKw F hT hC ?_ hl
  show wpAny _ _ _ _ _ _
  have k : ∀ b o, h.get? b = some o → ((h.push (W.kdv_tup rest)).push (exO C h.objs.size)).get? b = some o := fun b o e => Heap.get?_push_of_some _ (Heap.get?_push_of_some _ e)
  have hC1 := k _ _ hC
  have hget : ((h.push (W.kdv_tup rest)).push (exO C h.objs.size)).get? (h.objs.size + 1) = some (exO C h.objs.size) := by heap_get
  have self : (Value.ref C :: bm).contains (.ref C) = true := List.contains_iff_mem.mpr List.mem_cons_self
  have i1 := hi.keeps k; have b1 := (hb (.ref (h.objs.size + 1))).keeps k
  unfold isInstance
  repeat (first | with_reducible refine wpAny_loadPart_at hget ?_ | (with_reducible refine wpAny_isSubtype_exc hC1 ?_; rw [self]) | wp_step)
  show wpAny _ _ (typeLookup (.ref C) _) _ _ _; refine i1.at ?_; refine wpAny_holding (wpAny_bind (b1.at ?_)); refine wpAny_bind (wpAny_call (codeAny_mono hq fun r s' z => ?_)); rcases r with e | (v | _ | _ | _) <;> first | exact z | exact z.elim | skip
  obtain ⟨rfl, z⟩ := z
  first | exact wpAny_pure (wpAny_pure z) | (wp_walk; exact z)
theorem checkTypeCall {M : Model} {rest : List Value} {kw : List (Str × Value)} {Q : Unit → Shared → Prop} (hC : h.get? C = some (excClassObj nm q C N bs bm hdct sn sub ab col dd k0 k1 k2 k3 k5 newId))
    (hq : Q () ⟨h, g, d, t, os⟩) : wpAny M A (checkBuiltinCall "type.__call__" ⟨.ref C :: rest, kw⟩) Q E ⟨h, g, d, t, os⟩ := by
  have f3 := tc_sub; have hTy : (⟨h, g, d, t, os⟩ : Shared).TypeIs (.ref C) "type" := ⟨_, hC, rfl⟩; simp only [checkBuiltinCall, tc_kind, tc_split]; repeat (any_goals (first | assumption | with_reducible refine wpAny_loadPart_at hC ?_ | with_reducible refine wpAny_onRaise ?_ | with_reducible refine wpAny_map ?_ | wp_step))
theorem callKw (F : ExcBaseFacts B newId initId bmB) (hT : ∀ Y : String, bm.contains (.type Y) = bmB.contains (.type Y)) {rest : List Value} {kw : List (Str × Value)} {fI : Addr} (hC : h.get? C = some (excClassObj nm q C N bs bm hdct sn sub ab col dd k0 k1 k2 k3 k5 newId))
    (hi : W.Looks (model prog w) h (typeLookup (.ref C) "__init__") (some (.ref fI))) (hb : ∀ self, W.Looks (model prog w) h (bindSpecial (.ref fI) self) (.ref fI, [self])) (hl : rest.length ≤ sizeLine)
    (hq : codeAny (model prog w) (A.under (.builtin "type.__call__" ⟨.ref C :: rest, kw⟩)) (.call (.ref fI) ⟨.ref (h.objs.size + 1) :: rest, kw⟩) (W.InitBack (h.objs.size + 1) R)
      ⟨(h.push (W.kdv_tup rest)).push (exO C h.objs.size), g, d, t, os⟩) : codeAny (model prog w) A (.call (.ref C) ⟨rest, kw⟩) R ⟨h, g, d, t, os⟩ := by
  have f1 := tc_lookup
  have f2 := tc_bind (.ref C); have hTy : (⟨h, g, d, t, os⟩ : Shared).TypeIs (.ref C) "type" := ⟨_, hC, rfl⟩
  refine codeAny_of_tree ?_; show wpAny _ _ (callAny (.ref C) _) _ _ _; repeat (any_goals (first | assumption | with_reducible refine wpAny_loadPart_at hC ?_ | wp_step))
  refine ⟨rfl, ?_⟩
  refine codeAny_call_builtin_at (Code.quiet_builtin _ (by decide +kernel)) entry_typeCall (checkTypeCall hC (typeCallKw F hT hC hi hb hl ?_)); refine codeAny_mono hq fun r s' z => ?_; rcases r with e | (v | _ | _ | _) <;> exact z
end
end EX
/-! EX2: fields stored on such an exception. -/
namespace EX
open PySem PySem.Spec PySem.W PySem.Calls PyProof.Rows Builtin Builtin.ObjectAttr
/-- what the built-in class says -/
structure EB (B newId initId : String) (bmB : List Value) : Prop where
  base : ExcBaseFacts B newId initId bmB
  sto : StoreFacts B bmB "object.__setattr__" "object"
theorem eb_VE : EB "ValueError" "ValueError.__new__" "ValueError.__init__" [.type "ValueError", .type "Exception", .type "BaseException", .type "object"] := ⟨F.excBase_ValueError, F.store_ValueError⟩
theorem eb_RE : EB "RuntimeError" "RuntimeError.__new__" "RuntimeError.__init__" [.type "RuntimeError", .type "Exception", .type "BaseException", .type "object"] := ⟨F.excBase_RuntimeError, F.store_RuntimeError⟩
theorem eb_OE : EB "OverflowError" "OverflowError.__new__" "OverflowError.__init__" [.type "OverflowError", .type "ArithmeticError", .type "Exception", .type "BaseException", .type "object"] := ⟨F.excBase_OverflowError, F.store_OverflowError⟩
section
variable {prog : Program} {w : World} {A : Around} {E : Value → Shared → Prop} {R : Result → Shared → Prop} {hp : Heap} {g : Array GenState} {d : Drawn} {t : Nat} {os : OsState} {B newId initId : String} {bmB : List Value}
/-- the first field: the object's dict is made -/
theorem saNew (b : EB B newId initId bmB) {K : W.Frag} {name : Str} {tk : Tok} {v : Value} {x C t0 : Addr} {s : Shared}
    (kin : K.In s.heap) (hx : s.heap.get? x = some (excObj C t0 none .none)) (ho : excOver K C bmB = true) (hh : hasDictIn K C = true) (ha : takerIn K C name = some none)
    (hq : ∀ h' tk' dx, (∀ c o, c ≠ x → s.heap.get? c = some o → h'.get? c = some o) → s.heap.objs.size ≤ dx → dx ≠ x → h'.get? x = some (excObj C t0 (some dx) .none) →
      h'.Ns1 dx (fun y => if y = name then some v else none) → R (.ok (.ret .none)) { s with heap := h', toks := tk' }) : codeAny (model prog w) A (.call (.builtin "object.__setattr__") ⟨[.ref x, .str name tk, v], []⟩) R s :=
  osa_openX (od := none) b.sto kin ⟨hx, rfl, rfl, trivial⟩ ho ha fun _ => by
    obtain ⟨cd, hc, hd⟩ := any_some hh; have lx := Heap.lt_size hx
    refine wpAny_bind (wpAny_pure (wpAny_bind (instanceDict_exc hx (looks_clsIn kin hc) hd ?_))); show wpAny _ _ (storeInDict s.heap.objs.size (.str name tk) name v) _ _ _
    refine HandSPX.store_in_new ⟨dictOf [] 0, #[], _, (Heap.get?_update_other _ _ (Nat.ne_of_lt lx)).trans (Heap.get?_push_size _ rfl), rfl, fun e he => absurd he (by simp), fun _ => rfl⟩ fun h' tk' hn' hs => ?_
    refine hq h' tk' s.heap.objs.size (fun c o hb ho => ?_) (Nat.le_refl _) (Nat.ne_of_gt lx) ?_ hn'
    · exact (hs.2 c (Nat.ne_of_lt (Heap.lt_size ho))).trans ((Heap.get?_update_other _ _ (Ne.symm hb)).trans (Heap.get?_push_of_some _ ho))
    · exact (hs.2 x (Nat.ne_of_lt lx)).trans (Heap.get?_update_self _ (Heap.get?_push_of_some _ hx) rfl)
/-- a further field -/
theorem saOld (b : EB B newId initId bmB) {K : W.Frag} {name : Str} {tk : Tok} {v : Value} {x C t0 dx : Addr} {s : Shared} {m0 : Str → Option Value} {nl : List Str}
    (kin : K.In s.heap) (hx : s.heap.get? x = some (excObj C t0 (some dx) .none)) (hns : s.heap.Ns1 dx m0) (hw : Within m0 nl) (hz : nl.length ≤ 1000) (ho : excOver K C bmB = true) (hh : hasDictIn K C = true) (ha : takerIn K C name = some none)
    (hq : ∀ h' tk', (∀ c o, c ≠ dx → s.heap.get? c = some o → h'.get? c = some o) → h'.Ns1 dx (fun y => if y = name then some v else m0 y) → R (.ok (.ret .none)) { s with heap := h', toks := tk' }) : codeAny (model prog w) A (.call (.builtin "object.__setattr__") ⟨[.ref x, .str name tk, v], []⟩) R s := by
  obtain ⟨oD, _, _, D, _, _⟩ := hns.count hw
  refine osa_openX (od := some oD) b.sto kin ⟨hx, rfl, rfl, D⟩ ho ha fun _ => ?_; obtain ⟨cd, hc, hd⟩ := any_some hh
  refine wpAny_bind (wpAny_pure (wpAny_bind (wpAny_bind (wpAny_loadPart hx (wpAny_bind ((looks_clsIn kin hc).here ?_)))))); rw [hd]
  exact wpAny_pure (a := some dx) (OEX.store_in_old hns hw hz fun h' tk' hn' hs => hq h' tk' (fun c o hb e => (hs.2 c hb).trans e) hn')
end
end EX
/-! EX3: such exceptions in the abstract heap: stores, the base's __init__, the call of the class. -/
namespace EX
open L2 PyProof.Rows PySem PySem.Spec
/-- what the written part says of an own exception class -/
structure Xc (K : PySem.W.Frag) (C : Addr) (newId : String) (bmB : List Value) : Prop where
  ini : W.excInitIn K C bmB newId = true
  ovr : W.excOver K C bmB = true
  dct : W.hasDictIn K C = true
  sa : W.findIn K (.ref C) "__setattr__" = some (some (.builtin "object.__setattr__"))
  exC : W.subIn K (.ref C) (.type "BaseException") = some true
  tyC : W.typeIn K (.ref C) = some (.type "type")
  kC : W.keepIn K (.ref C) = true
  ga : W.findIn K (.ref C) "__getattribute__" = some (some (.builtin "BaseException.__getattribute__"))
  gg : W.findIn K (.ref C) "__getattr__" = some none
  ca : W.findIn K (.ref C) "__class__" = some (some (.builtin "object.__class__"))
  cn : W.specialIn K (.builtin "object.__class__") "__get__" = some (some (.builtin "getset_descriptor.__get__"))
  ct : W.takesIn K (.builtin "object.__class__") = some true
  cm : W.mroIn K C (.type "object") = some true
section
variable {X : Cx} {pins : List (Addr × Obj)} {σ : L2.St} {H : Hp} {s : Shared} {a C dx : Addr} {f : Str} {y : V} {u : Value} {fs : List (Str × V)} {Q : Unit → Shared → Prop} {E : Value → Shared → Prop} {A : Around} {B newId initId : String} {bmB : List Value}
/-- an object gets its dict: both are known then -/
theorem dictMadeInv {h' : Heap} {tk : Nat} (I : Inv X pins σ H s) (e : H a = some (exo a C none)) (ry : RelV y u) {t0 : Addr}
    (k : ∀ c o, c ≠ a → s.heap.get? c = some o → h'.get? c = some o) (dn : s.heap.objs.size ≤ dx) (hx : h'.get? a = some (W.excObj C t0 (some dx) .none)) (hn : h'.Ns1 dx (fun z => if z = f then some u else none)) :
    Inv X pins σ (upd (upd H dx (exd dx [(f, y)])) a (exo a C (some dx))) { s with heap := h', toks := tk } := by
  have hd0 : H dx = none := I.hok.fresh dn
  have fromA : ∀ {c : Addr}, H c = none → c ≠ a := fun n z => by rw [z, e] at n; cases n
  have fromD : ∀ {c : Addr} {o : Obj}, s.heap.get? c = some o → c ≠ dx := fun q => Nat.ne_of_lt (Nat.lt_of_lt_of_le (Heap.lt_size q) dn)
  have stays : ∀ {c : Addr} {o : HO}, H c = some o → exo a C none ≠ o → upd (upd H dx (exd dx [(f, y)])) a (exo a C (some dx)) c = some o := fun {c o} q n => by
    rw [upd_ne (at_ne e q n), upd_ne (ne_of_none q hd0)]; exact q
  refine I.un (t' := tk) ⟨fun c o q n _ _ => k c o (fromA n) q, fun c o q n _ _ => ⟨o.slots, k c o (fromA n) q⟩, fun c o q n _ => ?_, fun c o q _ => ?_, fun c xs q => stays q exo_tup, fun c o v q => stays q exo_frz, fun c ps q => ⟨#[], ?_⟩⟩ fun c o q => ?_
  · rw [upd_ne (fromA n), upd_ne (fromD q)]; exact n
  · by_cases hc : c = a
    · exact ⟨_, hc ▸ hx⟩
    · exact ⟨o, k c o hc q⟩
  · rw [stays q exo_tbl]; simp
  · by_cases hc : c = a
    · subst hc; rw [upd_same] at q; cases q
      exact exo_ok hx
    · rw [upd_ne hc] at q
      by_cases hc2 : c = dx
      · subst hc2; rw [upd_same] at q; cases q
        exact exd_ok hn (relO_put (fs := []) ry fun _ => trivial)
      · rw [upd_ne hc2] at q
        refine (I.hok c o q).stay (fun b v hb z => k b v ?_ z) (fun b hb => stays hb exo_own) fun b xs hb => stays hb exo_tup
        rcases hb with hb | hb
        · exact hb ▸ hc
        · exact at_ne e hb exo_own
theorem sto1 (b : EB B newId initId bmB) (T : Xc X.K C newId bmB) (I : Inv X pins σ H s) (e : H a = some (exo a C none)) (hno : W.takerIn X.K C f = some none) (ry : RelV y u)
    (h : ∀ b s', H b = none → b ≠ a → Inv X pins σ (upd (upd H b (exd b [(f, y)])) a (exo a C (some b))) s' → Q () s') : wpAny (model X.prog X.w) A (setAttr (.ref a) f u) Q E s := by
  obtain ⟨t1, ho⟩ := exo_at I.hok e; refine W.set_plain I.kIn (od := none) ⟨ho, rfl, rfl, trivial⟩ T.sa (saNew (s := { s with toks := s.toks + 1 }) b I.kIn ho T.ovr T.dct hno fun h' tk' dx k dn dne hx hn => ?_)
  exact h dx _ (I.hok.fresh dn) dne (dictMadeInv (I.tok _) e ry k dn hx hn)
theorem sto2 (b : EB B newId initId bmB) (T : Xc X.K C newId bmB) (I : Inv X pins σ H s) (e : H a = some (exo a C (some dx))) (ed : H dx = some (exd dx fs)) (hl : fs.length ≤ 900) (hno : W.takerIn X.K C f = some none) (ry : RelV y u)
    (h : ∀ s2, Inv X pins σ (upd H dx (exd dx ((f, y) :: fs))) s2 → Q () s2) : wpAny (model X.prog X.w) A (setAttr (.ref a) f u) Q E s := by
  obtain ⟨t1, ho⟩ := exo_at I.hok e; obtain ⟨mA, hns, rel⟩ := exd_at I.hok ed
  obtain ⟨oD, _, _, hoD, _, _⟩ := hns.count (within_of rel)
  refine W.set_plain I.kIn (od := some oD) ⟨ho, rfl, rfl, hoD⟩ T.sa (saOld (s := { s with toks := s.toks + 1 }) b I.kIn ho hns (within_of rel) (by rw [List.length_map]; omega) T.ovr T.dct hno fun h' tk' k hn => ?_)
  obtain ⟨o, _, _, hd', _⟩ := id hn
  exact h _ (I.write (t' := tk') (x := dx) (e := dx) (o := exd dx ((f, y) :: fs)) (by rw [ed]; exact True.intro) (.inl rfl) k ⟨o, hd'⟩ (exd_ok hn (relO_put ry rel)))
/-- the base's own __init__(self) -/
theorem baseInit {us : List Value} {Q : Value → Shared → Prop} (b : EB B newId initId bmB) (T : Xc X.K C newId bmB) (I : Inv X pins σ H s) (e : H a = some (exo a C none)) (hl : us.length ≤ sizeLine) (h : ∀ s', Inv X pins σ H s' → Q .none s') :
    wpAny (model X.prog X.w) A (call (.builtin initId) (.ref a :: us)) Q E s := by
  obtain ⟨nm, N', qn, bs, bm, hdct, sn, sub, ab, col, dd, k0, k1, k2, k3, k5, hC, hT⟩ := W.excInit_of I.kIn T.ini; obtain ⟨t1, ho⟩ := exo_at I.hok e
  obtain ⟨hp, g, d, t, os⟩ := s
  refine wpAny_call (HandSPX.init_base b.base hT hC ho hl fun h' t2 k hx => h _ ?_); have J := I.write (t' := t) (x := a) (e := a) (o := exo a C none) (by rw [e]; exact True.intro) (.inl rfl) k ⟨_, hx⟩ (exo_ok hx)
  rwa [show upd H a (exo a C none) = H from funext fun c => by by_cases hc : c = a; { rw [hc, upd_same, e] }; { rw [upd_ne hc] }] at J
end
end EX
/-! EX4: the rules: self.f = e, the base's __init__(self), the call of the class. -/
namespace EX
open L2 PyProof.Rows PySem PySem.Spec
def XcE (K : PySem.W.Frag) (C : Addr) : Prop := ∃ (B newId initId : String) (bmB : List Value), EB B newId initId bmB ∧ Xc K C newId bmB
/-- self.f = e -/
def tSto (K : PySem.W.Frag) (f : Str) (to te : TE) : TS := fun D σ H => te σ H fun y H1 => to σ H1 fun x H2 => ∃ a C : Addr, x = .ref a ∧ XcE K C ∧ W.takerIn K C f = some none ∧
  ((H2 a = some (exo a C none) ∧ ∀ b, H2 b = none → b ≠ a → D.nx σ (upd (upd H2 b (exd b [(f, y)])) a (exo a C (some b)))) ∨
    ∃ (b : Addr) (fs : List (Str × V)), H2 a = some (exo a C (some b)) ∧ H2 b = some (exd b fs) ∧ fs.length ≤ 900 ∧ D.nx σ (upd H2 b (exd b ((f, y) :: fs))))
/-- the class called: the object is laid, __init__ (its promise: sp) runs -/
def tMkX (C : Addr) (n m : Nat) (sp : Sp) (gV : List V → List V → List V) (t tk : TA) : TE := fun σ H Q => t σ H fun vs H1 => tk σ H1 fun zs H2 => vs.length = n ∧ zs.length = m ∧ n ≤ 1000 ∧
  ∀ a, H2 a = none → sp (gV (.ref a :: vs) zs) (upd H2 a (exo a C none)) (fun v H3 => v = .non ∧ Q (.ref a) H3) (fun _ _ _ => False)
section
variable {X : Cx} {o e : Expr} {es : List Expr} {kws : List Keyword} {to te : TE} {t tk : TA} {f : Str} {p p' p1 p2 pos : Pos}
theorem ps_sto (ho : PE X o to) (he : PE X e te) (hs : swapsWith e (some (.Attribute o f p')) pos.line X.env = pure false := by rfl) : PS X (.Assign [.Attribute o f p'] e pos) (tSto X.K f to te) :=
  ⟨fun pins s σ H D I h => plainObj_wpAny_Assign_Attribute (thn (he.run pins s σ H _ I h) fun v s1 ⟨y, H1, I1, r1, q1⟩ => thn (ho.run pins s1 σ H1 _ I1 q1) fun u s2 ⟨x, H2, I2, r2, q2⟩ => by
    obtain ⟨a, C, ex, ⟨B, nI, iI, bmB, b, T⟩, hno, q⟩ := q2
    subst ex; obtain rfl : u = Value.ref a := r2; rcases q with ⟨ea, q⟩ | ⟨dx, fs, ea, ed, hl, q⟩
    · exact sto1 b T I2 ea hno r1 fun dx s' n ne J => ⟨σ, _, J, q dx n ne⟩
    · exact sto2 b T I2 ea ed hl hno r1 fun s' J => ⟨σ, _, J, q⟩) hs⟩
variable {CX : CXT} {k n : Nat} {fI C : Addr} {fd : FuncData} {ps ks : List Str} {sp : Sp} {x : Str} {g : List Value → List Value → List Value} {gV : List V → List V → List V}
theorem runMk {pins : List (Addr × Obj)} {σ : L2.St} {H : Hp} {s : Shared} {Q : VK} {us ws : List Value} {vs zs : List V} (T : XcE X.K C) (iC : W.findIn X.K (.ref C) "__init__" = some (some (.ref fI))) (tI : W.typeIn X.K (.ref fI) = some (.type "function"))
    (F1 : FnOk X.prog X.w X.K X.mg X.base CX k fI fd ps sp) (hr : Room (k + 1) X.A) (hb : KBn X.K fd ps (n + 1) ks g gV) (hx : Passes CX X (fun _ _ _ => False)) (I : Inv X pins σ H s) (r : Vals vs us) (rz : Vals zs ws) (l1 : vs.length = n) (l2 : zs.length = ks.length) (ln : n ≤ 1000)
    (h : ∀ a, H a = none → sp (gV (.ref a :: vs) zs) (upd H a (exo a C none)) (fun v H3 => v = .non ∧ Q (.ref a) H3) (fun _ _ _ => False)) : wpAny (model X.prog X.w) X.A (call (.ref C) us (ks.zip ws)) (EP X pins σ Q) X.xe s := by
  obtain ⟨B, nI, iI, bmB, b, T⟩ := T
  obtain ⟨nm, N', qn, bs, bm, hdct, sn, sub, ab, col, dd, k0, k1, k2, k3, k5, hC, hT⟩ := W.excInit_of I.kIn T.ini
  obtain ⟨hp, g0, dr, tk, os⟩ := s
  have q := h (hp.objs.size + 1) (I.hok.fresh (Nat.le_succ _))
  have keep : ∀ c ob, hp.get? c = some ob → ((hp.push (W.kdv_tup us)).push (exO C hp.objs.size)).get? c = some ob := fun c ob z => Heap.get?_push_of_some _ (Heap.get?_push_of_some _ z)
  have there : ((hp.push (W.kdv_tup us)).push (exO C hp.objs.size)).get? (hp.objs.size + 1) = some (exO C hp.objs.size) := by heap_get
  have J := I.laid (t' := tk) (a := hp.objs.size + 1) (o := exo (hp.objs.size + 1) C none) keep (Nat.le_succ _) (exo_ok there)
  have rs : Vals (V.ref (hp.objs.size + 1) :: vs) (Value.ref (hp.objs.size + 1) :: us) := .cons rfl r
  have lu : us.length = n := r.length.symm.trans l1
  refine wpAny_call (callKw b.base hT hC (W.looks_findIn I.kIn iC) (fun self => W.bind_fn I.kIn self tI) (by rw [lu, sizeLine_eq]; omega) (codeAny_mono (F1.run _ X.stack _ _ ⟨Value.ref (hp.objs.size + 1) :: us, ks.zip ws⟩ _ _ _ _ (hr.make C us (ks.zip ws)) (J.env0.make C us (ks.zip ws))
    (hb.to _ _ ws J.kIn (rs.length.symm.trans (congrArg Nat.succ l1)) (rz.length.symm.trans l2)) (hb.rel rs rz) q) fun res s' z => ?_))
  match res, z with
  | .error er, z => exact hx pins σ _ _ er s' J z
  | .ok (.ret u), z =>
    obtain ⟨v, H3, J3, rv, ev, q3⟩ := J.after z
    subst ev
    exact ⟨rv, ⟨V.ref (hp.objs.size + 1), H3, J3, rfl, q3⟩⟩
  | .ok .next, z => exact z.elim
  | .ok .brk, z => exact z.elim
  | .ok .cont, z => exact z.elim
theorem pe_mkX (T : XcE X.K C) (iC : W.findIn X.K (.ref C) "__init__" = some (some (.ref fI))) (tI : W.typeIn X.K (.ref fI) = some (.type "function")) (F1 : FnOk X.prog X.w X.K X.mg X.base CX k fI fd ps sp) (hr : Room (k + 1) X.A) (hb : KBn X.K fd ps (n + 1) [] g gV) (hx : Passes CX X (fun _ _ _ => False))
    (hg : Gl X x) (hm : X.mg x = some (.ref C)) (ha : PA X (e :: es) t) (hdb : (x == ("__debug__" : Str)) = false := by decide) (he : starEach (e :: es) X.env = (false, eval e X.env) :: starEach es X.env := by rfl) (hpl : (backTo pos (starEach es X.env)).any (·.1) = false := by rfl) :
    PE X (.Call (.Name x p) (e :: es) [] pos) (tMkX C n 0 sp gV t tNil) :=
  ⟨fun pins s σ H Q I h => by
    have kC := T
    obtain ⟨_, _, _, _, _, T'⟩ := kC
    exact wpAny_Call_Name_kw (ld_glob I hg hm (W.callWith_K (h₀ := X.base) I.ok.mod.kin T'.kC (thn (ha.run pos pins s σ H _ I h) fun us s1 ⟨vs, H1, I1, r1, l1, l2, ln, q⟩ => ⟨I1.kIn, by
      have z := runMk (ks := []) T iC tI F1 hr hb hx I1 r1 .nil l1 l2 ln q
      simpa using z⟩) he hpl) hdb)⟩
theorem pe_mkX0 (T : XcE X.K C) (iC : W.findIn X.K (.ref C) "__init__" = some (some (.ref fI))) (tI : W.typeIn X.K (.ref fI) = some (.type "function")) (F1 : FnOk X.prog X.w X.K X.mg X.base CX k fI fd ps sp) (hr : Room (k + 1) X.A) (hb : KBn X.K fd ps 1 [] g gV) (hx : Passes CX X (fun _ _ _ => False))
    (hg : Gl X x) (hm : X.mg x = some (.ref C)) (hdb : (x == ("__debug__" : Str)) = false := by decide) : PE X (.Call (.Name x p) [] [] pos) (tMkX C 0 0 sp gV tNil tNil) :=
  ⟨fun pins s σ H Q I h => by
    have kC := T
    obtain ⟨_, _, _, _, _, T'⟩ := kC
    obtain ⟨l1, l2, ln, q⟩ := h
    exact wpAny_Call_Name_kw (ld_glob I hg hm (W.callWith_K0 I.kIn T'.kC (by simpa using runMk (n := 0) (ks := []) (us := []) T iC tI F1 hr hb hx I .nil .nil l1 l2 ln q)) hdb)⟩
theorem pe_mkXK (T : XcE X.K C) (iC : W.findIn X.K (.ref C) "__init__" = some (some (.ref fI))) (tI : W.typeIn X.K (.ref fI) = some (.type "function")) (F1 : FnOk X.prog X.w X.K X.mg X.base CX k fI fd ps sp) (hr : Room (k + 1) X.A) (hb : KBn X.K fd ps 1 ks g gV) (hx : Passes CX X (fun _ _ _ => False))
    (hg : Gl X x) (hm : X.mg x = some (.ref C)) (hkw : PK X kws tk) (hall : (backToKw pos (keywordEach kws X.env)).all (·.1.isSome) = true := by rfl) (hks : (backToKw pos (keywordEach kws X.env)).filterMap (·.1) = ks := by rfl) (hdb : (x == ("__debug__" : Str)) = false := by decide)
    (hpl : ((backTo pos (starEach [] X.env)).any (·.1) || (backToKw pos (keywordEach kws X.env)).any (·.1.isNone)) = false := by rfl) : PE X (.Call (.Name x p) [] kws pos) (tMkX C 0 ks.length sp gV tNil tk) :=
  ⟨fun pins s σ H Q I h => by
    have kC := T
    obtain ⟨_, _, _, _, _, T'⟩ := kC
    refine wpAny_Call_Name_kw (ld_glob I hg hm (W.callWith_KW0 (h₀ := X.base) I.ok.mod.kin T'.kC hall (thn (hkw.run pos pins s σ H _ I h) fun ws s2 ⟨zs, H2, I2, rz, l1, l2, ln, q2⟩ => ⟨I2.kIn, ?_⟩) hpl) hdb)
    rw [hks]
    exact runMk (n := 0) (us := []) T iC tI F1 hr hb hx I2 .nil rz l1 l2 ln q2⟩
end
end EX
/-! EX5: such an exception as a value: its fields, isinstance; raised. -/
namespace EX
open L2 PyProof.Rows PySem PySem.Spec
theorem exInst {h : Heap} {a C dx t0 : Addr} {od : Obj} (ha : h.get? a = some (W.excObj C t0 (some dx) .none)) (hd : h.get? dx = some od) : W.InstAt h a (W.excObj C t0 (some dx) .none) C (some od) := ⟨ha, rfl, rfl, hd⟩
/-- e.f -/
def tGetX (K : PySem.W.Frag) (n : Str) (te : TE) : TE := fun σ H Q => te σ H fun x H1 => ∃ (a C dx : Addr) (fs : List (Str × V)) (v : V), x = .ref a ∧ XcE K C ∧ W.findIn K (.ref C) n = some none ∧ H1 a = some (exo a C (some dx)) ∧ H1 dx = some (exd dx fs) ∧ fs.lookup n = some v ∧ Q v H1
/-- isinstance(e, c) -/
def rIsX (K : PySem.W.Frag) : List V → Hp → VK → Prop := fun xs H Q => ∃ (a C : Addr) (d : Option Addr) (c : V) (u : Value) (b : Bool), xs = [.ref a, c] ∧ ClsV c u ∧ XcE K C ∧ H a = some (exo a C d) ∧ (d = none ∨ ∃ (dx : Addr) (fs : List (Str × V)), d = some dx ∧ H dx = some (exd dx fs)) ∧ W.kitOne K (.ref C) u = some b ∧ Q (.bl b) H
section
variable {X : Cx} {e : Expr} {te : TE} {n : Str} {pos : Pos}
theorem pe_getX (he : PE X e te) (hb : attributeBase e n X.env (eval e X.env) = eval e X.env := by rfl) : PE X (.Attribute e n pos) (tGetX X.K n te) :=
  ⟨fun pins s σ H Q I h => attr_of hb (thn (he.run pins s σ H _ I h) fun u s1 ⟨x, H1, I1, rx, a, C, dx, fs, v, ex, ⟨B, nI, iI, bmB, b, T⟩, hno, ea, ed, l, q⟩ => by
    subst ex; obtain rfl : u = Value.ref a := rx
    obtain ⟨t0, ha⟩ := exo_at I1.hok ea
    obtain ⟨mA, hns, rel⟩ := exd_at I1.hok ed; obtain ⟨od, ho, hl⟩ := lookIn_ns hns
    obtain ⟨w', hw, rw'⟩ := RelO.some_of (v := v) (o := mA n) (by rw [← l]; exact rel n)
    exact HandSPX.exc_get I1.kIn (exInst ha ho) T.ga T.gg T.exC (W.findObj_own T.dct hno rfl (by rw [hl, hw])) (handed_of rw') ⟨v, H1, I1.tok _, rw', q⟩)⟩
theorem call_isX : CallR X (.builtin "isinstance") (rIsX X.K) := by
  rintro pins s σ H xs us Q I r ⟨a, C, d, c, u, b, rfl, hc, ⟨B, nI, iI, bmB, eb, T⟩, ea, ed, ek, q⟩
  obtain ⟨u1, u2, rfl, r1, r2⟩ := vals2 r; cases hc.eq r2
  cases r1
  obtain ⟨t0, ha⟩ := exo_at I.hok ea
  have cl : (W.clsIn X.K C).isSome = true := by
    obtain ⟨cd, z, _⟩ := W.any_some T.dct
    rw [z]; rfl
  have fin : ∀ od, W.InstAt s.heap a (W.excObj C t0 d .none) C od → wpAny (model X.prog X.w) X.A (call (.builtin "isinstance") [.ref a, u]) (EP X pins σ Q) X.xe s := fun od J =>
    W.kia_one (W.kitx_exc cl T.ga T.gg T.exC T.ca T.cn T.ct T.cm) I.kIn J ek (fun z => nomatch z) fun tk => ⟨.bl b, H, I.tok tk, rfl, q⟩
  rcases ed with rfl | ⟨dx, fs, rfl, ed⟩
  · exact fin none ⟨ha, rfl, rfl, trivial⟩
  · obtain ⟨mA, hns, rel⟩ := exd_at I.hok ed
    obtain ⟨od, ho, hl⟩ := lookIn_ns hns; exact fin (some od) (exInst ha ho)
end
end EX
/-! DG1: promises of defs that may show lists (repr): known is that no list is being shown. -/
namespace DG
open L2 PyProof.Rows PySem PySem.Spec
/-- the promise of a def, called where nothing is being shown -/
structure FnG (P : Program) (w : World) (K : PySem.W.Frag) (mg : Str → Option Value) (base : Heap) (k : Nat) (f : Addr) (fd : FuncData) (ps : List Str) (sp : Sp) : Prop where
  len : ∀ xs H Q E, sp xs H Q E → xs.length = ps.length
  run : ∀ (A : Around) (outer : List Env) (s : Shared) (H : Hp) (us : List Value) (vs : List V) (Q : VK) (E : XK), A.guards = some [] → Room k A → Env0 P w K mg base A outer s H → BindsTo s fd ⟨us, []⟩ (ps.zip us) → Vals vs us → sp vs H Q E →
    codeAny (model P w) A (.call (.ref f) ⟨us, []⟩) (CR (L2.CX P w) outer P w H s Q E) s
theorem FnG.mono {P : Program} {w : World} {K : PySem.W.Frag} {mg : Str → Option Value} {base : Heap} {j k : Nat} {f : Addr} {fd : FuncData} {ps : List Str} {sp : Sp} (F : FnG P w K mg base j f fd ps sp) (h : j ≤ k) : FnG P w K mg base k f fd ps sp :=
  ⟨F.len, fun A outer s H us vs Q E g hr => F.run A outer s H us vs Q E g (hr.mono h)⟩
section
variable {P : Program} {w : World} {K : PySem.W.Frag} {mg : Str → Option Value} {base : Heap} {k : Nat} {f : Addr} {fd : FuncData} {N ps : List Str} {sp : Sp}
theorem SP.call {qual : Str} {sc : Scope} {cdv : Value} {A : Around} {outer : List Env} {s s' : Shared} {H : Hp} {Q : VK} {E : XK} {fl : Flow} (h : SP (cxOf (L2.CX P w) P w K mg base N qual sc f cdv A outer s H E) [] { nx := fun _ H' => Q .non H', rt := Q } fl s') :
    CE outer P w H s Q (match fl with | .ret u => u | _ => .none) s' :=
  match fl, h with
  | .ret u, ⟨v, _, H', J, rv, q⟩ => ⟨v, H', J.os, J.bare, J.base, J.hok, rv, q⟩
  | .next, ⟨_, H', J, q⟩ => ⟨.non, H', J.os, J.bare, J.base, J.hok, rfl, q⟩
  | .brk, ⟨_, _, _, q⟩ => q.elim
  | .cont, ⟨_, _, _, q⟩ => q.elim
/-- THE RULE for a def, where nothing is being shown -/
theorem FnG.of {x qual : Str} {st : Stmt} (Fn : Fun K x qual st f fd) (Sc : FnScope N ps (defScope st)) (len : ∀ vs H Q E, sp vs H Q E → vs.length = ps.length)
    (hbody : ∀ (cdv : Value) (A : Around) (outer : List Env) (s : Shared) (H : Hp) (vs : List V) (Q : VK) (E : XK), A.guards = some [] → Room k (A.deeper (envOfC qual (defScope st) s.heap.objs.size f cdv)) → sp vs H Q E →
      ∃ t, PSs (cxOf (L2.CX P w) P w K mg base N qual (defScope st) f cdv A outer s H E) (defBody st) t ∧ t { nx := fun _ H' => Q .non H', rt := Q } (L2.start N vs) H) : FnG P w K mg base (k + 1) f fd ps sp := by
  obtain ⟨oc, od, kV, doc, pm, an, cdv, ct, osl, rfl, lk, hcd⟩ := Fn.ex
  refine ⟨len, fun A outer s H us vs Q E hg hr e0 hb r hsp => ?_⟩
  have up : ∀ {b : Addr} {o : Obj}, base.get? b = some o → s.heap.get? b = some o := fun {b o} e => (e0.bs b o e).1
  have KX : K.In s.heap := e0.mod.kin.keeps fun b o e => up e
  have kinds : ∀ y ∈ ps.zip us, (defScope st).names.lookup y.1 = some .local ∨ ((defScope st).names.lookup y.1 = some .cell ∧ ((cellsFrom (s.heap.objs.size + 1) (defScope st).names []).lookup y.1).isSome = true) := fun y hy =>
    (Sc.par y.1 (List.of_mem_zip (show (y.1, y.2) ∈ ps.zip us from hy)).1).imp id fun q => ⟨q, PySem.W.cellsFrom_some _ _ _ (.inl q)⟩
  refine codeAny_call_function hr.depth (KX _ _ lk) rfl Sc.co Sc.gen rfl (PySem.W.codeRec_of KX hcd) (hb _ _ _ _ (wpAny_newFunctionEnv_cells Sc.kind kinds fun env he s1 x => ?_))
  subst he
  refine ⟨(e0.mod.nolimit.keeps fun b o e => up e).keeps x.toInCall.keep, codeAny_func ?_⟩
  obtain ⟨t, ht, hq⟩ := hbody cdv A outer s H vs Q E hg (hr.deeper _) hsp
  exact wpAny_mono (ht.run [] s1 (L2.start N vs) H _ (inv_start Sc hr.hd e0 (len _ _ _ _ hsp) r x) hq) (fun fl s' hs => by have z := SP.call hs; cases fl <;> exact z) fun e s' hs => hs
end
section
variable {X : Cx} {k : Nat} {f : Addr} {fd : FuncData} {ps : List Str} {sp : Sp} {E : XK} {x : Str} {p pos : Pos} {e : Expr} {es : List Expr} {t : TA}
theorem runG {pins : List (Addr × Obj)} {σ : L2.St} {H : Hp} {s : Shared} {Q : VK} {us : List Value} {vs : List V} (F : FnG X.prog X.w X.K X.mg X.base k f fd ps sp) (hg : X.A.guards = some []) (hr : Room k X.A) (hb : Binds X.K fd ps []) (hx : Passes (L2.CX X.prog X.w) X E)
    (I : Inv X pins σ H s) (r : Vals vs us) (h : sp vs H Q E) : wpAny (model X.prog X.w) X.A (call (.ref f) us) (EP X pins σ Q) X.xe s := by
  have hl : us.length = ps.length := r.length.symm.trans (F.len _ _ _ _ h)
  have b := hb s us I.kIn (by simpa using hl)
  rw [List.append_nil] at b
  refine wpAny_call (codeAny_mono (F.run X.A X.stack s H us vs Q E hg hr I.env0 b r h) fun res s' z => ?_)
  match res, z with
  | .error er, z => exact hx pins σ H s er s' I z
  | .ok (.ret _), z => exact I.after z
  | .ok .next, z => exact z.elim
  | .ok .brk, z => exact z.elim
  | .ok .cont, z => exact z.elim
theorem pe_callG (F : FnG X.prog X.w X.K X.mg X.base k f fd ps sp) (hgd : X.A.guards = some []) (hr : Room k X.A) (hg : Gl X x) (hm : X.mg x = some (.ref f)) (hk : PySem.W.keepIn X.K (.ref f) = true) (hb : Binds X.K fd ps []) (hx : Passes (L2.CX X.prog X.w) X E) (ha : PA X (e :: es) t) (hdb : (x == ("__debug__" : Str)) = false := by decide) (he : starEach (e :: es) X.env = (false, eval e X.env) :: starEach es X.env := by rfl) (hpl : (backTo pos (starEach es X.env)).any (·.1) = false := by rfl) :
    PE X (.Call (.Name x p) (e :: es) [] pos) (fun σ H Q => t σ H fun vs H1 => sp vs H1 Q E) :=
  ⟨fun pins s σ H Q I h => wpAny_Call_Name_kw (ld_glob I hg hm (PySem.W.callWith_K (h₀ := X.base) I.ok.mod.kin hk (thn (ha.run pos pins s σ H _ I h) fun us s1 ⟨vs, H1, I1, r, q⟩ => ⟨I1.kIn, runG F hgd hr hb hx I1 r q⟩) he hpl) hdb)⟩
theorem pe_callG0 (F : FnG X.prog X.w X.K X.mg X.base k f fd ps sp) (hgd : X.A.guards = some []) (hr : Room k X.A) (hg : Gl X x) (hm : X.mg x = some (.ref f)) (hk : PySem.W.keepIn X.K (.ref f) = true) (hb : Binds X.K fd ps []) (hx : Passes (L2.CX X.prog X.w) X E)
    (hdb : (x == ("__debug__" : Str)) = false := by decide) : PE X (.Call (.Name x p) [] [] pos) (fun σ H Q => sp [] H Q E) :=
  ⟨fun pins s σ H Q I h => wpAny_Call_Name_kw (ld_glob I hg hm (PySem.W.callWith_K0 I.kIn hk (runG (us := []) F hgd hr hb hx I .nil h)) hdb)⟩
end
end DG
/-! DG2: a law's own call, from a promise that holds where nothing is being shown. -/
namespace DG
open L2 PyProof.Rows PySem PySem.Spec
open Classical in
/-- the heap in which the script alone is known (unless the module has it) -/
noncomputable def scriptHp (K : PySem.W.Frag) (a : Addr) (vs : List Value) (ns : List Int) : Hp := fun b => if b = a ∧ K.lookup a = none then some (.frz { cls := .type "list", data := .seq vs.toArray } (.lst (ns.map V.int))) else none
section
variable {P : Program} {w : World} {K : PySem.W.Frag} {a : Addr} {vs : List Value} {ns : List Int} {h : Heap}
theorem scriptHp_some {b : Addr} {u : HO} (e : scriptHp K a vs ns b = some u) : b = a ∧ K.lookup a = none ∧ u = .frz { cls := .type "list", data := .seq vs.toArray } (.lst (ns.map V.int)) := by
  unfold scriptHp at e
  split at e
  · rename_i c; exact ⟨c.1, c.2, (Option.some.inj e).symm⟩
  · cases e
theorem scriptHp_only : Only (scriptHp K a vs ns) := fun b => by
  cases e : scriptHp K a vs ns b with
  | none => exact .inl rfl
  | some u => exact .inr ⟨_, _, congrArg some (scriptHp_some e).2.2⟩
theorem scriptHp_seq (KX : K.In h) (ha : h.get? a = some { cls := .type "list", data := .seq vs.toArray }) (hi : IntsAre vs ns) (hl : ns.length ≤ sizeLine) : SqL K (scriptHp K a vs ns) a (ns.map V.int) := by
  cases hk : K.lookup a with
  | none => exact .inl (.inr ⟨{ cls := .type "list", data := .seq vs.toArray }, if_pos ⟨rfl, hk⟩⟩)
  | some o =>
    cases ha.symm.trans (KX a o hk)
    exact .inr ⟨_, vs.toArray, _, hk, rfl, rfl, rfl, by rw [List.size_toArray, hi.length]; exact hl, by simpa using vals_ints hi⟩
theorem scriptHp_ok (ha : h.get? a = some { cls := .type "list", data := .seq vs.toArray }) (hi : IntsAre vs ns) (hl : ns.length ≤ sizeLine) : HOk P w (scriptHp K a vs ns) h := fun b u e => by
  obtain ⟨rfl, _, rfl⟩ := scriptHp_some e
  exact ⟨ha, by rw [List.length_map]; exact hl, vs, _, vals_ints hi, ha⟩
end
theorem lawCall {P : Program} {w : World} {K : PySem.W.Frag} {mg mb : Str → Option Value} {k : Nat} {fa a : Addr} {fd : FuncData} {x : Str} {sp : Sp} {s : Shared} {vs : List Value} {ns : List Int}
    (KX : K.In s.heap) (hm : s.heap.Ns mainGlobals mg) (hb : s.heap.Ns builtinsNs mb) (hbb : ∀ x : Str, x ≠ "__name__" → mb x = bootBuiltins x) (lim : s.heap.NoLimit) (gens : s.gens = #[])
    (ha : s.heap.get? a = some { cls := .type "list", data := .seq vs.toArray }) (hi : IntsAre vs ns) (hl : ns.length ≤ sizeLine) (hr : Room k callerA)
    (F : ∀ base : Heap, K.In base → base.Ns mainGlobals mg → FnG P w K mg base k fa fd [x] sp) (hbind : ∀ (s : Shared) (u : Value), BindsTo s fd ⟨[u], []⟩ [(x, u)])
    (hsp : ∀ H : Hp, Only H → SqL K H a (ns.map V.int) → sp [.ref a] H (fun v _ => v = .bl true) fun _ _ _ => False) :
    codeAny (model P w) callerA (.call (.ref fa) ⟨[.ref a], []⟩) (fun r s' => r = .ok (.ret (.bool true)) ∧ OldK s.heap s'.heap ∧ s'.os = s.os ∧ AllBare s'.gens) s := by
  generalize hH : scriptHp K a vs ns = H
  have hO : Only H := hH ▸ scriptHp_only
  have hS : SqL K H a (ns.map V.int) := hH ▸ scriptHp_seq KX ha hi hl
  have hok : HOk P w H s.heap := hH ▸ scriptHp_ok ha hi hl
  have isA : ∀ {b : Addr} {u : HO}, H b = some u → b = a ∧ K.lookup a = none := fun {b u} e => by subst hH; exact ⟨(scriptHp_some e).1, (scriptHp_some e).2.1⟩
  have free : ∀ {b : Addr}, (∀ u, H b = some u → False) → H b = none := fun {b} z => by
    cases e : H b with
    | none => rfl
    | some u => exact (z u e).elim
  have dictFree : ∀ {b : Addr} {m : Str → Option Value}, s.heap.Ns b m → (hidT s.heap H).Ns b m := fun {b m} ⟨o, es, ep, e, d, r⟩ => ⟨o, es, ep, hidT_get e (free fun u z => by
    obtain ⟨rfl, _⟩ := isA z
    cases ha.symm.trans e
    cases d), d, r⟩
  have KB : K.In (hidT s.heap H) := fun b o e => hidT_get (KX b o e) (free fun u z => by
    obtain ⟨rfl, z2⟩ := isA z
    rw [z2] at e; cases e)
  obtain ⟨mc, l1, l2⟩ := lim
  have e0 : Env0 P w K mg (hidT s.heap H) callerA [] s H := ⟨rfl, ⟨KB, dictFree hm, ⟨mb, dictFree hb, hbb⟩, ⟨mc, dictFree l1, l2⟩⟩, fun b o e => of_hidT e, Nat.le_of_eq (hidT_size _ _), trivial, (fun b z => by cases z), hok, .of_eq gens⟩
  refine codeAny_mono ((F _ KB (dictFree hm)).run callerA [] s H [.ref a] [.ref a] _ _ rfl hr e0 (hbind s (.ref a)) (.cons rfl .nil) (hsp H hO hS)) fun r s' z => ?_
  match r, z with
  | .error e, ⟨_, _, _, _, _, _, _, _, _, _, _, _, z⟩ => exact z.elim
  | .ok .next, z => exact z.elim
  | .ok .brk, z => exact z.elim
  | .ok .cont, z => exact z.elim
  | .ok (.ret u), ⟨v, H', os, bare, un, hok', rv, ev⟩ =>
    subst ev
    cases rv; refine ⟨rfl, OldK.of_keep fun b o e => ?_, os, bare⟩
    cases q : H b with
    | none => exact un.keep b o e q (fun z => by cases z) (fun z => by cases z)
    | some u =>
      rcases hO b with z | ⟨ob, ys, z⟩
      · rw [q] at z; cases z
      · obtain ⟨e1, _⟩ := hok b _ z
        obtain ⟨e2, _⟩ := hok' b _ (un.frzs b ob _ z)
        cases e.symm.trans e1
        exact e2
/-- the end of a law: from the promise of its def -/
theorem walkG {l : PySem.W.OpenLaw} {n k : Nat} {q : Program} {loose : List Str} {XP : (Str → Option Value) → Heap → Prop} {YP : World → Heap → Prop} {d : DefRec} {K : Params → PySem.W.Frag} {sp : World → (Str → Option Value) → Sp} {x : Str} (hn : l.most = some n) (hn2 : n ≤ sizeLine) (hdf : d.params.defaults = []) (hr : Room k callerA) (hY : ∀ (w : World) (h : Heap), YP w h → (K w.params).In h) (F : ∀ (w : World) (mg : Str → Option Value) (fa : Addr) (h : Heap), (K w.params).In h → h.Ns mainGlobals mg → mg d.name = some (.ref fa) →
      ∃ fd : FuncData, (∀ (s : Shared) (u : Value), BindsTo s fd ⟨[u], []⟩ [(x, u)]) ∧ ∀ base : Heap, (K w.params).In base → base.Ns mainGlobals mg → FnG l.prog w (K w.params) mg base k fa fd [x] (sp w mg))
    (hsp : ∀ (w : World) (mg : Str → Option Value) (H : Hp) (a : Addr) (ns : List Int), ns.length ≤ n → Only H → SqL (K w.params) H a (ns.map V.int) → sp w mg [.ref a] H (fun v _ => v = .bl true) fun _ _ _ => False) : PySem.W.WalkO q loose XP YP l.row.toRowW d [] (fun f vs => PySem.call f vs) :=
  Att.attach_call hn hdf fun w s0 s1 mg mb fa o pm cd doc a vs ns G Y _ _ _ hmg hobj hints hlen hg => by
    obtain ⟨fd, hb, hF⟩ := F w mg fa _ (hY w _ Y) G.T.g hmg
    exact lawCall (hY w _ Y) G.T.g G.T.b G.T.builtins G.T.nolimit hg hobj hints (Nat.le_trans hlen hn2) hr hF hb fun H hO hS => hsp w mg H a ns hlen hO hS
end DG
/-! TN1: tuples that have no dict, made by displays, tuple(..), slices, sums, products. -/
namespace TN
open L2 PyProof.Rows PySem PySem.Spec
/-- a plain tuple's object -/
abbrev oT (its : List Value) : Obj := { cls := .type "tuple", data := .seq its.toArray }
/-- a plain tuple, read as it is -/
abbrev hT (its : List Value) (xs : List V) : HO := .frz (oT its) (.tup xs)
def SqN (H : Hp) (a : Addr) (xs : List V) : Prop := ∃ its, H a = some (hT its xs)
theorem SqN.of {H : Hp} {a : Addr} {xs : List V} {its : List Value} (h : H a = some (hT its xs)) : SqN H a xs := ⟨its, h⟩
theorem SqN.sqt {K : PySem.W.Frag} {H : Hp} {a : Addr} {xs : List V} (h : SqN H a xs) : SqT K H a xs := let ⟨its, e⟩ := h; .inl (.inr ⟨_, e⟩)
theorem SqN.same {H H' : Hp} {a : Addr} {xs : List V} (e : L2.Same H H') (h : SqN H a xs) : SqN H' a xs := let ⟨its, q⟩ := h; ⟨its, e _ _ q⟩
section
variable {s : Shared} {X : Cx} {pins : List (Addr × Obj)} {σ : L2.St} {H : Hp}
theorem SqN.at {a : Addr} {xs : List V} (h : SqN H a xs) (I : Inv X pins σ H s) : ∃ its, Vals xs its ∧ s.heap.get? a = some (oT its) ∧ xs.length ≤ sizeLine := by
  obtain ⟨its, e⟩ := h
  obtain ⟨e1, z, its2, r, o, e2, c, n, d⟩ := I.hok a _ e
  rw [e1] at e2
  cases e2
  have : its = its2 := by
    have d' : Data.seq its.toArray 0 = Data.seq its2.toArray n := d
    injection d' with d1 _
    have := congrArg Array.toList d1
    simpa using this
  subst this
  exact ⟨its, r, e1, z⟩
/-- a new plain tuple -/
theorem newN (I : Inv X pins σ H s) {its : List Value} {xs : List V} (r : Vals xs its) (hz : xs.length ≤ sizeLine) : Inv X pins σ (upd H s.heap.objs.size (hT its xs)) { s with heap := s.heap.push (oT its) } :=
  I.laid (t' := s.toks) (fun b ob q => Heap.get?_push_of_some _ q) (Nat.le_refl _) (show ObjOk X.prog X.w _ _ _ (hT its xs) from ⟨Heap.get?_push_size _ rfl, hz, its, r, IsTup.new _ _⟩)
/-! ### displays -/
def tTupN (t : TA) : TE := fun σ H Q => t σ H fun xs H1 => xs.length ≤ sizeLine ∧ ∀ p its, H1 p = none → Q (.ref p) (upd H1 p (hT its xs))
theorem pe_tupN {es : List Expr} {t : TA} {pos : Pos} {x1 : Nat} (h : PA X es t) : PE X (.Tuple es x1 pos) (tTupN t) := by
  refine ⟨fun pins s σ H Q I hq => wpAny_Tuple_spliced (thn (h.run pos pins s σ H _ I hq) fun us s1 ⟨xs, H1, I1, r, z, q⟩ => ⟨by rw [← r.length]; exact z, ?_⟩)⟩
  exact ⟨.ref s1.heap.objs.size, _, newN I1 r z, rfl, q _ us (I1.hok.fresh (Nat.le_refl _))⟩
/-! ### tuple(x) -/
theorem call_tupN : CallR X (.type "tuple") (fun xs H Q => ∃ p ys, xs = [.ref p] ∧ ((SqL X.K H p ys ∧ ∀ l its, H l = none → Q (.ref l) (upd H l (hT its ys))) ∨ (SqN H p ys ∧ Q (.ref p) H))) := by
  rintro pins s σ H xs us Q I r ⟨p, ys, rfl, h⟩
  obtain ⟨u, rfl, rx⟩ := vals1 r; cases rx; rcases h with ⟨hq, q⟩ | ⟨hq, q⟩
  · (obtain ⟨its, r', pl, hz⟩ := I.list hq)
    refine call_tuple_list pl.isList (fun h' kp => ?_) (by have := r'.length; simp only [List.size_toArray]; omega); have I1 : Inv X pins σ H { s with heap := h' } := I.kept (t' := s.toks) kp
    exact ⟨.ref h'.objs.size, _, newN I1 r' hz, rfl, q _ its (I1.hok.fresh (Nat.le_refl _))⟩
  · obtain ⟨its, r', pl, hz⟩ := I.tuple (hq.sqt (K := X.K))
    (exact call_tuple_same pl ⟨.ref p, H, I, rfl, q⟩)
/-! ### t + u -/
def rCatN : R2 := fun x y H Q => ∃ a b xs ys, x = .ref a ∧ y = .ref b ∧ SqN H a xs ∧ SqN H b ys ∧ xs.length + ys.length ≤ sizeLine ∧
  (xs = [] → Q (.ref b) H) ∧ (xs ≠ [] → ys = [] → Q (.ref a) H) ∧ (xs ≠ [] → ys ≠ [] → ∀ p its, H p = none → Q (.ref p) (upd H p (hT its (xs ++ ys))))
theorem op_catN : OpR X (binaryOp .Add) rCatN := by
  rintro pins s σ H x y v u Q I rx ry ⟨a, b, xs, ys, rfl, rfl, ha, hb, hz, q0, q1, q2⟩
  by_cases hx : xs = []
  · exact op_catA pins s σ H _ _ v u Q I rx ry ⟨a, b, xs, ys, rfl, rfl, ha.sqt, hb.sqt, hz, q0, q1, fun h => absurd hx h⟩
  cases rx
  cases ry
  obtain ⟨its, r1, p1, _⟩ := I.tuple (ha.sqt (K := X.K))
  obtain ⟨its2, r2, p2, _⟩ := I.tuple (hb.sqt (K := X.K))
  refine HT.cat_tup p1 p2 (fun z => hx (r1.nil_iff.mp z)) (fun z => ⟨.ref a, H, I, rfl, q1 hx (r2.nil_iff.mp z)⟩) (fun z => ?_) (by rw [← r1.length, ← r2.length]; exact hz)
  exact ⟨.ref s.heap.objs.size, _, newN I (r1.append r2) (by rw [List.length_append]; exact hz), rfl, q2 hx (fun w => z (r2.nil_iff.mpr w)) _ _ (I.hok.fresh (Nat.le_refl _))⟩
/-! ### t[lo:hi] -/
def rSlN : V → Option Int → Option Int → Hp → VK → Prop := fun x lo hi H Q => ∃ a xs, x = .ref a ∧ SqN H a xs ∧
  (HT.sIx xs.length 0 lo = 0 ∧ HT.sIx xs.length xs.length hi = xs.length → Q (.ref a) H) ∧ (¬ (HT.sIx xs.length 0 lo = 0 ∧ HT.sIx xs.length xs.length hi = xs.length) → ∀ p its, H p = none → Q (.ref p) (upd H p (hT its (cutV xs lo hi))))
theorem sl_tupN : SlR X rSlN := by
  rintro pins s σ H x v vl vu lo hi sl Q I rx hs pl pu ⟨a, xs, rfl, hx, q1, q2⟩
  by_cases hw : (HT.sIx xs.length 0 lo = 0 ∧ HT.sIx xs.length xs.length hi = xs.length)
  · exact sl_tupA pins s σ H _ v vl vu lo hi sl Q I rx hs pl pu ⟨a, xs, rfl, hx.sqt, q1, fun h => absurd hw h⟩
  cases rx
  obtain ⟨its, r, ht, hz⟩ := I.tuple (hx.sqt (K := X.K)); have hlen : its.toArray.size = xs.length := by rw [List.size_toArray]; exact r.length.symm
  refine ⟨"tuple", _, PyProof.Rows.slot_tuple_getitem.lookup, ht.typeIs, HT.getItem_tuple_cut ht hs pl pu (by rw [hlen]; exact hw) ?_ (by rw [hlen]; exact hz)⟩
  rw [hlen]
  exact ⟨.ref s.heap.objs.size, _, newN I ((r.drop (HT.sIx xs.length 0 lo)).take (HT.sIx xs.length xs.length hi - HT.sIx xs.length 0 lo)) (Nat.le_trans (cutV_length xs lo hi) hz), rfl, q2 hw _ _ (I.hok.fresh (Nat.le_refl _))⟩
/-! ### t * n -/
def rRepN : R2 := fun x y H Q => ∃ l k xs, x = .ref l ∧ y = .int k ∧ SqN H l xs ∧ xs ≠ [] ∧ 2 ≤ k ∧ k ≤ 1000 ∧ xs.length ≤ 1000 ∧ ∀ p its, H p = none → Q (.ref p) (upd H p (hT its (List.replicate k.toNat xs).flatten))
theorem op_repN : OpR X (binaryOp .Mult) rRepN := by
  rintro pins s σ H x y v u Q I rx ry ⟨l, k, xs, rfl, rfl, hT, hne, h1, h2, hz, q⟩
  cases rx
  obtain ⟨t, rfl⟩ := ry
  obtain ⟨its, r, ho, _⟩ := hT.at I; have hle : its.length = xs.length := r.length.symm
  have hn : its ≠ [] := fun e => hne (List.eq_nil_of_length_eq_zero (by rw [← hle, e]; rfl))
  have hi : its.toArray.isEmpty = false := by cases its with | nil => exact absurd rfl hn | cons a b => rfl
  (have hsz0 : its.toArray.size = xs.length := by rw [List.size_toArray, hle])
  have a0 : ((xs.length : Nat) : Int) * k ≤ 1000 * k := Int.mul_le_mul_of_nonneg_right (by omega) (by omega)
  have hm : ((its.toArray.size : Nat) : Int) * k ≤ 1000000 := by rw [hsz0]; omega
  have a1 : k.toNat * xs.length ≤ 1000 * 1000 := Nat.mul_le_mul (by omega) hz; have zle : sizeLine = 16777216 := sizeLine_eq
  have flen : (List.replicate k.toNat its).flatten.length ≤ sizeLine := by rw [PyProof.Rows.lm_len_rep_flat, hle]; omega
  have c0 : (decide (k < -(2 ^ 63)) || decide (k ≥ 2 ^ 63)) = false := by rw [decide_eq_false (by omega), decide_eq_false (by omega)] <;> rfl
  have c1 : (its.toArray.isEmpty || k == 1) = false := by rw [hi, Bool.false_or]; exact beq_eq_false_iff_ne.mpr (by omega)
  have c2 : (decide (k ≤ 0) || its.toArray.isEmpty) = false := by rw [hi, Bool.or_false]; exact decide_eq_false (by omega)
  have c4 : Builtin.Tuple.tupleTooMany (((its.toArray.size : Nat) : Int) * k) = false := by unfold Builtin.Tuple.tupleTooMany; exact decide_eq_false (by omega)
  refine wpAny_binaryOp_repeat_ref (T := "tuple") (U := "int") (by decide) ⟨_, ho, rfl⟩ (fun s' => typeIs_int s' k t) noFill_tuple_mul F.fills_int_mul F.slot_int_rmul repeat_tuple F.slot_int_index.lookup (call_meets F.slot_int_rmul (typeIs_int s k t) F.entry_int_rmul (F.args_int_rmul_2 _ _) (int_rmul_tuple k t l its.toArray 0 none #[]) ⟨ho, rfl, ⟨_, ho, rfl⟩, call_meets F.slot_tuple_mul ⟨_, ho, rfl⟩ F.entry_tuple_mul (F.args_tuple_mul_2 _ _) (tuple_mulW l its.toArray 0 none #[] k t c0 c1 c2 (by omega) c4 (by rw [size_rep, List.size_toArray]; exact flen)) ⟨ho, ?_⟩⟩)
  rw [size_rep]
  exact ⟨.ref s.heap.objs.size, _, newN I (r.rep k.toNat) (by rw [PyProof.Rows.lm_len_rep_flat]; omega), rfl, q _ _ (I.hok.fresh (Nat.le_refl _))⟩
end
/-! ### t.index(n) -/
section
variable {X : Cx} {o e : Expr} {to : TE} {t : TA} {apos cpos : Pos}
def rIndex : V → List V → Hp → VK → Prop := fun x vs H Q => ∃ (a : Addr) (ns : List Int) (k : Int), x = .ref a ∧ vs = [.int k] ∧ SqN H a (ns.map V.int) ∧ k ∈ ns ∧ Q (.int (ns.idxOf k : Nat)) H
def tIndex (to : TE) (t : TA) : TE := fun σ H Q => to σ H fun x H1 => (∃ a xs, x = .ref a ∧ SqN H1 a xs) ∧ t σ H1 fun vs H2 => rIndex x vs H2 Q
theorem ints_are : ∀ {ns : List Int} {us : List Value}, Vals (ns.map V.int) us → IntsAre us ns
  | [], _, .nil => .nil
  | k :: ns, _, .cons r q => by obtain ⟨tk, rfl⟩ := r; exact .cons k tk (ints_are q)
theorem pe_index (ho : PE X o to) (ha : PA X [e] t) (hbase : attributeBase o "index" X.env (eval o X.env) = eval o X.env := by rfl)
    (hfew : ((backTo cpos (starEach [e] X.env)).all (fun x => !x.1) && (backToKw cpos (keywordEach [] X.env)).all (fun x => x.1.isSome) && decide ([e].length + ([] : List Keyword).length + (if ([] : List Keyword).isEmpty then 0 else 1) < 30)) = true := by rfl) (hline : (apos.endLine == cpos.line) = true := by rfl) (hs : starEach [e] X.env = (false, eval e X.env) :: starEach [] X.env := by rfl) (hplain : (backTo cpos (starEach [] X.env)).any (·.1) = false := by rfl) :
    PE X (.Call (.Attribute o "index" apos) [e] [] cpos) (tIndex to t) := by
  refine ⟨fun pins s σ H Q I h => wpAny_Call_method_late hbase hfew hline rfl (thn (ho.run pins s σ H _ I h) fun v s1 ⟨x, H1, I1, r1, ⟨a, xs, ex, hx⟩, q1⟩ => ?_)⟩
  subst ex
  cases r1
  obtain ⟨its, _, e1, _⟩ := hx.at I1
  refine ⟨"tuple", "tuple.index", PySem.F.plainAttrs_tuple, PySem.F.slot_tuple_index, PySem.F.type_tuple_index, ⟨_, e1, rfl⟩, fun b eb => ?_, ?_⟩
  · cases eb; exact ⟨_, e1, rfl⟩
  have hA := ha.run cpos pins s1 σ H1 _ I1 q1; rw [hs] at hA ⊢
  refine Calls.callWith_builtin (by show (false || (backTo cpos (starEach [] X.env)).any (·.1)) = false; rw [hplain] <;> rfl) (Calls.evalArgs_plain (thn hA fun us s2 ⟨vs, H2, I2, r2, b, ns, k, eb, ev, hn, hk, q2⟩ => ?_))
  cases eb
  subst ev
  obtain ⟨u, rfl, tk, rfl⟩ := vals1 r2
  obtain ⟨its2, r3, e3, _⟩ := hn.at I2
  exact PySem.SeqAt.tuple_index_ints ⟨_, e3, rfl, _, rfl⟩ (ints_are r3) hk ⟨.int (ns.idxOf k : Nat), H2, I2.tok _, ⟨_, rfl⟩, q2⟩
end
end TN
/-! DL1: data states over the hand layer: every value is data (PyData) or a mutable list (a cell). -/
namespace DL
open PySem PySem.Spec L2

mutual
inductive Dd (K : PySem.W.Frag) (H : Hp) : V → PyData → Prop
  | non : Dd K H .non .none
  | bl (b : Bool) : Dd K H (.bl b) (.bool b)
  | int (i : Int) : Dd K H (.int i) (.int i)
  | str (x : Str) : Dd K H (.str x) (.str x)
  | lst {a : Addr} {xs : List V} {ds : List PyData} : Rd H a (.lst xs) → DdAll K H xs ds → Dd K H (.ref a) (.list ds)
  | tup {a : Addr} {xs : List V} {ds : List PyData} : TN.SqN H a xs → DdAll K H xs ds → Dd K H (.ref a) (.tuple ds)
  | dic {a : Addr} : H a = some (.dK []) → Dd K H (.ref a) (.dict [])
inductive DdAll (K : PySem.W.Frag) (H : Hp) : List V → List PyData → Prop
  | nil : DdAll K H [] []
  | cons {v : V} {vs : List V} {d : PyData} {ds : List PyData} : Dd K H v d → DdAll K H vs ds → DdAll K H (v :: vs) (d :: ds)
end

theorem Same.rd {H H' : Hp} {a : Addr} {u : HO} (e : Same H H') (h : Rd H a u) : Rd H' a u := by
  rcases h with h | ⟨o, h⟩
  · exact .inl (e _ _ h)
  · exact .inr ⟨o, e _ _ h⟩
theorem Same.sqt {K : PySem.W.Frag} {H H' : Hp} {a : Addr} {xs : List V} (e : Same H H') (h : SqT K H a xs) : SqT K H' a xs := by
  rcases h with h | h
  · exact .inl (Same.rd e h)
  · exact .inr h
section
variable {K : PySem.W.Frag} {H H' : Hp}
mutual
theorem Dd.same (e : Same H H') : ∀ (d : PyData) (v : V), Dd K H v d → Dd K H' v d
  | .none, _, h => by cases h; exact .non
  | .bool b, _, h => by cases h; exact .bl b
  | .int i, _, h => by cases h; exact .int i
  | .str x, _, h => by cases h; exact .str x
  | .list ds, _, h => by
    cases h with
    | lst hs ha => exact .lst (Same.rd e hs) (DdAll.same e ds _ ha)
  | .tuple ds, _, h => by
    cases h with
    | tup hs ha => exact .tup (TN.SqN.same e hs) (DdAll.same e ds _ ha)
  | .dict kvs, _, h => by
    cases h with
    | dic hs => exact .dic (e _ _ hs)
theorem DdAll.same (e : Same H H') : ∀ (ds : List PyData) (vs : List V), DdAll K H vs ds → DdAll K H' vs ds
  | [], _, h => by cases h; exact .nil
  | d :: ds, _, h => by
    cases h with
    | cons h1 h2 => exact .cons (Dd.same e d _ h1) (DdAll.same e ds _ h2)
end
theorem DdAll.length : ∀ {vs : List V} {ds : List PyData}, DdAll K H vs ds → vs.length = ds.length
  | _, _, .nil => rfl
  | _, _, .cons _ h => by simp [DdAll.length h]
theorem DdAll.get : ∀ {vs : List V} {ds : List PyData} {i : Nat} {v : V}, DdAll K H vs ds → vs[i]? = some v → ∃ d, ds[i]? = some d ∧ Dd K H v d
  | _, _, _, _, DdAll.nil, e => by simp at e
  | _, _, 0, _, .cons h _, e => by simp at e; subst e; exact ⟨_, rfl, h⟩
  | _, _, i + 1, v, .cons _ h, e => by
    obtain ⟨d, h1, h2⟩ := DdAll.get (i := i) (v := v) h (by simpa using e)
    exact ⟨d, by simpa using h1, h2⟩
theorem DdAll.get' : ∀ {vs : List V} {ds : List PyData} {i : Nat} {d : PyData}, DdAll K H vs ds → ds[i]? = some d → ∃ v, vs[i]? = some v ∧ Dd K H v d
  | _, _, _, _, DdAll.nil, e => by simp at e
  | _, _, 0, _, .cons h _, e => by simp at e; subst e; exact ⟨_, rfl, h⟩
  | _, _, i + 1, d, .cons _ h, e => by
    obtain ⟨v, h1, h2⟩ := DdAll.get' (i := i) (d := d) h (by simpa using e)
    exact ⟨v, by simpa using h1, h2⟩
theorem DdAll.append : ∀ {vs ws : List V} {ds es : List PyData}, DdAll K H vs ds → DdAll K H ws es → DdAll K H (vs ++ ws) (ds ++ es)
  | _, _, _, _, .nil, h => h
  | _, _, _, _, .cons h t, k => .cons h (DdAll.append t k)
theorem DdAll.take : ∀ {vs : List V} {ds : List PyData} (n : Nat), DdAll K H vs ds → DdAll K H (vs.take n) (ds.take n)
  | _, _, 0, _ => by simp; exact .nil
  | _, _, _ + 1, .nil => by simp; exact .nil
  | _, _, n + 1, .cons h t => by simp; exact .cons h (DdAll.take n t)
theorem DdAll.drop : ∀ {vs : List V} {ds : List PyData} (n : Nat), DdAll K H vs ds → DdAll K H (vs.drop n) (ds.drop n)
  | _, _, 0, h => by simpa using h
  | _, _, _ + 1, .nil => by simp; exact .nil
  | _, _, n + 1, .cons h t => by simp; exact DdAll.drop n t
theorem DdAll.set {v : V} {d : PyData} (r : Dd K H v d) : ∀ {vs : List V} {ds : List PyData} (i : Nat), DdAll K H vs ds → DdAll K H (vs.set i v) (ds.set i d)
  | _, _, _, .nil => .nil
  | _, _, 0, DdAll.cons _ t => DdAll.cons r t
  | _, _, i + 1, .cons q t => .cons q (DdAll.set r i t)
theorem DdAll.reverse : ∀ {vs : List V} {ds : List PyData}, DdAll K H vs ds → DdAll K H vs.reverse ds.reverse
  | _, _, .nil => .nil
  | _, _, .cons h t => by simp only [List.reverse_cons]; exact DdAll.append (DdAll.reverse t) (.cons h .nil)
end

/-- the world and the module's names -/
structure Wd where
  w : World
  mg : Str → Option Value
abbrev _root_.L2.Cx.wd (X : Cx) : Wd := ⟨X.w, X.mg⟩

/-! ### the state -/
/-- things of other kinds; xc: an exception that is being handled, with its object and its dict -/
inductive Oth where
  | xc (a d : Addr) (cls : Str) (fs : List (Str × PyData))
/-- a cell: a list (live, or taken as data), a dict of numbers, a set of numbers -/
inductive Cl where
  | ls (live : Bool) (ds : List PyData)
  | dk (kvs : List (Int × Int))
  | si (ns : List Int)
def kvV (kvs : List (Int × Int)) : List (Key × V) := kvs.map fun p => (.inl p.1, .int p.2)
inductive VD where
  | dat (d : PyData)
  | rf (j : Nat)
  | bag (ds : List PyData)
  | st (ds : List PyData)
  | ex (e : Str × List (Str × PyData))
  | exs (es : List (Str × List (Str × PyData)))
  | oth (o : Oth)
structure DS where
  sl : List (Option VD)
  ce : List Cl
structure Exn where
  cls : Str
  fs : List (Str × PyData)
inductive R (α : Type) where
  | ok (a : α)
  | exc (x : Exn) (S : DS)
  | bad
abbrev M (α : Type) := DS → R (α × DS)
def R.bind {α β : Type} (r : R α) (f : α → R β) : R β := match r with
  | .ok a => f a
  | .exc x S => .exc x S
  | .bad => .bad
instance : Monad M where
  pure a := fun S => .ok (a, S)
  bind t f := fun S => R.bind (t S) fun p => f p.1 p.2
def M.bad {α : Type} : M α := fun _ => .bad
theorem M.pure_run {α : Type} (a : α) (S : DS) : (pure a : M α) S = .ok (a, S) := rfl
theorem M.bind_run {α β : Type} (t : M α) (f : α → M β) (S : DS) : (t >>= f) S = R.bind (t S) fun p => f p.1 p.2 := rfl

/-- an exception of an own class as a value: its class by its name, its fields (newest first) -/
def RdX (K : PySem.W.Frag) (wl : Wd) (G : Hp) (e : Str × List (Str × PyData)) (v : V) : Prop := ∃ (a C : Addr) (d : Option Addr), v = .ref a ∧ wl.mg e.1 = some (.ref C) ∧ G a = some (exo a C d) ∧
  ((d = none ∧ e.2 = []) ∨ ∃ (dx : Addr) (vs : List V), d = some dx ∧ G dx = some (exd dx ((e.2.map (·.1)).zip vs)) ∧ DdAll K G vs (e.2.map (·.2)))
def RdXs (K : PySem.W.Frag) (wl : Wd) (G : Hp) : List (Str × List (Str × PyData)) → List V → Prop
  | [], [] => True
  | x :: xs, v :: vs => RdX K wl G x v ∧ RdXs K wl G xs vs
  | _, _ => False
theorem RdX.same {K : PySem.W.Frag} {wl : Wd} {G G' : Hp} (s : Same G G') {e : Str × List (Str × PyData)} {v : V} (h : RdX K wl G e v) : RdX K wl G' e v := by
  obtain ⟨a, C, d, h1, h2, h3, h4⟩ := h
  refine ⟨a, C, d, h1, h2, s _ _ h3, ?_⟩
  rcases h4 with h4 | ⟨dx, vs, h5, h6, h7⟩
  · exact .inl h4
  · exact .inr ⟨dx, vs, h5, s _ _ h6, DdAll.same s _ _ h7⟩
theorem RdXs.same {K : PySem.W.Frag} {wl : Wd} {G G' : Hp} (s : Same G G') : ∀ {es : List (Str × List (Str × PyData))} {vs : List V}, RdXs K wl G es vs → RdXs K wl G' es vs
  | [], [], _ => trivial
  | _ :: _, _ :: _, h => ⟨RdX.same s h.1, RdXs.same s h.2⟩
  | [], _ :: _, h => h.elim
  | _ :: _, [], h => h.elim
def RdO (K : PySem.W.Frag) (wl : Wd) (G : Hp) : Oth → V → Prop
  | .xc a d cls fs, v => v = .ref a ∧ ∃ (C : Addr) (vs : List V), wl.mg cls = some (.ref C) ∧ G d = some (.xd ((fs.map (·.1)).zip vs)) ∧ DdAll K G vs (fs.map (·.2))
theorem RdO.same {K : PySem.W.Frag} {wl : Wd} {G G' : Hp} (s : Same G G') {o : Oth} {v : V} (h : RdO K wl G o v) : RdO K wl G' o v := by
  cases o with
  | xc a d cls fs =>
    obtain ⟨h1, C, vs, h2, h3, h4⟩ := h
    exact ⟨h1, C, vs, h2, s _ _ h3, DdAll.same s _ _ h4⟩
/-- what stands for a value -/
def RdV (K : PySem.W.Frag) (wl : Wd) (rs : List Addr) (G : Hp) : VD → V → Prop
  | .dat d, v => Dd K G v d
  | .rf j, v => ∃ a, rs[j]? = some a ∧ v = .ref a
  | .bag ds, v => ∃ a vs, v = .ref a ∧ SqL K G a vs ∧ DdAll K G vs ds
  | .st ds, v => ∃ a B, v = .ref a ∧ G a = some (NS.setHO wl.w a B) ∧ (∀ p ∈ B, ∃ d, d ∈ ds ∧ NS.keyOf d = some p.2 ∧ p.2.depth ≤ 8 ∧ Dd K G (.ref p.1) d) ∧ (∀ d ∈ ds, ∃ k, NS.keyOf d = some k ∧ k ∈ B.map (·.2))
  | .ex e, v => RdX K wl G e v
  | .exs es, v => ∃ a vs, v = .ref a ∧ SqL K G a vs ∧ RdXs K wl G es vs
  | .oth o, v => RdO K wl G o v
def RdVs (K : PySem.W.Frag) (wl : Wd) (rs : List Addr) (G : Hp) : List VD → List V → Prop
  | [], [] => True
  | x :: xs, v :: vs => RdV K wl rs G x v ∧ RdVs K wl rs G xs vs
  | _, _ => False
def CellOk (K : PySem.W.Frag) (wl : Wd) (F G H : Hp) (a : Addr) : Cl → Prop
  | .ls true ds => F a = none ∧ G a = none ∧ ∃ vs, H a = some (.lst vs) ∧ DdAll K G vs ds
  | .ls false ds => ∃ vs, G a = some (.lst vs) ∧ DdAll K G vs ds
  | .dk kvs => F a = none ∧ G a = none ∧ H a = some (.dK (kvV kvs))
  | .si ns => F a = none ∧ G a = none ∧ H a = some (SetO wl.w a (fun k => decide (k ∈ ns)) ns.length) ∧ ns.Nodup
structure Md (K : PySem.W.Frag) (wl : Wd) (F : Hp) (rs : List Addr) (S : DS) (σ : St) (H G : Hp) : Prop where
  len : S.sl.length = σ.length
  sub : Same G H
  frm : Same F H
  rl : rs.length = S.ce.length
  nd : rs.Nodup
  cel : ∀ (j : Nat) (a : Addr) (c : Cl), rs[j]? = some a → S.ce[j]? = some c → CellOk K wl F G H a c
  slot : ∀ (i : Nat) (x : VD), S.sl[i]? = some (some x) → ∃ v, σ[i]? = some (some v) ∧ RdV K wl rs G x v
def Up (rs : List Addr) (G : Hp) (rs' : List Addr) (G' : Hp) : Prop := (∃ more, rs' = rs ++ more) ∧ Same G G'
theorem Up.refl {rs : List Addr} {G : Hp} : Up rs G rs G := ⟨⟨[], by simp⟩, L2.Same.refl G⟩
theorem Up.trans {rs rs1 rs2 : List Addr} {G G1 G2 : Hp} (a : Up rs G rs1 G1) (b : Up rs1 G1 rs2 G2) : Up rs G rs2 G2 := by
  obtain ⟨⟨m, rfl⟩, s⟩ := a
  obtain ⟨⟨m', rfl⟩, s'⟩ := b
  exact ⟨⟨m ++ m', by simp⟩, L2.Same.trans s s'⟩
theorem RdV.up {K : PySem.W.Frag} {wl : Wd} {rs rs' : List Addr} {G G' : Hp} (u : Up rs G rs' G') : ∀ {x : VD} {v : V}, RdV K wl rs G x v → RdV K wl rs' G' x v := by
  intro x v h
  obtain ⟨⟨m, rfl⟩, s⟩ := u
  cases x with
  | dat d => exact Dd.same s d v h
  | rf j =>
    obtain ⟨a, ha, e⟩ := h
    exact ⟨a, by rw [List.getElem?_append_left (List.getElem?_eq_some_iff.mp ha).1]; exact ha, e⟩
  | bag ds =>
    obtain ⟨a, vs, e, h1, h2⟩ := h
    exact ⟨a, vs, e, L2.Same.seq s h1, DdAll.same s _ _ h2⟩
  | st ds =>
    obtain ⟨a, B, e, h1, h2, h3⟩ := h
    exact ⟨a, B, e, s _ _ h1, fun p hp => let ⟨d, q1, q2, q3, q4⟩ := h2 p hp; ⟨d, q1, q2, q3, Dd.same s _ _ q4⟩, h3⟩
  | ex e => exact RdX.same s h
  | exs es =>
    obtain ⟨a, vs, e, h1, h2⟩ := h
    exact ⟨a, vs, e, L2.Same.seq s h1, RdXs.same s h2⟩
  | oth o => exact RdO.same s h
theorem RdVs.up {K : PySem.W.Frag} {wl : Wd} {rs rs' : List Addr} {G G' : Hp} (u : Up rs G rs' G') : ∀ {xs : List VD} {vs : List V}, RdVs K wl rs G xs vs → RdVs K wl rs' G' xs vs
  | [], [], _ => trivial
  | _ :: _, _ :: _, h => ⟨RdV.up u h.1, RdVs.up u h.2⟩
  | [], _ :: _, h => h
  | _ :: _, [], h => h
theorem RdVs.length {K : PySem.W.Frag} {wl : Wd} {rs : List Addr} {G : Hp} : ∀ {xs : List VD} {vs : List V}, RdVs K wl rs G xs vs → xs.length = vs.length
  | [], [], _ => rfl
  | _ :: _, _ :: _, h => by simp [RdVs.length h.2]
  | [], _ :: _, h => h.elim
  | _ :: _, [], h => h.elim

/-! ### readings of values in the heap -/
section
variable {K : PySem.W.Frag} {wl : Wd} {F : Hp} {rs : List Addr} {S : DS} {σ : St} {H G : Hp}
/-- the data that a value is now -/
def peekS (S : DS) : VD → Option PyData
  | .dat d => some d
  | .rf j => match S.ce[j]? with
    | some (.ls _ ds) => some (.list ds)
    | _ => none
  | .bag _ => none
  | .st _ => none
  | .ex _ => none
  | .exs _ => none
  | .oth _ => none
theorem Md.addr (m : Md K wl F rs S σ H G) {j : Nat} {c : Cl} (h : S.ce[j]? = some c) : ∃ a, rs[j]? = some a := by
  have h1 := (List.getElem?_eq_some_iff.mp h).1
  exact ⟨rs[j]'(by rw [m.rl]; exact h1), List.getElem?_eq_getElem _⟩
theorem CellOk.list {a : Addr} {b : Bool} {ds : List PyData} (s : Same G H) (h : CellOk K wl F G H a (.ls b ds)) : ∃ vs, Rd H a (.lst vs) ∧ DdAll K G vs ds := by
  cases b with
  | true =>
    obtain ⟨_, _, vs, hv, hd⟩ := h
    exact ⟨vs, Rd.of hv, hd⟩
  | false =>
    obtain ⟨vs, hs, ha⟩ := h
    exact ⟨vs, Rd.of (s _ _ hs), ha⟩
theorem Md.peek (m : Md K wl F rs S σ H G) {x : VD} {v : V} {d : PyData} (h : RdV K wl rs G x v) (p : peekS S x = some d) : Dd K H v d := by
  cases x with
  | dat d' => cases p; exact Dd.same m.sub _ _ h
  | rf j =>
    obtain ⟨a, ha, rfl⟩ := h
    unfold peekS at p
    cases e : S.ce[j]? with
    | none => simp [e] at p
    | some c =>
      cases c with
      | dk _ => simp [e] at p
      | si _ => simp [e] at p
      | ls b es =>
      simp [e] at p
      subst p
      obtain ⟨vs, h1, h2⟩ := CellOk.list m.sub (m.cel j a _ ha e)
      exact .lst h1 (DdAll.same m.sub _ _ h2)
  | bag ds => cases p
  | st ds => cases p
  | ex _ => cases p
  | exs _ => cases p
  | oth _ => cases p
/-- a list: the object, its items by the data heap -/
theorem Md.peekL (m : Md K wl F rs S σ H G) {x : VD} {v : V} {ds : List PyData} (h : RdV K wl rs G x v) (p : peekS S x = some (.list ds)) : ∃ a vs, v = .ref a ∧ Rd H a (.lst vs) ∧ DdAll K G vs ds := by
  cases x with
  | dat d' =>
    cases p
    cases (show Dd K G v (.list ds) from h) with
    | lst hs ha => exact ⟨_, _, rfl, Same.rd m.sub hs, ha⟩
  | rf j =>
    obtain ⟨a, ha, rfl⟩ := h
    unfold peekS at p
    cases e : S.ce[j]? with
    | none => simp [e] at p
    | some c =>
      cases c with
      | dk _ => simp [e] at p
      | si _ => simp [e] at p
      | ls b es =>
      simp [e] at p
      subst p
      obtain ⟨vs, h1, h2⟩ := CellOk.list m.sub (m.cel j a _ ha e)
      exact ⟨a, vs, rfl, h1, h2⟩
  | bag ds => cases p
  | st ds => cases p
  | ex _ => cases p
  | exs _ => cases p
  | oth _ => cases p
theorem peek_tuple {S : DS} {x : VD} {ds : List PyData} (p : peekS S x = some (.tuple ds)) : x = .dat (.tuple ds) := by
  cases x with
  | dat d => cases p; rfl
  | rf j =>
    unfold peekS at p
    cases e : S.ce[j]? with
    | none => simp [e] at p
    | some c => cases c <;> simp [e] at p
  | bag _ => cases p
  | st _ => cases p
  | ex _ => cases p
  | exs _ => cases p
  | oth _ => cases p
theorem Md.peekT (m : Md K wl F rs S σ H G) {x : VD} {v : V} {ds : List PyData} (h : RdV K wl rs G x v) (p : peekS S x = some (.tuple ds)) : ∃ a vs, v = .ref a ∧ TN.SqN H a vs ∧ DdAll K G vs ds ∧ Dd K G v (.tuple ds) := by
  cases peek_tuple p
  cases (show Dd K G v (.tuple ds) from h) with
  | tup hs ha => exact ⟨_, _, rfl, TN.SqN.same m.sub hs, ha, .tup hs ha⟩

/-! ### changes -/
theorem free_of {p : Addr} (e : Same G H) (h : H p = none) : G p = none := L2.Same.free e h
theorem same_upd {p : Addr} {o : HO} (h : G p = none) : Same G (upd G p o) := fun b u q => by
  rw [upd_ne (ne_of_none q h)]; exact q
theorem same_upd2 {p : Addr} {o : HO} (e : Same G H) : Same (upd G p o) (upd H p o) := fun b u q => by
  by_cases hb : b = p
  · subst hb; rw [upd_same] at q ⊢; exact q
  · rw [upd_ne hb] at q ⊢; exact e b u q
theorem same_updR {p : Addr} {o : HO} (e : Same G H) (h : G p = none) : Same G (upd H p o) := fun b u q => by
  rw [upd_ne (ne_of_none q h)]; exact e b u q
/-- a new immutable object -/
theorem Md.new (m : Md K wl F rs S σ H G) {p : Addr} {o : HO} (h : H p = none) : Md K wl F rs S σ (upd H p o) (upd G p o) where
  len := m.len
  sub := same_upd2 m.sub
  frm := same_updR m.frm (L2.Same.free m.frm h)
  rl := m.rl
  nd := m.nd
  cel := fun j a c h1 h2 => by
    have k := m.cel j a c h1 h2
    have gp : G p = none := L2.Same.free m.sub h
    cases c with
    | ls b ds =>
      cases b with
      | true =>
        obtain ⟨f, g, vs, hv, hd⟩ := k
        have ne : a ≠ p := ne_of_none hv h
        exact ⟨f, by rw [upd_ne ne]; exact g, vs, by rw [upd_ne ne]; exact hv, DdAll.same (same_upd gp) _ _ hd⟩
      | false =>
        obtain ⟨vs, hv, hd⟩ := k
        exact ⟨vs, same_upd gp _ _ hv, DdAll.same (same_upd gp) _ _ hd⟩
    | dk kvs =>
      obtain ⟨f, g, hv⟩ := k
      have ne : a ≠ p := ne_of_none hv h
      exact ⟨f, by rw [upd_ne ne]; exact g, by rw [upd_ne ne]; exact hv⟩
    | si ns =>
      obtain ⟨f, g, hv, hn⟩ := k
      have ne : a ≠ p := ne_of_none hv h
      exact ⟨f, by rw [upd_ne ne]; exact g, by rw [upd_ne ne]; exact hv, hn⟩
  slot := fun i x h1 => by
    obtain ⟨v, h2, h3⟩ := m.slot i x h1
    exact ⟨v, h2, RdV.up ⟨⟨[], by simp⟩, same_upd (L2.Same.free m.sub h)⟩ h3⟩
/-- a new cell, whatever it is -/
theorem Md.cellG (m : Md K wl F rs S σ H G) {p : Addr} {u : HO} {c : Cl} (h : H p = none) (hc : ∀ Fp Gp : Hp, Fp p = none → Gp p = none → Same G Gp → CellOk K wl Fp Gp (upd H p u) p c) :
    Md K wl F (rs ++ [p]) { S with ce := S.ce ++ [c] } σ (upd H p u) G where
  len := m.len
  sub := same_updR m.sub (L2.Same.free m.sub h)
  frm := same_updR m.frm (L2.Same.free m.frm h)
  rl := by simp [m.rl]
  nd := by
    rw [List.nodup_append]
    refine ⟨m.nd, by simp, fun a ha b hb => ?_⟩
    have e : b = p := by simpa using hb
    subst e
    obtain ⟨j, hj, e⟩ := List.getElem_of_mem ha
    have h1 : rs[j]? = some a := by rw [List.getElem?_eq_getElem hj, e]
    have h2 : S.ce[j]? = some (S.ce[j]'(by rw [← m.rl]; exact hj)) := List.getElem?_eq_getElem _
    rintro rfl
    have k := m.cel j a _ h1 h2
    revert k
    generalize S.ce[j]'(by rw [← m.rl]; exact hj) = c
    intro k
    cases c with
    | ls b ds' =>
      cases b with
      | true =>
        obtain ⟨_, _, vs'', hv, _⟩ := k
        rw [h] at hv; cases hv
      | false =>
        obtain ⟨_, hs, _⟩ := k
        rw [L2.Same.free m.sub h] at hs; cases hs
    | dk kvs =>
      obtain ⟨_, _, hv⟩ := k
      rw [h] at hv; cases hv
    | si ns =>
      obtain ⟨_, _, hv, _⟩ := k
      rw [h] at hv; cases hv
  cel := fun j a c' h1 h2 => by
    by_cases hj : j < rs.length
    · rw [List.getElem?_append_left hj] at h1
      rw [List.getElem?_append_left (by rw [← m.rl]; exact hj)] at h2
      have k := m.cel j a c' h1 h2
      cases c' with
      | ls b ds' =>
        cases b with
        | true =>
          obtain ⟨f, g, vs', hv, hd'⟩ := k
          exact ⟨f, g, vs', by rw [upd_ne (ne_of_none hv h)]; exact hv, hd'⟩
        | false => exact k
      | dk kvs =>
        obtain ⟨f, g, hv⟩ := k
        exact ⟨f, g, by rw [upd_ne (ne_of_none hv h)]; exact hv⟩
      | si ns =>
        obtain ⟨f, g, hv, hn⟩ := k
        exact ⟨f, g, by rw [upd_ne (ne_of_none hv h)]; exact hv, hn⟩
    · have hj' : j = rs.length := by
        have := (List.getElem?_eq_some_iff.mp h1).1
        simp at this
        omega
      subst hj'
      rw [List.getElem?_append_right (Nat.le_refl _)] at h1
      rw [List.getElem?_append_right (by rw [m.rl]; exact Nat.le_refl _)] at h2
      simp at h1
      simp [m.rl] at h2
      subst h1 h2
      exact hc F G (L2.Same.free m.frm h) (L2.Same.free m.sub h) (L2.Same.refl G)
  slot := fun i x h1 => by
    obtain ⟨v, h2, h3⟩ := m.slot i x h1
    exact ⟨v, h2, RdV.up ⟨⟨[p], rfl⟩, L2.Same.refl G⟩ h3⟩
/-- a new list -/
theorem Md.cell (m : Md K wl F rs S σ H G) {p : Addr} {vs : List V} {ds : List PyData} (h : H p = none) (hd : DdAll K G vs ds) :
    Md K wl F (rs ++ [p]) { S with ce := S.ce ++ [.ls true ds] } σ (upd H p (.lst vs)) G :=
  m.cellG h fun Fp Gp f g s => ⟨f, g, vs, upd_same, DdAll.same s _ _ hd⟩
/-- a new dict -/
theorem Md.cellD (m : Md K wl F rs S σ H G) {p : Addr} {kvs : List (Int × Int)} (h : H p = none) :
    Md K wl F (rs ++ [p]) { S with ce := S.ce ++ [.dk kvs] } σ (upd H p (.dK (kvV kvs))) G :=
  m.cellG h fun Fp Gp f g s => ⟨f, g, upd_same⟩
theorem Md.nd_ne (m : Md K wl F rs S σ H G) {i j : Nat} {a b : Addr} (h1 : rs[i]? = some a) (h2 : rs[j]? = some b) (h : i ≠ j) : a ≠ b := by
  intro e
  subst e
  obtain ⟨l1, e1⟩ := List.getElem?_eq_some_iff.mp h1
  obtain ⟨l2, e2⟩ := List.getElem?_eq_some_iff.mp h2
  exact h ((List.getElem_inj m.nd).mp (e1.trans e2.symm))
/-- a cell becomes data -/
theorem Md.freeze (m : Md K wl F rs S σ H G) {j : Nat} {a : Addr} {ds : List PyData} (ha : rs[j]? = some a) (h : S.ce[j]? = some (.ls true ds)) :
    ∃ G', Same G G' ∧ Md K wl F rs { S with ce := S.ce.set j (.ls false ds) } σ H G' ∧ Dd K G' (.ref a) (.list ds) := by
  obtain ⟨f, g, vs, hv, hd⟩ := m.cel j a _ ha h
  have sg : Same G (upd G a (.lst vs)) := same_upd g
  refine ⟨upd G a (.lst vs), sg, ⟨m.len, fun b u q => ?_, m.frm, by simp [m.rl], m.nd, fun i b c h1 h2 => ?_, fun i x h1 => ?_⟩, .lst (Rd.of upd_same) (DdAll.same sg _ _ hd)⟩
  · by_cases hb : b = a
    · subst hb; rw [upd_same] at q; cases q; exact hv
    · rw [upd_ne hb] at q; exact m.sub b u q
  · by_cases hi : i = j
    · subst hi
      rw [ha] at h1; cases h1
      rw [List.getElem?_set_self (List.getElem?_eq_some_iff.mp h).1] at h2
      cases h2
      exact ⟨vs, upd_same, DdAll.same sg _ _ hd⟩
    · rw [List.getElem?_set_ne (Ne.symm hi)] at h2
      have k := m.cel i b c h1 h2
      cases c with
      | ls bb ds' =>
        cases bb with
        | true =>
          obtain ⟨f', g', vs', hv', hd'⟩ := k
          exact ⟨f', by rw [upd_ne (m.nd_ne h1 ha hi)]; exact g', vs', hv', DdAll.same sg _ _ hd'⟩
        | false =>
          obtain ⟨vs', hv', hd'⟩ := k
          exact ⟨vs', sg _ _ hv', DdAll.same sg _ _ hd'⟩
      | dk kvs =>
        obtain ⟨f', g', hv'⟩ := k
        exact ⟨f', by rw [upd_ne (m.nd_ne h1 ha hi)]; exact g', hv'⟩
      | si ns =>
        obtain ⟨f', g', hv', hn'⟩ := k
        exact ⟨f', by rw [upd_ne (m.nd_ne h1 ha hi)]; exact g', hv', hn'⟩
  · obtain ⟨v, h2, h3⟩ := m.slot i x h1
    exact ⟨v, h2, RdV.up ⟨⟨[], by simp⟩, sg⟩ h3⟩
/-- a live cell is written -/
theorem Md.writeG (m : Md K wl F rs S σ H G) {j : Nat} {a : Addr} {u : HO} {c' : Cl} (ha : rs[j]? = some a) (hj : j < S.ce.length) (f : F a = none) (g : G a = none) (hc : CellOk K wl F G (upd H a u) a c') :
    Md K wl F rs { S with ce := S.ce.set j c' } σ (upd H a u) G := by
  refine ⟨m.len, same_updR m.sub g, same_updR m.frm f, by simp [m.rl], m.nd, fun i b c h1 h2 => ?_, m.slot⟩
  by_cases hi : i = j
  · subst hi
    rw [ha] at h1; cases h1
    rw [List.getElem?_set_self hj] at h2
    cases h2
    exact hc
  · rw [List.getElem?_set_ne (Ne.symm hi)] at h2
    have k := m.cel i b c h1 h2
    cases c with
    | ls bb ds' =>
      cases bb with
      | true =>
        obtain ⟨f', g', vs'', hv'', hd''⟩ := k
        exact ⟨f', g', vs'', by rw [upd_ne (m.nd_ne h1 ha hi)]; exact hv'', hd''⟩
      | false => exact k
    | dk kvs =>
      obtain ⟨f', g', hv''⟩ := k
      exact ⟨f', g', by rw [upd_ne (m.nd_ne h1 ha hi)]; exact hv''⟩
    | si ns =>
      obtain ⟨f', g', hv'', hn'⟩ := k
      exact ⟨f', g', by rw [upd_ne (m.nd_ne h1 ha hi)]; exact hv'', hn'⟩
theorem Md.write (m : Md K wl F rs S σ H G) {j : Nat} {a : Addr} {ds ds' : List PyData} {vs' : List V} (ha : rs[j]? = some a) (h : S.ce[j]? = some (.ls true ds)) (hd' : DdAll K G vs' ds') :
    Md K wl F rs { S with ce := S.ce.set j (.ls true ds') } σ (upd H a (.lst vs')) G := by
  obtain ⟨f, g, vs, hv, hd⟩ := m.cel j a _ ha h
  exact m.writeG ha (List.getElem?_eq_some_iff.mp h).1 f g ⟨f, g, vs', upd_same, hd'⟩
/-- a new set of numbers -/
theorem Md.cellS (m : Md K wl F rs S σ H G) {p : Addr} {ns : List Int} (h : H p = none) (hn : ns.Nodup) :
    Md K wl F (rs ++ [p]) { S with ce := S.ce ++ [.si ns] } σ (upd H p (SetO wl.w p (fun k => decide (k ∈ ns)) ns.length)) G :=
  m.cellG h fun Fp Gp f g s => ⟨f, g, upd_same, hn⟩
/-- a set of numbers is written -/
theorem Md.writeS (m : Md K wl F rs S σ H G) {j : Nat} {a : Addr} {ns ns' : List Int} (ha : rs[j]? = some a) (h : S.ce[j]? = some (.si ns)) (hn : ns'.Nodup) :
    Md K wl F rs { S with ce := S.ce.set j (.si ns') } σ (upd H a (SetO wl.w a (fun k => decide (k ∈ ns')) ns'.length)) G := by
  obtain ⟨f, g, _, _⟩ := m.cel j a _ ha h
  exact m.writeG ha (List.getElem?_eq_some_iff.mp h).1 f g ⟨f, g, upd_same, hn⟩
/-- a dict is written -/
theorem Md.writeD (m : Md K wl F rs S σ H G) {j : Nat} {a : Addr} {kvs kvs' : List (Int × Int)} (ha : rs[j]? = some a) (h : S.ce[j]? = some (.dk kvs)) :
    Md K wl F rs { S with ce := S.ce.set j (.dk kvs') } σ (upd H a (.dK (kvV kvs'))) G := by
  obtain ⟨f, g, hv⟩ := m.cel j a _ ha h
  exact m.writeG ha (List.getElem?_eq_some_iff.mp h).1 f g ⟨f, g, upd_same⟩
theorem Md.store (m : Md K wl F rs S σ H G) {i : Nat} {x : VD} {v : V} (h : RdV K wl rs G x v) : Md K wl F rs { S with sl := S.sl.set i (some x) } (σ.set i (some v)) H G := by
  refine ⟨by simp [m.len], m.sub, m.frm, m.rl, m.nd, m.cel, fun k y h1 => ?_⟩
  by_cases hk : k = i
  · subst hk
    have hl := (List.getElem?_eq_some_iff.mp h1).1
    simp at hl
    rw [List.getElem?_set_self hl] at h1
    cases h1
    exact ⟨v, by rw [List.getElem?_set_self (by rw [← m.len]; exact hl)], h⟩
  · rw [List.getElem?_set_ne (Ne.symm hk)] at h1
    rw [List.getElem?_set_ne (Ne.symm hk)]
    exact m.slot k y h1
/-- only the cells -/
theorem Md.cells (m : Md K wl F rs S σ H G) : Md K wl F rs ⟨[], S.ce⟩ [] H G := ⟨rfl, m.sub, m.frm, m.rl, m.nd, m.cel, fun i x h => by simp at h⟩
theorem Md.slots {ce : List Cl} {sl : List (Option VD)} (m : Md K wl F rs ⟨[], ce⟩ [] H G) (hl : sl.length = σ.length) (hs : ∀ (i : Nat) (x : VD), sl[i]? = some (some x) → ∃ v, σ[i]? = some (some v) ∧ RdV K wl rs G x v) : Md K wl F rs ⟨sl, ce⟩ σ H G :=
  ⟨hl, m.sub, m.frm, m.rl, m.nd, m.cel, hs⟩
end
end DL
/-! DL2: readings over data states. -/
namespace DL
open PySem PySem.Spec L2

section
variable {α β γ δ : Type}
/-- what is to be shown behind a run -/
def Post (K : PySem.W.Frag) (wl : Wd) (mg : Str → Option Value) (E : XK) (F : Hp) (σ : L2.St) (Rel : List Addr → Hp → α → β → Prop) (rs : List Addr) (G : Hp) (r : R (α × DS)) (Q : β → Hp → Prop) : Prop :=
  match r with
  | .ok p => ∀ (b : β) (H' G' : Hp) (rs' : List Addr), Up rs G rs' G' → Md K wl F rs' p.2 σ H' G' → Rel rs' G' p.1 b → Q b H'
  | .exc x S' => ∀ (C dx : Addr) (vs : List V) (H' G' : Hp) (rs' : List Addr), Up rs G rs' G' → Md K wl F rs' ⟨[], S'.ce⟩ [] H' G' → mg x.cls = some (.ref C) → H' dx = some (.xd ((x.fs.map (·.1)).zip vs)) → DdAll K G' vs (x.fs.map (·.2)) → E (.ref C) (some dx) H'
  | .bad => False
/-- the reading of a run -/
def lift (K : PySem.W.Frag) (wl : Wd) (mg : Str → Option Value) (E : XK) (Rel : List Addr → Hp → α → β → Prop) (t : M α) : L2.St → Hp → (β → Hp → Prop) → Prop := fun σ H Q =>
  ∃ (F : Hp) (rs : List Addr) (S : DS) (G : Hp), Md K wl F rs S σ H G ∧ Post K wl mg E F σ Rel rs G (t S) Q

variable {K : PySem.W.Frag} {wl : Wd} {mg : Str → Option Value} {E : XK} {F : Hp} {σ : L2.St} {rs rs1 : List Addr} {G G1 H : Hp} {Rel : List Addr → Hp → α → β → Prop} {Rel2 : List Addr → Hp → γ → δ → Prop}
theorem Post.up (u : Up rs G rs1 G1) {r : R (α × DS)} {Q : β → Hp → Prop} (h : Post K wl mg E F σ Rel rs G r Q) : Post K wl mg E F σ Rel rs1 G1 r Q := by
  cases r with
  | ok p => exact fun b H' G' rs' u' m r => h b H' G' rs' (u.trans u') m r
  | exc x S' => exact fun C dx vs H' G' rs' u' => h C dx vs H' G' rs' (u.trans u')
  | bad => exact h
theorem Post.mono {r : R (α × DS)} {Q Q' : β → Hp → Prop} (hQ : ∀ b H, Q b H → Q' b H) (h : Post K wl mg E F σ Rel rs G r Q) : Post K wl mg E F σ Rel rs G r Q' := by
  cases r with
  | ok p => exact fun b H' G' rs' u' m r => hQ _ _ (h b H' G' rs' u' m r)
  | exc x S' => exact h
  | bad => exact h
/-- first t, then the rest -/
theorem Post.seq {t : M α} {g : α → M γ} {S : DS} {Q : δ → Hp → Prop} (h : Post K wl mg E F σ Rel2 rs G ((t >>= g) S) Q) :
    Post K wl mg E F σ Rel rs G (t S) (fun (b : β) H1 => ∃ rs1 S1 G1 a, Up rs G rs1 G1 ∧ Md K wl F rs1 S1 σ H1 G1 ∧ Rel rs1 G1 a b ∧ Post K wl mg E F σ Rel2 rs1 G1 (g a S1) Q) := by
  rw [M.bind_run] at h
  cases e : t S with
  | ok p =>
    rw [e] at h
    exact fun b H' G' rs' u m r => ⟨rs', p.2, G', p.1, u, m, r, Post.up u h⟩
  | exc x S' => rw [e] at h; exact h
  | bad => rw [e] at h; exact h
theorem Post.ret {a : α} {S : DS} {Q : β → Hp → Prop} {b : β} (m : Md K wl F rs S σ H G) (h : Post K wl mg E F σ Rel rs G (.ok (a, S)) Q) (r : Rel rs G a b) : Q b H := h b H G rs Up.refl m r
theorem lift_of {t : M α} {S : DS} {Q : β → Hp → Prop} (m : Md K wl F rs S σ H G) (h : Post K wl mg E F σ Rel rs G (t S) Q) : lift K wl mg E Rel t σ H Q := ⟨F, rs, S, G, m, h⟩
end

/-! ### the four judgements -/
abbrev liftE (K : PySem.W.Frag) (wl : Wd) (mg : Str → Option Value) (E : XK) (t : M VD) : TE := lift K wl mg E (RdV K wl) t
abbrev liftT (K : PySem.W.Frag) (wl : Wd) (mg : Str → Option Value) (E : XK) (t : M Bool) : TT := lift K wl mg E (fun _ _ (a : Bool) (b : Bool) => a = b) t
abbrev liftA (K : PySem.W.Frag) (wl : Wd) (mg : Str → Option Value) (E : XK) (t : M (List VD)) : TA := lift K wl mg E (RdVs K wl) t
abbrev PD (X : Cx) (E : XK) (e : Expr) (t : M VD) : Prop := PE X e (liftE X.K X.wd X.mg E t)
abbrev PDT (X : Cx) (E : XK) (e : Expr) (t : M Bool) : Prop := PT X e (liftT X.K X.wd X.mg E t)
abbrev PDW (X : Cx) (E : XK) (e : Expr) (t : M Bool) : Prop := PW X e (liftT X.K X.wd X.mg E t)
abbrev PDA (X : Cx) (E : XK) (es : List Expr) (t : M (List VD)) : Prop := PA X es (liftA X.K X.wd X.mg E t)

section
variable {X : Cx} {E : XK} {e : Expr}
theorem PE.weak {t t' : TE} (h : PE X e t) (k : ∀ σ H Q, t' σ H Q → t σ H Q) : PE X e t' := ⟨fun pins s σ H Q I q => h.run pins s σ H Q I (k _ _ _ q)⟩
theorem PT.weak {t t' : TT} (h : PT X e t) (k : ∀ σ H Q, t' σ H Q → t σ H Q) : PT X e t' := ⟨fun pins s σ H Q I q => h.run pins s σ H Q I (k _ _ _ q)⟩
theorem PW.weak {t t' : TT} (h : PW X e t) (k : ∀ σ H Q, t' σ H Q → t σ H Q) : PW X e t' := ⟨fun wh pins s σ H Q I q => h.run wh pins s σ H Q I (k _ _ _ q)⟩
theorem PA.weak {es : List Expr} {t t' : TA} (h : PA X es t) (k : ∀ σ H Q, t' σ H Q → t σ H Q) : PA X es t' := ⟨fun pos pins s σ H Q I q => h.run pos pins s σ H Q I (k _ _ _ q)⟩
theorem PS.weak {st : Stmt} {t t' : TS} (h : PS X st t) (k : ∀ D σ H, t' D σ H → t D σ H) : PS X st t' := ⟨fun pins s σ H D I q => h.run pins s σ H D I (k _ _ _ q)⟩
theorem PSs.weak {st : List Stmt} {t t' : TS} (h : PSs X st t) (k : ∀ D σ H, t' D σ H → t D σ H) : PSs X st t' := ⟨fun pins s σ H D I q => h.run pins s σ H D I (k _ _ _ q)⟩

/-! ### names, constants -/
def eVar (i : Nat) : M VD := fun S => match S.sl[i]? with
  | some (some x) => .ok (x, S)
  | _ => .bad
def eC (d : PyData) : M VD := pure (.dat d)
theorem d_var (i : Nat) {x : Str} {pos : Pos} (h : PE X (.Name x pos) (tVar i)) : PD X E (.Name x pos) (eVar i) := PE.weak h fun σ H Q q => by
  obtain ⟨F, rs, S, G, m, p⟩ := q
  unfold eVar at p
  cases hs : S.sl[i]? with
  | none => rw [hs] at p; exact p.elim
  | some o =>
    cases o with
    | none => rw [hs] at p; exact p.elim
    | some y =>
      rw [hs] at p
      obtain ⟨v, h2, h3⟩ := m.slot i y hs
      exact ⟨v, h2, Post.ret m p h3⟩
theorem d_c {v : V} {d : PyData} (h : PE X e (tC v)) (hd : ∀ H, Dd X.K H v d) : PD X E e (eC d) := PE.weak h fun σ H Q q => by
  obtain ⟨F, rs, S, G, m, p⟩ := q
  exact Post.ret m p (hd G)
theorem d_int {i j pos} : PD X E (.Constant (.int i) j pos) (eC (.int i)) := d_c pe_int fun _ => .int i
theorem d_bl {b j pos} : PD X E (.Constant (.bool b) j pos) (eC (.bool b)) := d_c pe_bl fun _ => .bl b
theorem d_non {j pos} : PD X E (.Constant .none j pos) (eC .none) := d_c pe_non fun _ => .non
theorem d_str {x j pos} : PD X E (.Constant (.str x) j pos) (eC (.str x)) := d_c pe_str fun _ => .str x

/-! ### argument lists -/
def aCons (a : M VD) (t : M (List VD)) : M (List VD) := do let x ← a; let xs ← t; pure (x :: xs)
theorem d_nil : PDA X E [] (pure []) := PA.weak pa_nil fun σ H Q q => by
  obtain ⟨F, rs, S, G, m, p⟩ := q
  exact Post.ret (b := []) m p trivial
theorem d_cons {es : List Expr} {a : M VD} {t : M (List VD)} (ha : PD X E e a) (ht : PDA X E es t) (hs : starEach (e :: es) X.env = (false, eval e X.env) :: starEach es X.env := by rfl) : PDA X E (e :: es) (aCons a t) := PA.weak (pa_cons ha ht hs) fun σ H Q q => by
  obtain ⟨F, rs, S, G, m, p⟩ := q
  refine ⟨F, rs, S, G, m, (Post.seq p).mono fun v H1 ⟨rs1, S1, G1, x, u1, m1, r1, p1⟩ => ?_⟩
  refine ⟨F, rs1, S1, G1, m1, (Post.seq p1).mono fun vs H2 ⟨rs2, S2, G2, xs, u2, m2, r2, p2⟩ => ?_⟩
  exact Post.ret (b := v :: vs) m2 p2 ⟨RdV.up u2 r1, r2⟩
end
end DL
/-! DL3: displays, operators, tests, calls. -/
namespace DL
open PySem PySem.Spec L2

/-! ### data off the heap -/
section
variable {H : Hp} {s : Shared} {X : Cx} {pins : List (Addr × Obj)} {σ : L2.St}
mutual
theorem Dd.reads (I : Inv X pins σ H s) : ∀ (d : PyData) (v : V) (u : Value), Dd X.K H v d → RelV v u → ∃ as, Reads s.heap u d as
  | .none, _, _, h, r => by cases h; cases r; exact ⟨_, Reads.none⟩
  | .bool b, _, _, h, r => by cases h; cases r; exact ⟨_, Reads.bool b⟩
  | .int i, _, _, h, r => by cases h; obtain ⟨t, rfl⟩ := r; exact ⟨_, Reads.int i t⟩
  | .str x, _, _, h, r => by cases h; obtain ⟨t, rfl⟩ := r; exact ⟨_, Reads.str x t⟩
  | .list ds, _, _, h, r => by
    cases h with
    | lst hs ha =>
      cases r
      obtain ⟨its, rv, ⟨o, n, ho, hc, _, hd⟩, _⟩ := I.list (.inl hs)
      obtain ⟨as, hr⟩ := DdAll.reads I ds _ its ha rv; exact ⟨_, Reads.list ho hc hd hr⟩
  | .tuple ds, _, _, h, r => by
    cases h with
    | tup hs ha =>
      cases r
      obtain ⟨its, rv, ⟨o, ho, hc, n, hd⟩, _⟩ := I.tuple (hs.sqt (K := X.K))
      obtain ⟨as, hr⟩ := DdAll.reads I ds _ its ha rv; exact ⟨_, Reads.tuple ho hc hd hr⟩
  | .dict kvs, _, _, h, r => by
    cases h with
    | dic hs =>
      cases r
      obtain ⟨_, _, vs, rk, o, es, ep, ho, ⟨hx, _⟩, hd, _, hes, _⟩ := I.hok _ _ hs
      cases rk
      have e0 : es.toList = [] := by
        revert hes
        generalize es.toList = l
        intro hes
        cases hes
        rfl
      refine ⟨_, Reads.dict (kvs := []) (as := []) (bs := []) ho hx hd ?_ ?_⟩
      · rw [e0]; exact .nil
      · rw [e0]; exact .nil
theorem DdAll.reads (I : Inv X pins σ H s) : ∀ (ds : List PyData) (vs : List V) (us : List Value), DdAll X.K H vs ds → Vals vs us → ∃ as, ReadsAll s.heap us ds as
  | [], _, _, h, r => by cases h; cases r; exact ⟨_, ReadsAll.nil⟩
  | d :: ds, _, _, h, r => by
    cases h with
    | cons h1 h2 =>
      cases r with
      | cons r1 r2 =>
        obtain ⟨as, q1⟩ := Dd.reads I d _ _ h1 r1
        obtain ⟨bs, q2⟩ := DdAll.reads I ds _ _ h2 r2; exact ⟨_, ReadsAll.cons q1 q2⟩
end
end

/-! ### a value as data -/
def toD : VD → M PyData
  | .dat d => pure d
  | .rf j => fun S => match S.ce[j]? with
    | some (.ls true ds) => .ok (.list ds, { S with ce := S.ce.set j (.ls false ds) })
    | some (.ls false ds) => .ok (.list ds, S)
    | _ => .bad
  | .bag _ => M.bad
  | .st _ => M.bad
  | .ex _ => M.bad
  | .exs _ => M.bad
  | .oth _ => M.bad
def toDs : List VD → M (List PyData)
  | [] => pure []
  | x :: xs => do let d ← toD x; let ds ← toDs xs; pure (d :: ds)
/-- what a value is now (nothing is changed) -/
def peek (x : VD) : M PyData := fun S => match peekS S x with
  | some d => .ok (d, S)
  | none => .bad
def chk (b : Bool) : M Unit := fun S => if b then .ok ((), S) else .bad
def ofO {α : Type} (o : Option α) : M α := fun S => match o with
  | some a => .ok (a, S)
  | none => .bad
section
variable {K : PySem.W.Frag} {wl : Wd} {mg : Str → Option Value} {E : XK} {F : Hp} {rs : List Addr} {S : DS} {σ : L2.St} {H G : Hp} {α β γ δ : Type} {Rel : List Addr → Hp → α → β → Prop}
theorem Md.toD (m : Md K wl F rs S σ H G) {x : VD} {v : V} (r : RdV K wl rs G x v) {g : PyData → M α} {Q : β → Hp → Prop} (h : Post K wl mg E F σ Rel rs G ((toD x >>= g) S) Q) :
    ∃ d S' G', Same G G' ∧ Md K wl F rs S' σ H G' ∧ Dd K G' v d ∧ Post K wl mg E F σ Rel rs G' (g d S') Q := by
  rw [M.bind_run] at h
  cases x with
  | dat d => exact ⟨d, S, G, L2.Same.refl G, m, r, h⟩
  | rf j =>
    obtain ⟨a, ha, rfl⟩ := r
    unfold DL.toD at h
    dsimp only at h
    cases e : S.ce[j]? with
    | none => rw [e] at h; exact h.elim
    | some c =>
      cases c with
      | dk _ => rw [e] at h; exact h.elim
      | si _ => rw [e] at h; exact h.elim
      | ls b ds =>
      cases b with
      | true =>
        rw [e] at h
        obtain ⟨G', sg, m', rd⟩ := m.freeze ha e
        exact ⟨.list ds, _, G', sg, m', rd, Post.up ⟨⟨[], by simp⟩, sg⟩ h⟩
      | false =>
        rw [e] at h
        obtain ⟨vs, hv, hd⟩ := m.cel j a _ ha e
        exact ⟨.list ds, S, G, L2.Same.refl G, m, .lst (Rd.of hv) hd, h⟩
  | bag _ => exact h.elim
  | st _ => exact h.elim
  | ex _ => exact h.elim
  | exs _ => exact h.elim
  | oth _ => exact h.elim
theorem Md.toDs : ∀ {xs : List VD} {vs : List V} {S : DS} {G : Hp} {g : List PyData → M α} {Q : β → Hp → Prop}, Md K wl F rs S σ H G → RdVs K wl rs G xs vs → Post K wl mg E F σ Rel rs G ((toDs xs >>= g) S) Q →
    ∃ ds S' G', Same G G' ∧ Md K wl F rs S' σ H G' ∧ DdAll K G' vs ds ∧ Post K wl mg E F σ Rel rs G' (g ds S') Q
  | [], [], S, G, g, Q, m, _, h => ⟨[], S, G, L2.Same.refl G, m, .nil, h⟩
  | x :: xs, v :: vs, S, G, g, Q, m, r, h => by
    have h' : Post K wl mg E F σ Rel rs G ((DL.toD x >>= fun d => DL.toDs xs >>= fun ds => g (d :: ds)) S) Q := by
      have e : ((DL.toDs (x :: xs) >>= g) S) = ((DL.toD x >>= fun d => DL.toDs xs >>= fun ds => g (d :: ds)) S) := by
        simp only [DL.toDs, M.bind_run]
        cases DL.toD x S with
        | ok p =>
          simp only [R.bind, M.bind_run]
          cases DL.toDs xs p.2 <;> rfl
        | exc _ _ => rfl
        | bad => rfl
      rw [← e]; exact h
    obtain ⟨d, S1, G1, s1, m1, d1, h1⟩ := Md.toD m r.1 h'
    obtain ⟨ds, S2, G2, s2, m2, d2, h2⟩ := Md.toDs m1 (RdVs.up ⟨⟨[], by simp⟩, s1⟩ r.2) h1
    exact ⟨d :: ds, S2, G2, L2.Same.trans s1 s2, m2, .cons (Dd.same s2 _ _ d1) d2, h2⟩
  | [], _ :: _, _, _, _, _, _, r, _ => r.elim
  | _ :: _, [], _, _, _, _, _, r, _ => r.elim
theorem Post.peek {x : VD} {g : PyData → M α} {Q : β → Hp → Prop} (h : Post K wl mg E F σ Rel rs G ((DL.peek x >>= g) S) Q) : ∃ d, peekS S x = some d ∧ Post K wl mg E F σ Rel rs G (g d S) Q := by
  rw [M.bind_run] at h
  unfold DL.peek at h
  cases e : peekS S x with
  | none => rw [e] at h; exact h.elim
  | some d => rw [e] at h; exact ⟨d, rfl, h⟩
theorem Post.chk {b : Bool} {g : Unit → M α} {Q : β → Hp → Prop} (h : Post K wl mg E F σ Rel rs G ((DL.chk b >>= g) S) Q) : b = true ∧ Post K wl mg E F σ Rel rs G (g () S) Q := by
  rw [M.bind_run] at h
  cases b with
  | true => exact ⟨rfl, h⟩
  | false => exact h.elim
theorem Post.ofO {o : Option γ} {g : γ → M α} {Q : β → Hp → Prop} (h : Post K wl mg E F σ Rel rs G ((DL.ofO o >>= g) S) Q) : ∃ a, o = some a ∧ Post K wl mg E F σ Rel rs G (g a S) Q := by
  rw [M.bind_run] at h
  cases o with
  | none => exact h.elim
  | some a => exact ⟨a, rfl, h⟩
theorem Post.ofO' {o : Option α} {Q : β → Hp → Prop} (h : Post K wl mg E F σ Rel rs G (DL.ofO o S) Q) : ∃ a, o = some a ∧ Post K wl mg E F σ Rel rs G (.ok (a, S)) Q := by
  cases o with
  | none => exact h.elim
  | some a => exact ⟨a, rfl, h⟩
end

/-! ### displays -/
/-- a new list -/
def newL (ds : List PyData) : M VD := fun S => .ok (.rf S.ce.length, { S with ce := S.ce ++ [(.ls true ds)] })
def eTup (t : M (List VD)) : M VD := do let xs ← t; let ds ← toDs xs; chk (decide (ds.length ≤ 1000)); pure (.dat (.tuple ds))
def eLst (t : M (List VD)) : M VD := do let xs ← t; let ds ← toDs xs; chk (decide (ds.length ≤ 1000)); newL ds
section
variable {X : Cx} {E : XK} {e a b : Expr} {es : List Expr} {pos : Pos}
variable {F : Hp} {rs : List Addr} {S : DS} {σ : L2.St} {H G : Hp}
theorem newTup {ds : List PyData} {vs : List V} {Q : VK} (m : Md X.K X.wd F rs S σ H G) (hd : DdAll X.K G vs ds) (h : Post X.K X.wd X.mg E F σ (RdV X.K X.wd) rs G (.ok (.dat (.tuple ds), S)) Q) {p : Addr} {its : List Value} (hp : H p = none) : Q (.ref p) (upd H p (TN.hT its vs)) :=
  h (.ref p) _ _ rs ⟨⟨[], by simp⟩, same_upd (L2.Same.free m.sub hp)⟩ (m.new hp) (.tup (TN.SqN.of upd_same) (DdAll.same (same_upd (L2.Same.free m.sub hp)) _ _ hd))
theorem newLst {ds : List PyData} {vs : List V} {Q : VK} (m : Md X.K X.wd F rs S σ H G) (hd : DdAll X.K G vs ds) (h : Post X.K X.wd X.mg E F σ (RdV X.K X.wd) rs G (newL ds S) Q) {p : Addr} (hp : H p = none) : Q (.ref p) (upd H p (.lst vs)) :=
  h (.ref p) _ G (rs ++ [p]) ⟨⟨[p], rfl⟩, L2.Same.refl G⟩ (m.cell hp hd) ⟨p, by rw [← m.rl]; simp, rfl⟩
theorem sz1000 {n : Nat} (h : n ≤ 1000) : n ≤ sizeLine := Nat.le_trans h (by decide)
theorem d_tup {t : M (List VD)} {x1 : Nat} (ht : PDA X E es t) : PD X E (.Tuple es x1 pos) (eTup t) := PE.weak (TN.pe_tupN ht) fun σ H Q q => by
  obtain ⟨F, rs, S, G, m, p⟩ := q
  refine ⟨F, rs, S, G, m, (Post.seq p).mono fun vs H1 ⟨rs1, S1, G1, xs, u1, m1, r1, p1⟩ => ?_⟩
  obtain ⟨ds, S2, G2, s2, m2, d2, p2⟩ := m1.toDs r1 p1
  obtain ⟨hl, p3⟩ := Post.chk p2
  have hl' : ds.length ≤ 1000 := of_decide_eq_true hl
  rw [← DdAll.length d2] at hl'
  exact ⟨sz1000 hl', fun p its hp => newTup m2 d2 p3 hp⟩
theorem d_lst {t : M (List VD)} (ht : PDA X E es t) : PD X E (.List es pos) (eLst t) := PE.weak (pe_lst ht) fun σ H Q q => by
  obtain ⟨F, rs, S, G, m, p⟩ := q
  refine ⟨F, rs, S, G, m, (Post.seq p).mono fun vs H1 ⟨rs1, S1, G1, xs, u1, m1, r1, p1⟩ => ?_⟩
  obtain ⟨ds, S2, G2, s2, m2, d2, p2⟩ := m1.toDs r1 p1
  obtain ⟨hl, p3⟩ := Post.chk p2
  have hl' : ds.length ≤ 1000 := of_decide_eq_true hl
  rw [← DdAll.length d2] at hl'
  exact ⟨sz1000 hl', fun p hp => newLst m2 d2 p3 hp⟩

/-! ### operators -/
def scalV : PyData → Option V
  | .none => some .non
  | .bool b => some (.bl b)
  | .int i => some (.int i)
  | .str x => some (.str x)
  | _ => none
theorem scal_dd {K : PySem.W.Frag} {H : Hp} {d : PyData} {v : V} (h : scalV d = some v) : Dd K H v d := by
  cases d <;> cases h <;> constructor
/-- two data in, a scalar out -/
def rD (K : PySem.W.Frag) (f : PyData → PyData → Option PyData) : R2 := fun x y H Q => ∃ d e r w, Dd K H x d ∧ Dd K H y e ∧ f d e = some r ∧ scalV r = some w ∧ Q w H
theorem OpR.weak {f : Value → Value → Sem Value} {r r' : R2} (h : OpR X f r) (k : ∀ x y H Q, r' x y H Q → r x y H Q) : OpR X f r' := fun pins s σ H x y v u Q I rx ry q => h pins s σ H x y v u Q I rx ry (k _ _ _ _ q)
def scal (d : PyData) : M VD := match scalV d with
  | some _ => pure (.dat d)
  | none => M.bad
theorem Post.scal {d : PyData} {Q : VK} (m : Md X.K X.wd F rs S σ H G) (h : Post X.K X.wd X.mg E F σ (RdV X.K X.wd) rs G (DL.scal d S) Q) : ∃ w, scalV d = some w ∧ Q w H := by
  unfold DL.scal at h
  cases e : scalV d with
  | none => rw [e] at h; exact h.elim
  | some w => rw [e] at h; exact ⟨w, rfl, Post.ret m h (scal_dd e)⟩
def eOp (f : PyData → PyData → Option PyData) (ta tb : M VD) : M VD := do let x ← ta; let y ← tb; let d ← peek x; let e ← peek y; let r ← ofO (f d e); scal r
theorem opD {f : PyData → PyData → Option PyData} {ta tb : M VD} {t : R2} (ha : PD X E a ta) (hb : PD X E b tb) (ht : ∀ x y H Q, rD X.K f x y H Q → t x y H Q) {σ : L2.St} {H : Hp} {Q : VK} (q : liftE X.K X.wd X.mg E (eOp f ta tb) σ H Q) :
    tOp t (liftE X.K X.wd X.mg E ta) (liftE X.K X.wd X.mg E tb) σ H Q := by
  obtain ⟨F, rs, S, G, m, p⟩ := q
  refine ⟨F, rs, S, G, m, (Post.seq p).mono fun v H1 ⟨rs1, S1, G1, x, u1, m1, r1, p1⟩ => ?_⟩
  refine ⟨F, rs1, S1, G1, m1, (Post.seq p1).mono fun w H2 ⟨rs2, S2, G2, y, u2, m2, r2, p2⟩ => ?_⟩
  obtain ⟨d, hd, p3⟩ := Post.peek p2
  obtain ⟨e, he, p4⟩ := Post.peek p3
  obtain ⟨r, hr, p5⟩ := Post.ofO p4
  obtain ⟨z, hz, p6⟩ := Post.scal m2 p5
  exact ht _ _ _ _ ⟨d, e, r, z, m2.peek (RdV.up u2 r1) hd, m2.peek r2 he, hr, hz, p6⟩
theorem d_op {op : Operator} {f : PyData → PyData → Option PyData} {ta tb : M VD} (ho : OpR X (binaryOp op) (rD X.K f)) (ha : PD X E a ta) (hb : PD X E b tb) : PD X E (.BinOp a op b pos) (eOp f ta tb) :=
  PE.weak (pe_op ho ha hb) fun _ _ _ q => opD ha hb (fun _ _ _ _ h => h) q
theorem d_cmp {op : CmpOp} {f : PyData → PyData → Option PyData} {ta tb : M VD} (ho : OpR X (compareOp op) (rD X.K f)) (ha : PD X E a ta) (hb : PD X E b tb) (hm : behindInMarks op b = false) : PD X E (.Compare a [op] [b] pos) (eOp f ta tb) :=
  PE.weak (pe_cmpR ho ha hb hm) fun _ _ _ q => opD ha hb (fun _ _ _ _ h => h) q
/-- what reads as a bool, tested -/
def tOf (t : M VD) : M Bool := do
  let x ← t
  match x with
  | .dat (.bool b) => pure b
  | _ => M.bad
theorem tOf_lift {t : M VD} {σ : L2.St} {H : Hp} {Q : Bool → Hp → Prop} (q : liftT X.K X.wd X.mg E (tOf t) σ H Q) : liftE X.K X.wd X.mg E t σ H (fun x H' => ∃ k, x = .bl k ∧ Q k H') := by
  obtain ⟨F, rs, S, G, m, p⟩ := q
  refine ⟨F, rs, S, G, m, (Post.seq p).mono fun v H1 ⟨rs1, S1, G1, x, u1, m1, r1, p1⟩ => ?_⟩
  cases x with
  | rf j => exact p1.elim
  | bag _ => exact p1.elim
  | st _ => exact p1.elim
  | ex _ => exact p1.elim
  | exs _ => exact p1.elim
  | oth _ => exact p1.elim
  | dat d =>
    cases d with
    | bool k =>
      cases (show Dd X.K G1 v (.bool k) from r1)
      exact ⟨k, rfl, Post.ret m1 p1 rfl⟩
    | _ => exact p1.elim
theorem dt_cmp {op : CmpOp} {f : PyData → PyData → Option PyData} {ta tb : M VD} (ho : OpR X (compareOp op) (rD X.K f)) (ha : PD X E a ta) (hb : PD X E b tb) (hm : behindInMarks op b = false) : PDT X E (.Compare a [op] [b] pos) (tOf (eOp f ta tb)) :=
  PT.weak (pt_cmpR ho ha hb hm) fun _ _ _ q => by
    have q' := tOf_lift q
    exact opD ha hb (fun _ _ _ _ h => h) q'
theorem dt_val {t : M VD} (h : PD X E e t) (he : ∀ whole, isTrue e X.env whole = (do let v ← whole; standAt e.pos; holding [v] (truthy v)) := by intro _; rfl) : PDT X E e (tOf t) :=
  PT.weak (pt_val h he) fun _ _ _ q => tOf_lift q
/-- and, or, not as tests -/
def tAndD (t u : M Bool) : M Bool := do let c ← t; if c then u else pure false
def tOrD (t u : M Bool) : M Bool := do let c ← t; if c then pure true else u
def tNotD (t : M Bool) : M Bool := do let c ← t; pure (!c)
variable {rest : List Expr}
theorem dw_and1 {t : M Bool} (ha : PDT X E a t) : PDW X E (.BoolOp .And [a] pos) t := pw_and1 ha
theorem dw_or1 {t : M Bool} (ha : PDT X E a t) : PDW X E (.BoolOp .Or [a] pos) t := pw_or1 ha
theorem dw_and {t u : M Bool} (ha : PDT X E a t) (hb : PDW X E (.BoolOp .And (b :: rest) pos) u) : PDW X E (.BoolOp .And (a :: b :: rest) pos) (tAndD t u) := PW.weak (pw_and ha hb) fun σ H Q q => by
  obtain ⟨F, rs, S, G, m, p⟩ := q
  refine ⟨F, rs, S, G, m, (Post.seq p).mono fun c H1 ⟨rs1, S1, G1, x, u1, m1, r1, p1⟩ => ?_⟩
  subst r1
  cases x with
  | true => exact ⟨F, rs1, S1, G1, m1, p1⟩
  | false => exact Post.ret m1 p1 rfl
theorem dw_or {t u : M Bool} (ha : PDT X E a t) (hb : PDW X E (.BoolOp .Or (b :: rest) pos) u) : PDW X E (.BoolOp .Or (a :: b :: rest) pos) (tOrD t u) := PW.weak (pw_or ha hb) fun σ H Q q => by
  obtain ⟨F, rs, S, G, m, p⟩ := q
  refine ⟨F, rs, S, G, m, (Post.seq p).mono fun c H1 ⟨rs1, S1, G1, x, u1, m1, r1, p1⟩ => ?_⟩
  subst r1
  cases x with
  | false => exact ⟨F, rs1, S1, G1, m1, p1⟩
  | true => exact Post.ret m1 p1 rfl
theorem dt_not {t : M Bool} (ha : PDT X E a t) : PDT X E (.UnaryOp .Not a pos) (tNotD t) := PT.weak (pt_not ha) fun σ H Q q => by
  obtain ⟨F, rs, S, G, m, p⟩ := q
  refine ⟨F, rs, S, G, m, (Post.seq p).mono fun c H1 ⟨rs1, S1, G1, x, u1, m1, r1, p1⟩ => ?_⟩
  subst r1
  exact Post.ret m1 p1 rfl
/-- .. as values: bools -/
def eAndD (t u : M VD) : M VD := do let c ← tOf t; if c then u else pure (.dat (.bool false))
def eOrD (t u : M VD) : M VD := do let c ← tOf t; if c then pure (.dat (.bool true)) else u
def eNotD (t : M VD) : M VD := do let c ← tOf t; pure (.dat (.bool (!c)))
/-- first a bool, then the rest -/
theorem tOf_seq {α β : Type} {Rel : List Addr → Hp → α → β → Prop} {t : M VD} {g : Bool → M α} {Q : β → Hp → Prop} (h : Post X.K X.wd X.mg E F σ Rel rs G ((tOf t >>= g) S) Q) :
    Post X.K X.wd X.mg E F σ (RdV X.K X.wd) rs G (t S) (fun v H1 => ∃ k rs1 S1 G1, v = .bl k ∧ Up rs G rs1 G1 ∧ Md X.K X.wd F rs1 S1 σ H1 G1 ∧ Post X.K X.wd X.mg E F σ Rel rs1 G1 (g k S1) Q) := by
  have e : ((tOf t >>= g) S) = ((t >>= fun x => (match x with | .dat (.bool b) => pure b | _ => M.bad : M Bool) >>= g) S) := by
    simp only [tOf, M.bind_run]
    cases t S <;> rfl
  rw [e] at h
  refine (Post.seq h).mono fun v H1 ⟨rs1, S1, G1, x, u1, m1, r1, p1⟩ => ?_
  cases x with
  | rf j => exact p1.elim
  | bag _ => exact p1.elim
  | st _ => exact p1.elim
  | ex _ => exact p1.elim
  | exs _ => exact p1.elim
  | oth _ => exact p1.elim
  | dat d =>
    cases d with
    | bool k =>
      cases (show Dd X.K G1 v (.bool k) from r1)
      exact ⟨k, rs1, S1, G1, rfl, u1, m1, p1⟩
    | _ => exact p1.elim
theorem d_and {t u : M VD} (ha : PD X E a t) (hb : PD X E (.BoolOp .And (b :: rest) pos) u) : PD X E (.BoolOp .And (a :: b :: rest) pos) (eAndD t u) := PE.weak (pe_and ha hb) fun σ H Q q => by
  obtain ⟨F, rs, S, G, m, p⟩ := q
  refine ⟨F, rs, S, G, m, (tOf_seq p).mono fun v H1 ⟨k, rs1, S1, G1, e, u1, m1, p1⟩ => ⟨k, e, ?_⟩⟩
  cases k with
  | true => exact ⟨F, rs1, S1, G1, m1, p1⟩
  | false => exact Post.ret m1 p1 (.bl false)
theorem d_or {t u : M VD} (ha : PD X E a t) (hb : PD X E (.BoolOp .Or (b :: rest) pos) u) : PD X E (.BoolOp .Or (a :: b :: rest) pos) (eOrD t u) := PE.weak (pe_or ha hb) fun σ H Q q => by
  obtain ⟨F, rs, S, G, m, p⟩ := q
  refine ⟨F, rs, S, G, m, (tOf_seq p).mono fun v H1 ⟨k, rs1, S1, G1, e, u1, m1, p1⟩ => ⟨k, e, ?_⟩⟩
  cases k with
  | false => exact ⟨F, rs1, S1, G1, m1, p1⟩
  | true => exact Post.ret m1 p1 (.bl true)
theorem d_one {op : BoolOp} {t : M VD} (ha : PD X E a t) : PD X E (.BoolOp op [a] pos) t := pe_one ha
theorem d_not {t : M VD} (ha : PD X E a t) : PD X E (.UnaryOp .Not a pos) (eNotD t) := PE.weak (pe_not ha) fun σ H Q q => by
  obtain ⟨F, rs, S, G, m, p⟩ := q
  exact ⟨F, rs, S, G, m, (tOf_seq p).mono fun v H1 ⟨k, rs1, S1, G1, e, u1, m1, p1⟩ => ⟨k, e, Post.ret m1 p1 (.bl _)⟩⟩
def eIf (c : M Bool) (t u : M VD) : M VD := do let k ← c; if k then t else u
theorem d_if {c : Expr} {tc : M Bool} {t u : M VD} (hc : PDT X E c tc) (ha : PD X E a t) (hb : PD X E b u) : PD X E (.IfExp c a b pos) (eIf tc t u) := PE.weak (pe_ifExp hc ha hb) fun σ H Q q => by
  obtain ⟨F, rs, S, G, m, p⟩ := q
  refine ⟨F, rs, S, G, m, (Post.seq p).mono fun k H1 ⟨rs1, S1, G1, x, u1, m1, r1, p1⟩ => ?_⟩
  subst r1
  cases x with
  | true => exact ⟨F, rs1, S1, G1, m1, p1⟩
  | false => exact ⟨F, rs1, S1, G1, m1, p1⟩
end
end DL
/-! DL4: calls of defs, statements. -/
namespace DL
open PySem PySem.Spec L2 DG

/-! ### a def's promise -/
abbrev Fd := List VD → M VD
def spD (K : PySem.W.Frag) (w : World) (mg : Str → Option Value) (n : Nat) (den : Fd) : Sp := fun vs H Q E =>
  vs.length = n ∧ ∃ (F : Hp) (rs : List Addr) (ce : List Cl) (G : Hp) (xs : List VD), Md K ⟨w, mg⟩ F rs ⟨[], ce⟩ [] H G ∧ RdVs K ⟨w, mg⟩ rs G xs vs ∧ Post K ⟨w, mg⟩ mg E F [] (RdV K ⟨w, mg⟩) rs G (den xs ⟨[], ce⟩) Q
/-- a def that can be called at x -/
structure Has (X : Cx) (E : XK) (x : Str) (n : Nat) (den : Fd) : Prop where
  ex : ∃ (k : Nat) (f : Addr) (fd : FuncData) (ps : List Str), FnG X.prog X.w X.K X.mg X.base k f fd ps (spD X.K X.w X.mg n den) ∧ X.A.guards = some [] ∧ Room k X.A ∧ X.mg x = some (.ref f) ∧ PySem.W.keepIn X.K (.ref f) = true ∧ Binds X.K fd ps [] ∧ Passes (L2.CX X.prog X.w) X E
def eCall (n : Nat) (den : Fd) (t : M (List VD)) : M VD := do
  let xs ← t
  chk (decide (xs.length = n))
  fun S => match den xs ⟨[], S.ce⟩ with
    | .ok (x, S') => .ok (x, ⟨S.sl, S'.ce⟩)
    | .exc x S' => .exc x ⟨S.sl, S'.ce⟩
    | .bad => .bad
section
variable {X : Cx} {E : XK} {e a b : Expr} {es : List Expr} {pos p : Pos} {x : Str}
theorem Md.back {K : PySem.W.Frag} {wl : Wd} {F : Hp} {rs rs' : List Addr} {S S' : DS} {σ : L2.St} {H H' G G' : Hp} (m : Md K wl F rs S σ H G) (u : Up rs G rs' G') (m' : Md K wl F rs' ⟨[], S'.ce⟩ [] H' G') : Md K wl F rs' ⟨S.sl, S'.ce⟩ σ H' G' :=
  m'.slots m.len fun i x h => by
    obtain ⟨v, h2, h3⟩ := m.slot i x h
    exact ⟨v, h2, RdV.up u h3⟩
theorem callPost {K : PySem.W.Frag} {wl : Wd} {mg : Str → Option Value} {F : Hp} {rs : List Addr} {G H : Hp} {σ : L2.St} {S : DS} {den : Fd} {xs : List VD} {Q : VK} (m : Md K wl F rs S σ H G)
    (h : Post K wl mg E F σ (RdV K wl) rs G (match den xs ⟨[], S.ce⟩ with
    | .ok (x, S') => R.ok (x, (⟨S.sl, S'.ce⟩ : DS))
    | .exc x S' => .exc x ⟨S.sl, S'.ce⟩
    | .bad => .bad) Q) (hs : ∀ x S', den xs ⟨[], S.ce⟩ = .ok (x, S') → S'.sl = []) : Post K wl mg E F [] (RdV K wl) rs G (den xs ⟨[], S.ce⟩) Q := by
  cases e : den xs ⟨[], S.ce⟩ with
  | ok q =>
    rw [e] at h
    intro v H' G' rs' u m' r
    have e2 : q.2.sl = [] := hs q.1 q.2 e
    have e3 : q.2 = ⟨[], q.2.ce⟩ := by cases hq : q.2; rw [hq] at e2; simp at e2; simp [e2]
    rw [e3] at m'
    exact h v H' G' rs' u (m.back u m') r
  | exc x S' => rw [e] at h; exact h
  | bad => rw [e] at h; exact h
/-- a den leaves no slots -/
def NoSl (den : Fd) : Prop := ∀ xs ce x S', den xs ⟨[], ce⟩ = .ok (x, S') → S'.sl = []
theorem d_call {n : Nat} {den : Fd} {t : M (List VD)} (hh : Has X E x n den) (hn : NoSl den) (hg : Gl X x) (ht : PDA X E (e :: es) t) (hs : starEach (e :: es) X.env = (false, eval e X.env) :: starEach es X.env := by rfl)
    (hpl : (backTo pos (starEach es X.env)).any (·.1) = false := by rfl) (hd : (x == ("__debug__" : Str)) = false := by decide) :
    PD X E (.Call (.Name x p) (e :: es) [] pos) (eCall n den t) := by
  obtain ⟨k, f, fd, ps, F1, hgd, hr, hm, hk, hb, hx⟩ := hh.ex
  refine PE.weak (pe_callG F1 hgd hr hg hm hk hb hx ht (hdb := hd) (he := hs) (hpl := hpl)) fun σ H Q q => ?_
  obtain ⟨F, rs, S, G, m, p⟩ := q
  refine ⟨F, rs, S, G, m, (Post.seq p).mono fun vs H1 ⟨rs1, S1, G1, xs, u1, m1, r1, p1⟩ => ?_⟩
  obtain ⟨hl, p2⟩ := Post.chk p1
  have hl' := RdVs.length r1
  refine ⟨by rw [← hl']; exact of_decide_eq_true hl, F, rs1, S1.ce, G1, xs, m1.cells, r1, ?_⟩
  exact callPost m1 p2 fun x S' e => hn _ _ _ _ e
theorem d_call0 {den : Fd} (hh : Has X E x 0 den) (hn : NoSl den) (hg : Gl X x) (hd : (x == ("__debug__" : Str)) = false := by decide) :
    PD X E (.Call (.Name x p) [] [] pos) (eCall 0 den (pure [])) := by
  obtain ⟨k, f, fd, ps, F1, hgd, hr, hm, hk, hb, hx⟩ := hh.ex
  refine PE.weak (pe_callG0 F1 hgd hr hg hm hk hb hx (hdb := hd)) fun σ H Q q => ?_
  obtain ⟨F, rs, S, G, m, p⟩ := q
  refine ⟨rfl, F, rs, S.ce, G, [], m.cells, trivial, ?_⟩
  exact callPost m p fun x S' e => hn _ _ _ _ e
end

/-! ### statements -/
inductive Fl where
  | nx
  | rt (x : VD)
  | bk
  | ct
abbrev MS := M Fl
section
def PostS (K : PySem.W.Frag) (wl : Wd) (mg : Str → Option Value) (E : XK) (F : Hp) (rs : List Addr) (G : Hp) (r : R (Fl × DS)) (D : Ends) : Prop :=
  match r with
  | .ok p => ∀ (σ' : L2.St) (H' G' : Hp) (rs' : List Addr), Up rs G rs' G' → Md K wl F rs' p.2 σ' H' G' → match p.1 with
    | .nx => D.nx σ' H'
    | .bk => D.bk σ' H'
    | .ct => D.ct σ' H'
    | .rt x => ∀ v, RdV K wl rs' G' x v → D.rt v H'
  | .exc x S' => ∀ (C dx : Addr) (vs : List V) (H' G' : Hp) (rs' : List Addr), Up rs G rs' G' → Md K wl F rs' ⟨[], S'.ce⟩ [] H' G' → mg x.cls = some (.ref C) → H' dx = some (.xd ((x.fs.map (·.1)).zip vs)) → DdAll K G' vs (x.fs.map (·.2)) → E (.ref C) (some dx) H'
  | .bad => False
def liftS (K : PySem.W.Frag) (wl : Wd) (mg : Str → Option Value) (E : XK) (t : MS) : TS := fun D σ H =>
  ∃ (F : Hp) (rs : List Addr) (S : DS) (G : Hp), Md K wl F rs S σ H G ∧ PostS K wl mg E F rs G (t S) D
variable {K : PySem.W.Frag} {wl : Wd} {mg : Str → Option Value} {E : XK} {F : Hp} {σ : L2.St} {rs rs1 : List Addr} {G G1 H : Hp} {D : Ends} {α β : Type} {Rel : List Addr → Hp → α → β → Prop}
theorem PostS.up (u : Up rs G rs1 G1) {r : R (Fl × DS)} (h : PostS K wl mg E F rs G r D) : PostS K wl mg E F rs1 G1 r D := by
  cases r with
  | ok p => exact fun σ' H' G' rs' u' m => h σ' H' G' rs' (u.trans u') m
  | exc x S' => exact fun C dx vs H' G' rs' u' => h C dx vs H' G' rs' (u.trans u')
  | bad => exact h
/-- first an expression, then the rest -/
theorem PostS.expr {t : M α} {g : α → MS} {S : DS} (h : PostS K wl mg E F rs G ((t >>= g) S) D) :
    Post K wl mg E F σ Rel rs G (t S) (fun (b : β) H1 => ∃ rs1 S1 G1 a, Up rs G rs1 G1 ∧ Md K wl F rs1 S1 σ H1 G1 ∧ Rel rs1 G1 a b ∧ PostS K wl mg E F rs1 G1 (g a S1) D) := by
  rw [M.bind_run] at h
  cases e : t S with
  | ok p =>
    rw [e] at h
    exact fun b H' G' rs' u m r => ⟨rs', p.2, G', p.1, u, m, r, PostS.up u h⟩
  | exc x S' => rw [e] at h; exact h
  | bad => rw [e] at h; exact h
end
def sSeq (t u : MS) : MS := do
  let f ← t
  match f with
  | .nx => u
  | f => pure f
def sNil : MS := pure .nx
abbrev PDS (X : Cx) (E : XK) (st : Stmt) (t : MS) : Prop := PS X st (liftS X.K X.wd X.mg E t)
abbrev PDSs (X : Cx) (E : XK) (st : List Stmt) (t : MS) : Prop := PSs X st (liftS X.K X.wd X.mg E t)
section
variable {X : Cx} {E : XK} {e : Expr} {st : Stmt} {rest : List Stmt} {pos pos' : Pos} {x : Str}
theorem s_nil : PDSs X E [] sNil := PSs.weak pss_nil fun D σ H q => by
  obtain ⟨F, rs, S, G, m, p⟩ := q
  exact p σ H G rs Up.refl m
theorem s_one {t : MS} (h : PDS X E st t) : PDSs X E [st] t := pss_one h
theorem s_cons {t u : MS} (h1 : PDS X E st t) (h2 : PDSs X E rest u) : PDSs X E (st :: rest) (sSeq t u) := PSs.weak (pss_cons h1 h2) fun D σ H q => by
  obtain ⟨F, rs, S, G, m, p⟩ := q
  refine ⟨F, rs, S, G, m, ?_⟩
  unfold sSeq at p
  rw [M.bind_run] at p
  cases e : t S with
  | ok q =>
    rw [e] at p
    obtain ⟨f, S'⟩ := q
    intro σ' H' G' rs' u' m'
    cases f with
    | nx => exact ⟨F, rs', S', G', m', PostS.up u' p⟩
    | bk => exact p σ' H' G' rs' u' m'
    | ct => exact p σ' H' G' rs' u' m'
    | rt x => exact p σ' H' G' rs' u' m'
  | exc x S' => rw [e] at p; exact p
  | bad => rw [e] at p; exact p
/-! targets -/
def setSl (i : Nat) (x : VD) : M Unit := fun S => .ok ((), { S with sl := S.sl.set i (some x) })
def sSet (i : Nat) (t : M VD) : MS := do let x ← t; setSl i x; pure .nx
theorem s_set (i : Nat) {t : M VD} (hN : X.N.Nodup) (he : PD X E e t) (hi : X.N[i]? = some x := by rfl) (hx : Loc X.env.scope x := by first | exact Or.inl rfl | exact Or.inr rfl) (hs : swapsWith e (some (.Name x pos')) pos.line X.env = pure false := by rfl) (hf : X.fn x = true ∨ X.env.scope.names.lookup x = some .local := by first | exact .inl rfl | exact .inr rfl) :
    PDS X E (.Assign [.Name x pos'] e pos) (sSet i t) := PS.weak (ps_set hN hi hx he hs hf) fun D σ H q => by
  obtain ⟨F, rs, S, G, m, p⟩ := q
  refine ⟨F, rs, S, G, m, (PostS.expr p).mono fun v H1 ⟨rs1, S1, G1, y, u1, m1, r1, p1⟩ => ?_⟩
  exact p1 _ H1 G1 rs1 Up.refl (m1.store r1)
/-- the same but at the slots is -/
def Off (is : List Nat) (σ σ' : L2.St) : Prop := σ'.length = σ.length ∧ ∀ k, k ∉ is → σ'[k]? = σ[k]?
theorem Off.refl {is : List Nat} {σ : L2.St} : Off is σ σ := ⟨rfl, fun _ _ => rfl⟩
theorem Off.trans {is js : List Nat} {σ σ1 σ2 : L2.St} (a : Off is σ σ1) (b : Off js σ1 σ2) : Off (is ++ js) σ σ2 := ⟨b.1.trans a.1, fun k h => (b.2 k fun z => h (List.mem_append_right _ z)).trans (a.2 k fun z => h (List.mem_append_left _ z))⟩
theorem Off.set {i : Nat} {σ : L2.St} {v : Option V} : Off [i] σ (σ.set i v) := ⟨by simp, fun k h => List.getElem?_set_ne (fun z => h (by simp [z]))⟩
/-- a target that takes a value -/
def PostU (K : PySem.W.Frag) (wl : Wd) (F : Hp) (rs : List Addr) (G : Hp) (is : List Nat) (σ : L2.St) (r : R (Unit × DS)) (Q : L2.St → Hp → Prop) : Prop :=
  match r with
  | .ok p => ∀ (σ' : L2.St) (H' G' : Hp) (rs' : List Addr), Up rs G rs' G' → Md K wl F rs' p.2 σ' H' G' → Off is σ σ' → Q σ' H'
  | _ => False
def liftG (K : PySem.W.Frag) (wl : Wd) (is : List Nat) (g : VD → M Unit) : TG := fun v σ H Q => ∃ (F : Hp) (rs : List Addr) (S : DS) (G : Hp) (x : VD), Md K wl F rs S σ H G ∧ RdV K wl rs G x v ∧ PostU K wl F rs G is σ (g x S) Q
abbrev PDG (X : Cx) (is : List Nat) (tg : Expr) (g : VD → M Unit) : Prop := PG X tg (liftG X.K X.wd is g)
def PDGs (X : Cx) (is : List Nat) (tgs : List Expr) (g : List PyData → M Unit) : Prop := PGs X tgs (fun vs σ H Q => ∃ (F : Hp) (rs : List Addr) (S : DS) (G : Hp) (ds : List PyData), Md X.K X.wd F rs S σ H G ∧ DdAll X.K G vs ds ∧ PostU X.K X.wd F rs G is σ (g ds S) Q)
theorem PG.weak {tg : Expr} {t t' : TG} (h : PG X tg t) (k : ∀ v σ H Q, t' v σ H Q → t v σ H Q) : PG X tg t' := ⟨fun pins s σ H v u Q I r q => h.run pins s σ H v u Q I r (k _ _ _ _ q)⟩
theorem PGs.weak {tgs : List Expr} {t t' : TGs} (h : PGs X tgs t) (k : ∀ v σ H Q, t' v σ H Q → t v σ H Q) : PGs X tgs t' := ⟨fun pins s σ H v u Q I r q => h.run pins s σ H v u Q I r (k _ _ _ _ q)⟩
theorem g_name (i : Nat) (hN : X.N.Nodup) (hi : X.N[i]? = some x := by rfl) (hx : Loc X.env.scope x := by first | exact Or.inl rfl | exact Or.inr rfl) (hf : X.fn x = true ∨ X.env.scope.names.lookup x = some .local := by first | exact .inl rfl | exact .inr rfl) :
    PDG X [i] (.Name x pos) (setSl i) := PG.weak (pg_name hN hi hx hf) fun v σ H Q q => by
  obtain ⟨F, rs, S, G, x, m, r, p⟩ := q
  exact p _ H G rs Up.refl (m.store r) Off.set
def gNilD : List PyData → M Unit
  | [] => pure ()
  | _ => M.bad
def gConsD (g : VD → M Unit) (gs : List PyData → M Unit) : List PyData → M Unit
  | d :: ds => do g (.dat d); gs ds
  | [] => M.bad
theorem g_nil : PDGs X [] [] gNilD := PGs.weak pgs_nil fun v σ H Q q => by
  obtain ⟨F, rs, S, G, ds, m, r, p⟩ := q
  cases r with
  | nil => exact ⟨rfl, p σ H G rs Up.refl m Off.refl⟩
  | cons _ _ => exact p.elim
theorem g_cons {es : List Expr} {g : VD → M Unit} {gs : List PyData → M Unit} {is js : List Nat} (h1 : PDG X is e g) (h2 : PDGs X js es gs) (hs : (assignEach (e :: es) X.env).map (·.2) = assign e X.env :: (assignEach es X.env).map (·.2) := by rfl) : PDGs X (is ++ js) (e :: es) (gConsD g gs) := PGs.weak (pgs_cons h1 h2 hs) fun v σ H Q q => by
  obtain ⟨F, rs, S, G, ds, m, r, p⟩ := q
  cases r with
  | nil => exact p.elim
  | @cons v0 vs d ds r1 r2 =>
    refine ⟨v0, vs, rfl, F, rs, S, G, .dat d, m, r1, ?_⟩
    unfold gConsD at p
    dsimp only at p
    rw [M.bind_run] at p
    cases e : g (.dat d) S with
    | ok q =>
      rw [e] at p
      exact fun σ' H' G' rs' u' m' o' => ⟨F, rs', q.2, G', ds, m', DdAll.same u'.2 _ _ r2, by
        have p' : PostU X.K X.wd F rs G (is ++ js) σ (gs ds q.2) Q := p
        revert p'
        cases gs ds q.2 with
        | ok w => exact fun p' σ'' H'' G'' rs'' u'' m'' o'' => p' σ'' H'' G'' rs'' (u'.trans u'') m'' (o'.trans o'')
        | exc _ _ => exact fun p' => p'
        | bad => exact fun p' => p'⟩
    | exc _ _ => rw [e] at p; exact p.elim
    | bad => rw [e] at p; exact p.elim
def gTupD (n : Nat) (gs : List PyData → M Unit) : VD → M Unit
  | .dat (.tuple ds) => do chk (decide (ds.length = n)); gs ds
  | _ => M.bad
theorem g_tup {es : List Expr} {k n : Nat} {gs : List PyData → M Unit} {is : List Nat} (hc : X.calm = true) (h : PDGs X is es gs) (hn : (assignEach es X.env).length = n := by rfl) (hst : (assignEach es X.env).findIdx? (·.1) = none := by rfl) : PDG X is (.Tuple es k pos) (gTupD n gs) :=
  PG.weak (pg_tup hc h hn hst) fun v σ H Q q => by
  obtain ⟨F, rs, S, G, x, m, r, p⟩ := q
  cases x with
  | rf j => exact p.elim
  | bag _ => exact p.elim
  | st _ => exact p.elim
  | ex _ => exact p.elim
  | exs _ => exact p.elim
  | oth _ => exact p.elim
  | dat d =>
    cases d with
    | tuple ds =>
      cases (show Dd X.K G v (.tuple ds) from r) with
      | tup hs ha =>
        unfold gTupD at p
        dsimp only at p
        rw [M.bind_run] at p
        by_cases hl : ds.length = n
        · unfold chk at p
          rw [decide_eq_true hl] at p
          exact ⟨_, _, rfl, (TN.SqN.same m.sub hs).sqt, (DdAll.length ha).trans hl, F, rs, S, G, ds, m, ha, p⟩
        · unfold chk at p
          rw [decide_eq_false hl] at p
          exact p.elim
    | _ => exact p.elim
def noX (t : M Unit) : MS := fun S => match t S with
  | .ok p => .ok (.nx, p.2)
  | _ => .bad
def sAsg (t : M VD) (g : VD → M Unit) : MS := do let x ← t; noX (g x)
theorem s_asg {tg : Expr} {t : M VD} {g : VD → M Unit} {is : List Nat} (he : PD X E e t) (hg : PDG X is tg g) (hs : swapsWithSole [tg] e pos.line X.env = pure false := by rfl) (hw : swappedStores [tg] e X.env = pure none := by rfl)
    (h1 : (assignEach [tg] X.env).map (·.2) = [assign tg X.env] := by rfl) : PDS X E (.Assign [tg] e pos) (sAsg t g) := PS.weak (ps_asg he hg hs hw h1) fun D σ H q => by
  obtain ⟨F, rs, S, G, m, p⟩ := q
  refine ⟨F, rs, S, G, m, (PostS.expr p).mono fun v H1 ⟨rs1, S1, G1, y, u1, m1, r1, p1⟩ => ⟨F, rs1, S1, G1, y, m1, r1, ?_⟩⟩
  unfold noX at p1
  cases e : g y S1 with
  | ok q => rw [e] at p1; exact fun σ' H' G' rs' u' m' _ => p1 σ' H' G' rs' u' m'
  | exc _ _ => rw [e] at p1; exact p1.elim
  | bad => rw [e] at p1; exact p1.elim
def sRet (t : M VD) : MS := do let x ← t; pure (.rt x)
theorem s_ret {t : M VD} (he : PD X E e t) : PDS X E (.Return (some e) pos) (sRet t) := PS.weak (ps_ret he) fun D σ H q => by
  obtain ⟨F, rs, S, G, m, p⟩ := q
  exact ⟨F, rs, S, G, m, (PostS.expr p).mono fun v H1 ⟨rs1, S1, G1, y, u1, m1, r1, p1⟩ => p1 σ H1 G1 rs1 Up.refl m1 v r1⟩
def sExp (t : M VD) : MS := do let _ ← t; pure .nx
theorem s_exp {t : M VD} (he : PD X E e t) (hs : swapsWith e none pos.line X.env = pure false := by rfl) : PDS X E (.Expr e pos) (sExp t) := PS.weak (ps_expr he hs) fun D σ H q => by
  obtain ⟨F, rs, S, G, m, p⟩ := q
  exact ⟨F, rs, S, G, m, (PostS.expr p).mono fun v H1 ⟨rs1, S1, G1, y, u1, m1, r1, p1⟩ => p1 σ H1 G1 rs1 Up.refl m1⟩
def sIf (c : M Bool) (t u : MS) : MS := do let b ← c; if b then t else u
theorem s_if {c : Expr} {tc : M Bool} {A B : List Stmt} {t u : MS} (hc : PDT X E c tc) (ha : PDSs X E A t) (hb : PDSs X E B u) : PDS X E (.If c A B pos) (sIf tc t u) := PS.weak (ps_if hc ha hb) fun D σ H q => by
  obtain ⟨F, rs, S, G, m, p⟩ := q
  refine ⟨F, rs, S, G, m, (PostS.expr p).mono fun k H1 ⟨rs1, S1, G1, y, u1, m1, r1, p1⟩ => ?_⟩
  subst r1
  cases y with
  | true => exact ⟨F, rs1, S1, G1, m1, p1⟩
  | false => exact ⟨F, rs1, S1, G1, m1, p1⟩
end
end DL
/-! DL5: bodies of defs, loops, comprehensions. -/
namespace DL
open PySem PySem.Spec L2

/-! ### a def's body -/
section
variable {K : PySem.W.Frag} {wl : Wd} {F : Hp} {rs : List Addr} {S : DS} {σ : L2.St} {H G : Hp} {ce : List Cl}
/-- the elder cells alone -/
theorem Md.pre {more : List Addr} {n : Nat} (m : Md K wl F (rs ++ more) S σ H G) (hn : rs.length = n) : Md K wl F rs ⟨[], S.ce.take n⟩ [] H G where
  len := rfl
  sub := m.sub
  frm := m.frm
  rl := by
    have := m.rl
    simp only [List.length_append] at this
    rw [List.length_take]
    omega
  nd := (List.nodup_append.mp m.nd).1
  cel := fun j a c h1 h2 => by
    have hj := (List.getElem?_eq_some_iff.mp h1).1
    refine m.cel j a c (by rw [List.getElem?_append_left hj]; exact h1) ?_
    rw [List.getElem?_take] at h2
    split at h2
    · exact h2
    · cases h2
  slot := fun i x h => by simp at h
/-- .. and one of the younger ones -/
theorem Md.pre1 {more : List Addr} {n j : Nat} {a : Addr} {c : Cl} (m : Md K wl F (rs ++ more) S σ H G) (hn : rs.length = n) (hj : n ≤ j) (ha : (rs ++ more)[j]? = some a) (hc : S.ce[j]? = some c) :
    Md K wl F (rs ++ [a]) ⟨[], S.ce.take n ++ [c]⟩ [] H G := by
  have m0 := m.pre hn
  have hl : (S.ce.take n).length = n := by have := m0.rl; simp only at this; omega
  refine ⟨rfl, m.sub, m.frm, by simp [hl, hn], ?_, fun i b d h1 h2 => ?_, fun i x h => by simp at h⟩
  · rw [List.nodup_append]
    refine ⟨m0.nd, by simp, fun x hx y hy => ?_⟩
    have e : y = a := by simpa using hy
    subst e
    obtain ⟨i, hi, e⟩ := List.getElem_of_mem hx
    exact m.nd_ne (by rw [List.getElem?_append_left hi, List.getElem?_eq_getElem hi, e]) ha (by omega)
  · by_cases hi : i < rs.length
    · rw [List.getElem?_append_left hi] at h1
      rw [List.getElem?_append_left (by rw [hl, ← hn]; exact hi)] at h2
      exact m0.cel i b d h1 h2
    · have hi' : i = rs.length := by
        have := (List.getElem?_eq_some_iff.mp h1).1
        simp at this
        omega
      subst hi'
      rw [List.getElem?_append_right (Nat.le_refl _)] at h1
      rw [List.getElem?_append_right (by rw [hl, hn]; exact Nat.le_refl _)] at h2
      simp at h1
      simp [hl, hn] at h2
      subst h1 h2
      exact m.cel j a c ha hc
end
/-- at a def's end only the elder cells and the result stay -/
def gc (n : Nat) (x : VD) (ce : List Cl) : R (VD × DS) := match x with
  | .dat d => .ok (.dat d, ⟨[], ce.take n⟩)
  | .rf j => if j < n then .ok (.rf j, ⟨[], ce.take n⟩) else match ce[j]? with
    | some c => .ok (.rf n, ⟨[], ce.take n ++ [c]⟩)
    | none => .bad
  | .bag _ => .bad
  | .st _ => .bad
  | .ex e => .ok (.ex e, ⟨[], ce.take n⟩)
  | .exs _ => .bad
  | .oth _ => .bad
def runF (N : Nat) (body : MS) : Fd := fun xs S0 => match body ⟨xs.map some ++ List.replicate (N - xs.length) none, S0.ce⟩ with
  | .ok (.rt x, S') => gc S0.ce.length x S'.ce
  | .ok (.nx, S') => gc S0.ce.length (.dat .none) S'.ce
  | .ok (_, _) => .bad
  | .exc x S' => .exc x ⟨[], S'.ce.take S0.ce.length⟩
  | .bad => .bad
theorem runF_nosl (N : Nat) (body : MS) : NoSl (runF N body) := by
  intro xs ce x S' h
  have g : ∀ (n : Nat) (y : VD) (c : List Cl), gc n y c = .ok (x, S') → S'.sl = [] := by
    intro n y c e
    cases y with
    | dat d => cases e; rfl
    | rf j =>
      unfold gc at e
      dsimp only at e
      split at e
      · cases e; rfl
      · split at e
        · cases e; rfl
        · cases e
    | bag _ => cases e
    | st _ => cases e
    | ex _ => cases e; rfl
    | exs _ => cases e
    | oth _ => cases e
  unfold runF at h
  split at h
  · exact g _ _ _ h
  · exact g _ _ _ h
  · cases h
  · cases h
  · cases h
theorem gcPost {K : PySem.W.Frag} {wl : Wd} {mg : Str → Option Value} {E : XK} {F : Hp} {rs rs' : List Addr} {S' : DS} {σ' : L2.St} {H' G G' : Hp} {n : Nat} {x : VD} {v : V} {Q : VK} (u : Up rs G rs' G') (m : Md K wl F rs' S' σ' H' G') (r : RdV K wl rs' G' x v) (hn : rs.length = n)
    (h : Post K wl mg E F [] (RdV K wl) rs G (gc n x S'.ce) Q) : Q v H' := by
  obtain ⟨⟨more, rfl⟩, sg⟩ := u
  cases x with
  | dat d => exact h v H' G' rs ⟨⟨[], by simp⟩, sg⟩ (m.pre hn) r
  | bag _ => exact h.elim
  | st _ => exact h.elim
  | ex e => exact h v H' G' rs ⟨⟨[], by simp⟩, sg⟩ (m.pre hn) r
  | exs _ => exact h.elim
  | oth _ => exact h.elim
  | rf j =>
    obtain ⟨a, ha, rfl⟩ := r
    unfold gc at h
    dsimp only at h
    by_cases hj : j < n
    · rw [if_pos hj] at h
      exact h (.ref a) H' G' rs ⟨⟨[], by simp⟩, sg⟩ (m.pre hn) ⟨a, by rw [List.getElem?_append_left (by omega)] at ha; exact ha, rfl⟩
    · rw [if_neg hj] at h
      cases e : S'.ce[j]? with
      | none => rw [e] at h; exact h.elim
      | some c =>
        rw [e] at h
        exact h (.ref a) H' G' (rs ++ [a]) ⟨⟨[a], rfl⟩, sg⟩ (m.pre1 hn (by omega) ha e) ⟨a, by rw [List.getElem?_append_right (by omega)]; simp [hn], rfl⟩
section
variable {P : Program} {w : World} {K : PySem.W.Frag} {wl : Wd} {mg : Str → Option Value} {base : Heap}
theorem rdvs_get {K : PySem.W.Frag} {wl : Wd} {rs : List Addr} {G : Hp} : ∀ {xs : List VD} {vs : List V} {i : Nat} {x : VD}, RdVs K wl rs G xs vs → xs[i]? = some x → ∃ v, vs[i]? = some v ∧ RdV K wl rs G x v
  | [], [], _, _, _, e => by simp at e
  | y :: xs, v :: vs, 0, x, h, e => by simp at e; subst e; exact ⟨v, rfl, h.1⟩
  | y :: xs, v :: vs, i + 1, x, h, e => by
    obtain ⟨w, h1, h2⟩ := rdvs_get (i := i) (x := x) h.2 (by simpa using e)
    exact ⟨w, by simpa using h1, h2⟩
  | [], _ :: _, _, _, h, _ => h.elim
  | _ :: _, [], _, _, h, _ => h.elim
/-- THE RULE for a def -/
theorem fn_ok {x qual : Str} {st : Stmt} {f : Addr} {fd : FuncData} {N ps : List Str} {k : Nat} {body : MS} (Fn : Fun K x qual st f fd) (Sc : FnScope N ps (defScope st))
    (hbody : ∀ (cdv : Value) (A : Around) (outer : List Env) (s : Shared) (H : Hp) (E : XK), A.guards = some [] → Room k (A.deeper (PyProof.Rows.envOfC qual (defScope st) s.heap.objs.size f cdv)) →
      PDSs (cxOf (L2.CX P w) P w K mg base N qual (defScope st) f cdv A outer s H E) E (defBody st) body) : DG.FnG P w K mg base (k + 1) f fd ps (spD K w mg ps.length (runF N.length body)) := by
  refine DG.FnG.of Fn Sc (fun vs H Q E h => h.1) fun cdv A outer s H vs Q E hgd hr h => ?_
  refine ⟨_, hbody cdv A outer s H E hgd hr, ?_⟩
  obtain ⟨hl, F, rs, ce, G, xs, m, r, p⟩ := h
  have hxl := RdVs.length r
  refine ⟨F, rs, ⟨xs.map some ++ List.replicate (N.length - xs.length) none, ce⟩, G, m.slots (by simp [L2.start, hxl]) fun i x h => ?_, ?_⟩
  · by_cases hi : i < xs.length
    · rw [List.getElem?_append_left (by simpa using hi), List.getElem?_map] at h
      cases e : xs[i]? with
      | none => rw [e] at h; simp at h
      | some y =>
        rw [e] at h
        simp at h
        subst h
        obtain ⟨v, h1, h2⟩ := rdvs_get r e
        refine ⟨v, ?_, h2⟩
        unfold L2.start
        rw [List.getElem?_append_left (by simp; omega), List.getElem?_map, h1]
        rfl
    · rw [List.getElem?_append_right (by simp; omega)] at h
      rw [List.getElem?_replicate] at h
      split at h
      · cases h
      · cases h
  · unfold runF at p
    dsimp only at p
    have hn : rs.length = ce.length := m.rl
    cases e : body ⟨xs.map some ++ List.replicate (N.length - xs.length) none, ce⟩ with
    | ok q =>
      obtain ⟨f, S'⟩ := q
      rw [e] at p
      intro σ' H' G' rs' u' m'
      cases f with
      | nx => exact gcPost (x := .dat .none) u' m' .non hn p
      | rt x => exact fun v rv => gcPost u' m' rv hn p
      | bk => exact p.elim
      | ct => exact p.elim
    | exc x S' =>
      rw [e] at p
      intro C dx vs' H' G' rs' u' m' h1 h2 h3
      obtain ⟨⟨more, rfl⟩, sg⟩ := u'
      exact p C dx vs' H' G' rs ⟨⟨[], by simp⟩, sg⟩ (m'.pre hn) h1 h2 h3
    | bad => rw [e] at p; exact p.elim
end

/-! ### what a for walks -/
structure SrcOk (K : PySem.W.Frag) (J : It) (G0 : Hp) (ds : List PyData) : Prop where
  stop : ∀ (H G : Hp), Same G0 G → Same G H → J.stop ds.length H
  go : ∀ (i : Nat) (H G : Hp), i < ds.length → Same G0 G → Same G H → J.go i H
  yld : ∀ (i : Nat) (H G : Hp) (x : V) (H' : Hp), i < ds.length → Same G0 G → Same G H → J.yld i H x H' → ∃ d, ds[i]? = some d ∧ ((H' = H ∧ Dd K G x d) ∨ ∃ T o, H T = none ∧ H' = upd H T o ∧ Dd K (upd G T o) x d)
abbrev PDI (X : Cx) (E : XK) (tg iter : Expr) (src : M (List PyData)) : Prop := PI X tg iter (lift X.K X.wd X.mg E (fun _ G ds J => SrcOk X.K J G ds) src)
section
variable {K : PySem.W.Frag} {wl : Wd} {G : Hp} {a : Addr} {vs : List V} {ds : List PyData}
theorem src_list (hs : SqL K G a vs) (hd : DdAll K G vs ds) (inj : ∀ (H : Hp) (xs ys : List V), SqL K H a xs → SqL K H a ys → xs = ys) : SrcOk K (Itl K a) G ds where
  stop := fun H G1 s1 s2 => ⟨vs, Same.seq s2 (Same.seq s1 hs), Nat.le_of_eq (DdAll.length hd)⟩
  go := fun i H G1 hi s1 s2 => by
    have hi' : i < vs.length := by rw [DdAll.length hd]; exact hi
    exact ⟨vs, vs[i], Same.seq s2 (Same.seq s1 hs), List.getElem?_eq_getElem hi'⟩
  yld := fun i H G1 x H' hi s1 s2 y => by
    obtain ⟨e, y⟩ := y
    obtain ⟨d, h1, h2⟩ := DdAll.get hd (y vs (Same.seq s2 (Same.seq s1 hs)))
    exact ⟨d, h1, .inl ⟨e, Dd.same s1 _ _ h2⟩⟩
theorem src_tup (hs : SqT K G a vs) (hd : DdAll K G vs ds) : SrcOk K (Itt K a) G ds where
  stop := fun H G1 s1 s2 => ⟨vs, Same.sqt s2 (Same.sqt s1 hs), Nat.le_of_eq (DdAll.length hd)⟩
  go := fun i H G1 hi s1 s2 => by
    have hi' : i < vs.length := by rw [DdAll.length hd]; exact hi
    exact ⟨vs, vs[i], Same.sqt s2 (Same.sqt s1 hs), List.getElem?_eq_getElem hi'⟩
  yld := fun i H G1 x H' hi s1 s2 y => by
    obtain ⟨e, y⟩ := y
    obtain ⟨d, h1, h2⟩ := DdAll.get hd (y vs (Same.sqt s2 (Same.sqt s1 hs)))
    exact ⟨d, h1, .inl ⟨e, Dd.same s1 _ _ h2⟩⟩
end
def rngD (lo : Int) (n : Nat) : List PyData := (List.range n).map fun i => .int (lo + (i : Nat))
theorem src_rng {K : PySem.W.Frag} {G : Hp} (lo : Int) (n : Nat) : SrcOk K (Itr lo n) G (rngD lo n) where
  stop := fun H G1 _ _ => by show n ≤ (rngD lo n).length; simp [rngD]
  go := fun i H G1 hi _ _ => by
    show i < n
    simpa [rngD] using hi
  yld := fun i H G1 x H' hi s1 s2 y => by
    obtain ⟨e, y⟩ := y
    subst y
    have hi' : i < n := by simpa [rngD] using hi
    refine ⟨.int (lo + (i : Nat)), ?_, .inl ⟨e, .int _⟩⟩
    simp [rngD, List.getElem?_range hi']
def asSeq (d : PyData) : Option (List PyData) := match d with
  | .list ds => some ds
  | .tuple ds => some ds
  | _ => none
def srcSeq (t : M VD) : M (List PyData) := do let x ← t; let d ← toD x; ofO (asSeq d)
def srcRng (t : M VD) : M (List PyData) := do
  let x ← t
  match x with
  | .dat (.int j) => do chk (decide (-(2 ^ 62) ≤ j ∧ j < 2 ^ 62)); pure (rngD 0 j.toNat)
  | _ => M.bad
section
variable {X : Cx} {E : XK} {tg iter l : Expr} {p pos : Pos}
theorem i_seq {t : M VD} (hl : PD X E l t) : PDI X E tg l (srcSeq t) := by
  refine ⟨fun pins s σ H R I h => ?_⟩; obtain ⟨F, rs, S, G, m, p⟩ := h
  refine thn (hl.run pins s σ H _ I ⟨F, rs, S, G, m, Post.seq p⟩) fun v s1 ⟨x, H1, I1, r1, rs1, S1, G1, xd, u1, m1, rx, p1⟩ => ?_
  obtain ⟨d, S2, G2, sg, m2, rd, p2⟩ := m1.toD rx p1
  obtain ⟨ds, hds, p3⟩ := Post.ofO' p2
  cases d with
  | list es =>
    cases hds
    cases rd with
    | @lst a xs _ hs ha =>
      cases r1
      have hq : SqL X.K H1 a xs := .inl (Same.rd m2.sub hs); obtain ⟨its, rv, p', hz⟩ := I1.list hq
      refine wpAny_pyIter_list p'.isList ?_
      refine ⟨s1.heap.objs.size, [s1.heap.objs.size], _, Itl X.K a, H1, rfl, I1.kept (t' := s1.toks) fun b o e => Heap.get?_push_of_some _ e, turn_list a _, ⟨_, Heap.get?_push_size _ rfl, rfl, rfl⟩, fun b hb => ?_, ?_⟩
      · have e : b = s1.heap.objs.size := by simpa using hb
        subst e; exact I1.fpOk (Nat.le_refl _) (I1.hok.fresh (Nat.le_refl _))
      · refine p3 (Itl X.K a) H1 G2 rs1 Up.refl m2 ⟨fun H G1 s1 s2 => ⟨xs, .inl (Same.rd s2 (Same.rd s1 hs)), Nat.le_of_eq (DdAll.length ha)⟩, fun i H G1 hi s1 s2 => ?_, fun i H G1 x H' hi s1 s2 y => ?_⟩
        · have hi' : i < xs.length := by rw [DdAll.length ha]; exact hi
          exact ⟨xs, xs[i], .inl (Same.rd s2 (Same.rd s1 hs)), List.getElem?_eq_getElem hi'⟩
        · obtain ⟨e, y⟩ := y
          obtain ⟨d, h1, h2⟩ := DdAll.get ha (y xs (.inl (Same.rd s2 (Same.rd s1 hs))))
          exact ⟨d, h1, .inl ⟨e, Dd.same s1 _ _ h2⟩⟩
  | tuple es =>
    cases hds
    cases rd with
    | @tup a xs _ hs ha =>
      cases r1
      have hq : SqT X.K H1 a xs := (TN.SqN.same m2.sub hs).sqt
      obtain ⟨its, rv, p', hz⟩ := I1.tuple hq
      refine wpAny_pyIter_tuple (show s1.heap.IsTuple a its.toArray from p') ?_
      refine ⟨s1.heap.objs.size, [s1.heap.objs.size], _, Itt X.K a, H1, rfl, I1.kept (t' := s1.toks) fun b o e => Heap.get?_push_of_some _ e, turn_tuple a _, ⟨_, Heap.get?_push_size _ rfl, rfl, rfl⟩, fun b hb => ?_, ?_⟩
      · have e : b = s1.heap.objs.size := by simpa using hb
        subst e; exact I1.fpOk (Nat.le_refl _) (I1.hok.fresh (Nat.le_refl _))
      · exact p3 (Itt X.K a) H1 G2 rs1 Up.refl m2 (src_tup hs.sqt ha)
  | _ => cases hds
theorem PI.weak {w w' : TI} (h : PI X tg iter w) (k : ∀ σ H R, w' σ H R → w σ H R) : PI X tg iter w' := ⟨fun pins s σ H R I q => h.run pins s σ H R I (k _ _ _ q)⟩
theorem i_rng {a : Expr} {t : M VD} (hg : Gl X "range") (hm : X.mg "range" = none) (ha : PD X E a t) (hs : starEach [a] X.env = [(false, eval a X.env)] := by rfl) : PDI X E tg (.Call (.Name "range" p) [a] [] pos) (srcRng t) :=
  PI.weak (pi_range1 hg hm (pa_cons ha pa_nil (by rw [hs]; rfl)) hs) fun σ H R q => by
  obtain ⟨F, rs, S, G, m, p⟩ := q
  refine ⟨F, rs, S, G, m, (Post.seq p).mono fun v H1 ⟨rs1, S1, G1, x, u1, m1, r1, p1⟩ => ?_⟩
  cases x with
  | rf j => exact p1.elim
  | bag _ => exact p1.elim
  | st _ => exact p1.elim
  | ex _ => exact p1.elim
  | exs _ => exact p1.elim
  | oth _ => exact p1.elim
  | dat d =>
    cases d with
    | int j =>
      cases (show Dd X.K G1 v (.int j) from r1)
      obtain ⟨hb, p2⟩ := Post.chk p1
      have hb' := of_decide_eq_true hb
      exact ⟨j, rfl, hb'.1, hb'.2, p2 (Itr 0 j.toNat) H1 G1 rs1 Up.refl m1 (src_rng 0 j.toNat)⟩
    | _ => exact p1.elim
end

/-! ### for -/
def forD (g : VD → M Unit) (body : MS) : List PyData → MS
  | [] => pure .nx
  | d :: ds => do
    let _ ← noX (g (.dat d))
    let f ← body
    match f with
    | .nx => forD g body ds
    | .ct => forD g body ds
    | .bk => pure .nx
    | .rt x => pure (.rt x)
def sFor (src : M (List PyData)) (g : VD → M Unit) (body : MS) : MS := do let ds ← src; forD g body ds
section
variable {X : Cx} {E : XK} {tg iter : Expr} {body : List Stmt} {pos : Pos}
theorem s_for {src : M (List PyData)} {g : VD → M Unit} {t : MS} (hp : PassesOwn (model X.prog X.w) X.A X.env X.xe) (hc : X.calm = true) (hi : PDI X E tg iter src) {is : List Nat} (hg : PDG X is tg g) (hb : PDSs X E body t)
    (hs : ∀ x, foldedSetIterable iter X.env x = pure x := by intro _; rfl) : PDS X E (.For tg iter body [] pos) (sFor src g t) := PS.weak (ps_for hp hc hi hg hb hs) fun D σ H q => by
  obtain ⟨F, rs, S, G, m, p⟩ := q
  refine ⟨F, rs, S, G, m, (PostS.expr p).mono fun J H1 ⟨rs1, S1, G1, ds, u1, m1, r1, p1⟩ => ?_⟩
  refine ⟨fun i n σ' H' => n = ds.length - i ∧ i ≤ ds.length ∧ ∃ rs2 S2 G2, Up rs1 G1 rs2 G2 ∧ Md X.K X.wd F rs2 S2 σ' H' G2 ∧ PostS X.K X.wd X.mg E F rs2 G2 (forD g t (ds.drop i) S2) D, ⟨ds.length, by simp, by simp, rs1, S1, G1, Up.refl, m1, by simpa using p1⟩, ?_⟩
  rintro i n σ' H' ⟨rfl, hi, rs2, S2, G2, u2, m2, p2⟩
  by_cases hlt : i < ds.length
  · refine .inr ⟨r1.go i H' G2 hlt u2.2 m2.sub, fun σ'' H'' => ∃ rs3 S3 G3, Up rs1 G1 rs3 G3 ∧ Md X.K X.wd F rs3 S3 σ'' H'' G3 ∧ PostS X.K X.wd X.mg E F rs3 G3 (forD g t (ds.drop (i + 1)) S3) D,
      fun σ'' H'' ⟨rs3, S3, G3, u3, m3, p3⟩ => ⟨ds.length - (i + 1), by omega, rfl, hlt, rs3, S3, G3, u3, m3, p3⟩, fun x H'' y => ?_⟩
    obtain ⟨d, hd, hy⟩ := r1.yld i H' G2 x H'' hlt u2.2 m2.sub y
    have step : ∀ G3, Same G2 G3 → Md X.K X.wd F rs2 S2 σ' H'' G3 → Dd X.K G3 x d → ∃ F' rs S G y, Md X.K X.wd F' rs S σ' H'' G ∧ RdV X.K X.wd rs G y x ∧ PostU X.K X.wd F' rs G is σ' (g y S) fun σ2 H2 =>
        liftS X.K X.wd X.mg E t { D with nx := fun σ'' H'' => ∃ rs3 S3 G3, Up rs1 G1 rs3 G3 ∧ Md X.K X.wd F rs3 S3 σ'' H'' G3 ∧ PostS X.K X.wd X.mg E F rs3 G3 (forD g t (ds.drop (i + 1)) S3) D, ct := fun σ'' H'' => ∃ rs3 S3 G3, Up rs1 G1 rs3 G3 ∧ Md X.K X.wd F rs3 S3 σ'' H'' G3 ∧ PostS X.K X.wd X.mg E F rs3 G3 (forD g t (ds.drop (i + 1)) S3) D, bk := D.nx } σ2 H2 := by
      intro G3 s3 m3 rd
      refine ⟨F, rs2, S2, G3, .dat d, m3, rd, ?_⟩
      have hdrop : ds.drop i = d :: ds.drop (i + 1) := by
        rw [List.drop_eq_getElem_cons hlt]; congr 1
        have := List.getElem?_eq_getElem hlt
        rw [hd] at this; exact (Option.some.inj this).symm
      rw [hdrop] at p2
      unfold forD at p2
      rw [M.bind_run] at p2
      unfold noX at p2
      cases e : g (.dat d) S2 with
      | exc _ _ => rw [e] at p2; exact p2.elim
      | bad => rw [e] at p2; exact p2.elim
      | ok q =>
        rw [e] at p2
        simp only [R.bind] at p2
        intro σ4 H4 G4 rs4 u4 m4 _
        refine ⟨F, rs4, q.2, G4, m4, ?_⟩
        rw [M.bind_run] at p2
        have up4 : Up rs2 G2 rs4 G4 := ⟨u4.1, L2.Same.trans s3 u4.2⟩
        cases e2 : t q.2 with
        | bad => rw [e2] at p2; exact p2.elim
        | exc x S' =>
          rw [e2] at p2
          exact PostS.up (r := .exc x S') up4 p2
        | ok w =>
          rw [e2] at p2
          obtain ⟨f, S5⟩ := w
          intro σ5 H5 G5 rs5 u5 m5
          have up5 := up4.trans u5
          cases f with
          | nx => exact ⟨rs5, S5, G5, u2.trans up5, m5, PostS.up up5 p2⟩
          | ct => exact ⟨rs5, S5, G5, u2.trans up5, m5, PostS.up up5 p2⟩
          | bk => exact p2 σ5 H5 G5 rs5 up5 m5
          | rt x => exact p2 σ5 H5 G5 rs5 up5 m5
    rcases hy with ⟨rfl, rd⟩ | ⟨T, o, hT, rfl, rd⟩
    · exact step G2 (L2.Same.refl _) m2 rd
    · exact step (upd G2 T o) (same_upd (L2.Same.free m2.sub hT)) (m2.new hT) rd
  · have e : i = ds.length := by omega
    subst e
    refine .inl ⟨r1.stop H' G2 u2.2 m2.sub, ?_⟩
    rw [List.drop_length] at p2
    exact p2 σ' H' G2 rs2 Up.refl m2
end
end DL
/-! DL6: list comprehensions. -/
namespace DL
open PySem PySem.Spec L2

abbrev Ce := List Cl
def wipeD (sl : List (Option VD)) : List Nat → List (Option VD)
  | [] => sl
  | v :: vs => (wipeD sl vs).set v none
theorem Md.wipe {K : PySem.W.Frag} {wl : Wd} {F : Hp} {rs : List Addr} {S : DS} {σ : L2.St} {H G : Hp} (m : Md K wl F rs S σ H G) : ∀ vs : List Nat, Md K wl F rs ⟨wipeD S.sl vs, S.ce⟩ (L2.wipe σ vs) H G
  | [] => m
  | v :: vs => by
    have m1 := Md.wipe m vs
    refine ⟨by simp only [wipeD, L2.wipe, List.length_set]; exact m1.len, m.sub, m.frm, m.rl, m.nd, m.cel, fun i x h => ?_⟩
    simp only [wipeD] at h
    by_cases hi : i = v
    · subst hi
      have hl := (List.getElem?_eq_some_iff.mp h).1
      simp only [List.length_set] at hl
      rw [List.getElem?_set_self hl] at h
      cases h
    · rw [List.getElem?_set_ne (Ne.symm hi)] at h
      obtain ⟨w, h1, h2⟩ := m1.slot i x h
      exact ⟨w, by simp only [L2.wipe]; rw [List.getElem?_set_ne (Ne.symm hi)]; exact h1, h2⟩
theorem wipe_get {σ : L2.St} : ∀ {vs : List Nat} {k : Nat}, k ∉ vs → (L2.wipe σ vs)[k]? = σ[k]?
  | [], _, _ => rfl
  | v :: vs, k, h => by
    simp only [L2.wipe]
    rw [List.getElem?_set_ne (fun z => h (by simp [z]))]
    exact wipe_get fun z => h (List.mem_cons_of_mem _ z)
theorem wipe_none {σ : L2.St} : ∀ {vs : List Nat} {k : Nat}, k ∈ vs → k < σ.length → (L2.wipe σ vs)[k]? = some none
  | v :: vs, k, h, hl => by
    simp only [L2.wipe]
    by_cases e : k = v
    · subst e
      rw [List.getElem?_set_self (by rw [wipe_length]; exact hl)]
    · rw [List.getElem?_set_ne (Ne.symm e)]
      rcases List.mem_cons.1 h with z | z
      · exact absurd z e
      · exact wipe_none z hl
theorem wipe_off {σ σ2 : L2.St} {vs is : List Nat} (o : Off is (L2.wipe σ vs) σ2) (h : ∀ i ∈ is, i ∈ vs) : L2.wipe σ2 vs = L2.wipe σ vs := by
  apply List.ext_getElem?
  intro k
  have hl : σ2.length = σ.length := o.1.trans (wipe_length σ vs)
  by_cases hk : k ∈ vs
  · by_cases hb : k < σ.length
    · rw [wipe_none hk hb, wipe_none hk (by rw [hl]; exact hb)]
    · rw [List.getElem?_eq_none (by rw [wipe_length, hl]; omega), List.getElem?_eq_none (by rw [wipe_length]; omega)]
  · rw [wipe_get hk, o.2 k (fun z => hk (h k z))]

/-- one turn: the item, or nothing -/
def stepC (g : VD → M Unit) (tt : M Bool) (te : M VD) (d : PyData) : M (Option PyData) := do
  g (.dat d)
  let b ← tt
  if b then do
    let y ← te
    let e ← toD y
    pure (some e)
  else pure none
def lcGo (step : PyData → M (Option PyData)) (n0 : Nat) (sl0 : List (Option VD)) : List PyData → Ce → Option Ce
  | [], ce => some ce
  | d :: ds, ce => match step d ⟨sl0, ce⟩ with
    | .ok (o, S') => match S'.ce[n0]? with
      | some (.ls true acc) => match o with
        | some e => if acc.length < 16777216 then lcGo step n0 sl0 ds (S'.ce.take n0 ++ [(.ls true (acc ++ [e]))]) else none
        | none => lcGo step n0 sl0 ds (S'.ce.take n0 ++ [(.ls true acc)])
      | _ => none
    | _ => none
def eLc (vs : List Nat) (src : M (List PyData)) (step : PyData → M (Option PyData)) : M VD := do
  let ds ← src
  fun S => match lcGo step S.ce.length (wipeD S.sl vs) ds (S.ce ++ [(.ls true [])]) with
    | some ce => .ok (.rf S.ce.length, ⟨S.sl, ce⟩)
    | none => .bad

theorem take_set {α : Type} {l : List α} {n : Nat} {x : α} (h : n < l.length) : (l.take (n + 1)).set n x = l.take n ++ [x] := by
  apply List.ext_getElem?
  intro k
  by_cases hk : k < n
  · rw [List.getElem?_set_ne (by omega), List.getElem?_take, if_pos (by omega), List.getElem?_append_left (by simp; omega), List.getElem?_take, if_pos hk]
  · by_cases e : k = n
    · subst e
      rw [List.getElem?_set_self (by simp; omega), List.getElem?_append_right (by simp; omega)]
      simp [Nat.min_eq_left (Nat.le_of_lt h)]
    · rw [List.getElem?_eq_none (by simp; omega), List.getElem?_eq_none (by simp; omega)]
theorem take_get {α : Type} {l : List α} {n : Nat} {x : α} (h : l[n]? = some x) : l.take (n + 1) = l.take n ++ [x] := by
  rw [List.take_succ, h]; rfl

section
variable {K : PySem.W.Frag} {wl : Wd} {mg : Str → Option Value} {F : Hp} {rs : List Addr} {S : DS} {σ : L2.St} {H G : Hp}
/-- what a run that ends well shows, whatever is wanted of exceptions -/
theorem Post.okE {α β : Type} {E E' : XK} {Rel : List Addr → Hp → α → β → Prop} {r : R (α × DS)} {p : α × DS} {Q Q' : β → Hp → Prop} (e : r = .ok p) (h : ∀ (b : β) (H' G' : Hp) (rs' : List Addr), Up rs G rs' G' → Md K wl F rs' p.2 σ H' G' → Rel rs' G' p.1 b → Q b H') : Post K wl mg E F σ Rel rs G r Q := by
  rw [e]; exact h
end

section
variable {X : Cx} {E : XK} {elt tg iter : Expr} {ifs : List Expr} {scope : Scope} {own : List (Str × Nat)} {pos : Pos} {src : M (List PyData)} {g : VD → M Unit} {tt : M Bool} {te : M VD} {is : List Nat}
/-- the reading of a comprehension -/
theorem lc_lift {gr : TG} (hgr : ∀ (σ : L2.St) (H : Hp) (v : V) (Q : L2.St → Hp → Prop), (∃ (F : Hp) (rs : List Addr) (S : DS) (G : Hp) (x : VD), Md X.K X.wd F rs S σ H G ∧ RdV X.K X.wd rs G x v ∧ PostU X.K X.wd F rs G is σ (g x S) Q) → gr v σ H Q)
    (his : ∀ i ∈ is, i ∈ own.map (·.2)) {σ : L2.St} {H : Hp} {Q : VK} (q : liftE X.K X.wd X.mg E (eLc (own.map (·.2)) src (stepC g tt te)) σ H Q) :
    tLc (lift X.K X.wd X.mg E (fun _ G ds J => SrcOk X.K J G ds) src) gr (liftT X.K X.wd X.mg E0 tt) (liftE X.K X.wd X.mg E0 te) (own.map (·.2)) σ H Q := by
  obtain ⟨F, rs, S, G, m, p⟩ := q
  refine ⟨F, rs, S, G, m, (Post.seq p).mono fun J H1 ⟨rs1, S1, G1, ds, u1, m1, r1, p1⟩ => fun D hD => ?_⟩
  have m2 := m1.cell (ds := []) (vs := []) hD .nil
  have hn0 : rs1.length = S1.ce.length := m1.rl
  refine ⟨fun i n H' => n = ds.length - i ∧ i ≤ ds.length ∧ ∃ ce2 G2, Same G1 G2 ∧ Md X.K X.wd F (rs1 ++ [D]) ⟨S1.sl, ce2⟩ σ H' G2 ∧
      Post X.K X.wd X.mg E F σ (RdV X.K X.wd) rs1 G1 (match lcGo (stepC g tt te) S1.ce.length (wipeD S1.sl (own.map (·.2))) (ds.drop i) ce2 with
        | some ce => .ok (.rf S1.ce.length, ⟨S1.sl, ce⟩)
        | none => .bad) Q, ⟨ds.length, by simp, by simp, _, G1, L2.Same.refl _, m2, by simpa using p1⟩, ?_⟩
  rintro i n H' ⟨rfl, hi, ce2, G2, s2, m3, p2⟩
  by_cases hlt : i < ds.length
  · refine .inr ⟨r1.go i H' G2 hlt s2 m3.sub, fun H'' => ∃ ce3 G3, Same G1 G3 ∧ Md X.K X.wd F (rs1 ++ [D]) ⟨S1.sl, ce3⟩ σ H'' G3 ∧
      Post X.K X.wd X.mg E F σ (RdV X.K X.wd) rs1 G1 (match lcGo (stepC g tt te) S1.ce.length (wipeD S1.sl (own.map (·.2))) (ds.drop (i + 1)) ce3 with
        | some ce => .ok (.rf S1.ce.length, ⟨S1.sl, ce⟩)
        | none => .bad) Q, fun H'' ⟨ce3, G3, s3, m4, p3⟩ => ⟨ds.length - (i + 1), by omega, rfl, hlt, ce3, G3, s3, m4, p3⟩, fun x H'' y => ?_⟩
    obtain ⟨d, hd, hy⟩ := r1.yld i H' G2 x H'' hlt s2 m3.sub y
    have hdrop : ds.drop i = d :: ds.drop (i + 1) := by
      rw [List.drop_eq_getElem_cons hlt]; congr 1
      have := List.getElem?_eq_getElem hlt
      rw [hd] at this; exact (Option.some.inj this).symm
    rw [hdrop] at p2
    unfold lcGo at p2
    -- the turn ends well
    cases es : stepC g tt te d ⟨wipeD S1.sl (own.map (·.2)), ce2⟩ with
    | exc _ _ => rw [es] at p2; exact p2.elim
    | bad => rw [es] at p2; exact p2.elim
    | ok w =>
      obtain ⟨o, S'⟩ := w
      rw [es] at p2
      dsimp only at p2
      cases ea : S'.ce[S1.ce.length]? with
      | none => rw [ea] at p2; exact p2.elim
      | some c =>
        cases c with
        | dk _ => rw [ea] at p2; exact p2.elim
        | si _ => rw [ea] at p2; exact p2.elim
        | ls live acc =>
        cases live with
        | false => rw [ea] at p2; exact p2.elim
        | true =>
          rw [ea] at p2
          dsimp only at p2
          -- the parts of the turn
          unfold stepC at es
          rw [M.bind_run] at es
          have step : ∀ G3, Same G2 G3 → Md X.K X.wd F (rs1 ++ [D]) ⟨S1.sl, ce2⟩ σ H'' G3 → Dd X.K G3 x d → gr x (L2.wipe σ (own.map (·.2))) H'' fun σ2 H2 => L2.wipe σ2 (own.map (·.2)) = L2.wipe σ (own.map (·.2)) ∧ liftT X.K X.wd X.mg E0 tt σ2 H2 fun b H3 =>
              if b = true then liftE X.K X.wd X.mg E0 te σ2 H3 fun y H4 => ∃ accV, H4 D = some (.lst accV) ∧ accV.length < sizeLine ∧ (∃ ce3 G3, Same G1 G3 ∧ Md X.K X.wd F (rs1 ++ [D]) ⟨S1.sl, ce3⟩ σ (upd H4 D (.lst (accV ++ [y]))) G3 ∧
                Post X.K X.wd X.mg E F σ (RdV X.K X.wd) rs1 G1 (match lcGo (stepC g tt te) S1.ce.length (wipeD S1.sl (own.map (·.2))) (ds.drop (i + 1)) ce3 with
                  | some ce => .ok (.rf S1.ce.length, ⟨S1.sl, ce⟩)
                  | none => .bad) Q)
              else (∃ ce3 G3, Same G1 G3 ∧ Md X.K X.wd F (rs1 ++ [D]) ⟨S1.sl, ce3⟩ σ H3 G3 ∧
                Post X.K X.wd X.mg E F σ (RdV X.K X.wd) rs1 G1 (match lcGo (stepC g tt te) S1.ce.length (wipeD S1.sl (own.map (·.2))) (ds.drop (i + 1)) ce3 with
                  | some ce => .ok (.rf S1.ce.length, ⟨S1.sl, ce⟩)
                  | none => .bad) Q) := by
            intro G3 s3 m4 rd
            refine hgr _ _ _ _ ⟨F, _, _, G3, .dat d, m4.wipe (own.map (·.2)), rd, ?_⟩
            cases eg : g (.dat d) ⟨wipeD S1.sl (own.map (·.2)), ce2⟩ with
            | exc _ _ => rw [eg] at es; cases es
            | bad => rw [eg] at es; cases es
            | ok q =>
              rw [eg] at es
              simp only [R.bind] at es
              intro σ2 H2 G4 rs4 u4 m5 off
              refine ⟨wipe_off off his, ?_⟩
              rw [M.bind_run] at es
              cases et : tt q.2 with
              | exc _ _ => rw [et] at es; cases es
              | bad => rw [et] at es; cases es
              | ok q2 =>
                rw [et] at es
                simp only [R.bind] at es
                refine ⟨F, rs4, q.2, G4, m5, Post.okE (E' := E) (Q' := fun _ _ => True) et fun b H3 G5 rs5 u5 m6 eb => ?_⟩
                have hb : q2.1 = b := eb
                subst hb
                have upA : Up (rs1 ++ [D]) G3 rs5 G5 := u4.trans u5
                -- back to the def's own slots
                have back : ∀ (H9 G9 : Hp) (rs9 : List Addr) (S9 : DS) (σ9 : L2.St), Up (rs1 ++ [D]) G3 rs9 G9 → Md X.K X.wd F rs9 S9 σ9 H9 G9 → Md X.K X.wd F (rs1 ++ [D]) ⟨S1.sl, S9.ce.take (S1.ce.length + 1)⟩ σ H9 G9 := by
                  intro H9 G9 rs9 S9 σ9 u9 m9
                  obtain ⟨⟨more, e9⟩, sg9⟩ := u9
                  rw [e9] at m9
                  have mp := m9.pre (n := S1.ce.length + 1) (by simp [hn0])
                  refine mp.slots m4.len fun k y hk => ?_
                  obtain ⟨v, h1, h2⟩ := m4.slot k y hk
                  exact ⟨v, h1, RdV.up ⟨⟨[], by simp⟩, sg9⟩ h2⟩
                cases hq2 : q2.1 with
                | false =>
                  rw [hq2] at es
                  simp only [Bool.false_eq_true, if_false] at es ⊢
                  have es' : (none, q2.2) = (o, S') := R.ok.inj es
                  cases es'
                  dsimp only at p2
                  have mb := back H3 G5 rs5 q2.2 _ upA m6
                  rw [take_get ea] at mb
                  exact ⟨_, G5, L2.Same.trans s2 (L2.Same.trans s3 upA.2), mb, p2⟩
                | true =>
                  rw [hq2] at es
                  simp only [if_true] at es ⊢
                  rw [M.bind_run] at es
                  cases ee : te q2.2 with
                  | exc _ _ => rw [ee] at es; cases es
                  | bad => rw [ee] at es; cases es
                  | ok q3 =>
                    rw [ee] at es
                    simp only [R.bind] at es
                    refine ⟨F, rs5, q2.2, G5, m6, Post.okE (E' := E) (Q' := fun _ _ => True) ee fun yv H4 G6 rs6 u6 m7 ry => ?_⟩
                    rw [M.bind_run] at es
                    -- the item as data
                    have key : ∃ e9 S9 G9, Same G6 G9 ∧ Md X.K X.wd F rs6 S9 σ2 H4 G9 ∧ Dd X.K G9 yv e9 ∧ o = some e9 ∧ S' = S9 := by
                      cases ed : toD q3.1 q3.2 with
                      | exc _ _ => rw [ed] at es; cases es
                      | bad => rw [ed] at es; cases es
                      | ok q4 =>
                        rw [ed] at es
                        have es' : (some q4.1, q4.2) = (o, S') := R.ok.inj es
                        have pp : Post X.K X.wd X.mg (fun _ _ _ => True) F σ2 (fun _ _ (a : PyData) (b : PyData) => True) rs6 G6 ((toD q3.1 >>= fun d => (pure d : M PyData)) q3.2) (fun _ _ => True) := by
                          rw [M.bind_run, ed]
                          exact fun _ _ _ _ _ _ _ => trivial
                        cases hx : q3.1 with
                        | dat d9 =>
                          rw [hx] at ed ry
                          have e1 : (d9, q3.2) = q4 := R.ok.inj ed
                          subst e1
                          cases es'
                          exact ⟨d9, q3.2, G6, L2.Same.refl _, m7, ry, rfl, rfl⟩
                        | bag _ => rw [hx] at ed; cases ed
                        | st _ => rw [hx] at ed; cases ed
                        | ex _ => rw [hx] at ed; cases ed
                        | exs _ => rw [hx] at ed; cases ed
                        | oth _ => rw [hx] at ed; cases ed
                        | rf j =>
                          rw [hx] at ed ry
                          obtain ⟨aa, haa, rfl⟩ := ry
                          unfold toD at ed
                          dsimp only at ed
                          cases ej : q3.2.ce[j]? with
                          | none => rw [ej] at ed; cases ed
                          | some cc =>
                            cases cc with
                            | dk _ => rw [ej] at ed; cases ed
                            | si _ => rw [ej] at ed; cases ed
                            | ls bb dss =>
                            rw [ej] at ed
                            cases bb with
                            | true =>
                              cases ed
                              cases es'
                              obtain ⟨G9, sg9, m9, rd9⟩ := m7.freeze haa ej
                              exact ⟨_, _, G9, sg9, m9, rd9, rfl, rfl⟩
                            | false =>
                              cases ed
                              cases es'
                              obtain ⟨vs9, hv9, hd9⟩ := m7.cel j aa _ haa ej
                              exact ⟨_, _, G6, L2.Same.refl _, m7, .lst (Rd.of hv9) hd9, rfl, rfl⟩
                    obtain ⟨e9, S9, G9, sg9, m9, rd9, rfl, rfl⟩ := key
                    have upB : Up (rs1 ++ [D]) G3 rs6 G9 := upA.trans (u6.trans ⟨⟨[], by simp⟩, sg9⟩)
                    have mb := back H4 G9 rs6 S' _ upB m9
                    have hDn : (rs1 ++ [D])[S1.ce.length]? = some D := by rw [List.getElem?_append_right (by omega)]; simp [hn0]
                    have hln : S1.ce.length < S'.ce.length := (List.getElem?_eq_some_iff.mp ea).1
                    have hcn : (⟨S1.sl, S'.ce.take (S1.ce.length + 1)⟩ : DS).ce[S1.ce.length]? = some (.ls true acc) := by
                      show (S'.ce.take (S1.ce.length + 1))[S1.ce.length]? = some (.ls true acc)
                      rw [List.getElem?_take, if_pos (by omega)]
                      exact ea
                    obtain ⟨_, _, accV, hv, hdv⟩ := mb.cel _ _ _ hDn hcn
                    dsimp only at p2
                    by_cases hz : acc.length < 16777216
                    · rw [if_pos hz] at p2
                      refine ⟨accV, hv, ?_, ?_⟩
                      · rw [DdAll.length hdv, sizeLine_eq]; exact hz
                      · have mw := mb.write (ds' := acc ++ [e9]) (vs' := accV ++ [yv]) hDn hcn (DdAll.append hdv (.cons rd9 .nil))
                        dsimp only at mw
                        rw [take_set hln] at mw
                        exact ⟨_, G9, L2.Same.trans s2 (L2.Same.trans s3 upB.2), mw, p2⟩
                    · rw [if_neg hz] at p2
                      exact p2.elim
          rcases hy with ⟨rfl, rd⟩ | ⟨T, oo, hT, rfl, rd⟩
          · exact step G2 (L2.Same.refl _) m3 rd
          · exact step (upd G2 T oo) (same_upd (L2.Same.free m3.sub hT)) (m3.new hT) rd
  · have e : i = ds.length := by omega
    subst e
    refine .inl ⟨r1.stop H' G2 s2 m3.sub, ?_⟩
    rw [List.drop_length] at p2
    exact p2 (.ref D) H' G2 (rs1 ++ [D]) ⟨⟨[D], rfl⟩, s2⟩ m3 ⟨D, by rw [List.getElem?_append_right (by omega)]; simp [hn0], rfl⟩
def tYesD : M Bool := pure true
theorem d_lc (hc : X.calm = true) (hN : X.N.Nodup) (ok : BlkOk X.N X.env.scope scope own) (his : ∀ i ∈ is, i ∈ own.map (·.2)) (hi : PDI X E tg iter src)
    (hg : ∀ (s : Shared) (H : Hp) (C : Addr) (cl : List (Str × Addr)) (fp : List Addr), PDG (X.blk s H scope (compEnvC scope cl C X.env) fp) is tg g)
    (ht : ∀ (s : Shared) (H : Hp) (C : Addr) (cl : List (Str × Addr)) (fp : List Addr), PTs (X.blk s H scope (compEnvC scope cl C X.env) fp) ifs (liftT X.K X.wd X.mg E0 tt))
    (he : ∀ (s : Shared) (H : Hp) (C : Addr) (cl : List (Str × Addr)) (fp : List Addr), PD (X.blk s H scope (compEnvC scope cl C X.env) fp) E0 elt te) (hs : ∀ x, foldedSetIterable iter X.env x = pure x := by intro _; rfl) :
    PD X E (.ListComp elt [⟨tg, iter, ifs, 0⟩] scope pos) (eLc (own.map (·.2)) src (stepC g tt te)) :=
  PE.weak (pe_lc (g := liftG X.K X.wd is g) (tt := liftT X.K X.wd X.mg E0 tt) (te := liftE X.K X.wd X.mg E0 te) hc hN hi ok hg ht he hs) fun σ H Q q => lc_lift (fun _ _ _ _ h => h) his q
theorem ts_nil {E : XK} : PTs X [] (liftT X.K X.wd X.mg E tYesD) := ⟨fun pins s σ H Q I q => pts_nil.run pins s σ H Q I (by
  obtain ⟨F, rs, S, G, m, p⟩ := q
  exact Post.ret m p rfl)⟩
theorem ts_one {E : XK} {c : Expr} {t : M Bool} (h : PDT X E c t) : PTs X [c] (liftT X.K X.wd X.mg E t) := pts_one h
end
end DL
/-! DL7: operators and built-ins by data. -/
namespace DL
open PySem PySem.Spec L2

/-! ### ints -/
def fI (g : Int → Int → Option PyData) : PyData → PyData → Option PyData
  | .int i, .int j => g i j
  | _, _ => none
theorem fI_inv {g : Int → Int → Option PyData} {d e r : PyData} (h : fI g d e = some r) : ∃ i j, d = .int i ∧ e = .int j ∧ g i j = some r := by
  unfold fI at h
  split at h
  · exact ⟨_, _, rfl, rfl, h⟩
  · cases h
section
variable {X : Cx}
theorem rD_int {K : PySem.W.Frag} {g : Int → Int → Option PyData} {x y : V} {H : Hp} {Q : VK} (h : rD K (fI g) x y H Q) : ∃ i j r w, x = .int i ∧ y = .int j ∧ g i j = some r ∧ scalV r = some w ∧ Q w H := by
  obtain ⟨d, e, r, w, h1, h2, h3, h4, q⟩ := h
  obtain ⟨i, j, rfl, rfl, h5⟩ := fI_inv h3
  cases h1
  cases h2
  exact ⟨i, j, r, w, rfl, rfl, h5, h4, q⟩
abbrev fAdd := fI fun i j => some (.int (i + j))
abbrev fSub := fI fun i j => some (.int (i - j))
abbrev fMul := fI fun i j => if (-(2 ^ 64) < i ∧ i < 2 ^ 64) ∨ (-(2 ^ 64) < j ∧ j < 2 ^ 64) then some (.int (i * j)) else none
abbrev fDiv := fI fun i j => if 0 < j ∧ j < 1073741824 then some (.int (i / j)) else none
abbrev fMod := fI fun i j => if 0 < j then some (.int (i % j)) else none
abbrev fPow := fI fun i j => if 0 ≤ j ∧ j ≤ 1000 ∧ i.natAbs < 2 ^ 64 then some (.int (i ^ j.toNat)) else none
theorem o_add : OpR X (binaryOp .Add) (rD X.K fAdd) := OpR.weak op_add fun x y H Q h => by
  obtain ⟨i, j, r, w, rfl, rfl, h1, h2, q⟩ := rD_int h
  cases h1; cases h2; exact ⟨i, j, rfl, rfl, q⟩
theorem o_sub : OpR X (binaryOp .Sub) (rD X.K fSub) := OpR.weak op_sub fun x y H Q h => by
  obtain ⟨i, j, r, w, rfl, rfl, h1, h2, q⟩ := rD_int h
  cases h1; cases h2; exact ⟨i, j, rfl, rfl, q⟩
theorem o_mul : OpR X (binaryOp .Mult) (rD X.K fMul) := OpR.weak op_mul fun x y H Q h => by
  obtain ⟨i, j, r, w, rfl, rfl, h1, h2, q⟩ := rD_int h
  split at h1
  · rename_i hc
    cases h1; cases h2; exact ⟨i, j, rfl, rfl, hc, q⟩
  · cases h1
theorem o_div : OpR X (binaryOp .FloorDiv) (rD X.K fDiv) := OpR.weak op_fdiv fun x y H Q h => by
  obtain ⟨i, j, r, w, rfl, rfl, h1, h2, q⟩ := rD_int h
  split at h1
  · rename_i hc
    cases h1; cases h2; exact ⟨i, j, rfl, rfl, hc, q⟩
  · cases h1
theorem o_mod : OpR X (binaryOp .Mod) (rD X.K fMod) := OpR.weak op_mod fun x y H Q h => by
  obtain ⟨i, j, r, w, rfl, rfl, h1, h2, q⟩ := rD_int h
  split at h1
  · rename_i hc
    cases h1; cases h2; exact ⟨i, j, rfl, rfl, hc, q⟩
  · cases h1
theorem o_pow : OpR X (binaryOp .Pow) (rD X.K fPow) := OpR.weak op_pow fun x y H Q h => by
  obtain ⟨i, j, r, w, rfl, rfl, h1, h2, q⟩ := rD_int h
  split at h1
  · rename_i hc
    cases h1; cases h2; exact ⟨i, j, rfl, rfl, ⟨hc.1, by omega, hc.2.2⟩, q⟩
  · cases h1
abbrev fLt := fI fun i j => some (.bool (decide (i < j)))
abbrev fLe := fI fun i j => some (.bool (decide (i ≤ j)))
abbrev fGt := fI fun i j => some (.bool (decide (j < i)))
abbrev fGe := fI fun i j => some (.bool (decide (j ≤ i)))
theorem o_lt : OpR X (compareOp .Lt) (rD X.K fLt) := OpR.weak op_lt fun x y H Q h => by
  obtain ⟨i, j, r, w, rfl, rfl, h1, h2, q⟩ := rD_int h
  cases h1; cases h2; exact ⟨i, j, rfl, rfl, q⟩
theorem o_le : OpR X (compareOp .LtE) (rD X.K fLe) := OpR.weak op_le fun x y H Q h => by
  obtain ⟨i, j, r, w, rfl, rfl, h1, h2, q⟩ := rD_int h
  cases h1; cases h2; exact ⟨i, j, rfl, rfl, q⟩
theorem o_gt : OpR X (compareOp .Gt) (rD X.K fGt) := OpR.weak op_gt fun x y H Q h => by
  obtain ⟨i, j, r, w, rfl, rfl, h1, h2, q⟩ := rD_int h
  cases h1; cases h2; exact ⟨i, j, rfl, rfl, q⟩
theorem o_ge : OpR X (compareOp .GtE) (rD X.K fGe) := OpR.weak op_ge fun x y H Q h => by
  obtain ⟨i, j, r, w, rfl, rfl, h1, h2, q⟩ := rD_int h
  cases h1; cases h2; exact ⟨i, j, rfl, rfl, q⟩

/-! ### data compared -/
/-- a rule for data by what is read off the heap -/
theorem o_reads {f : Value → Value → Sem Value} {g : PyData → PyData → Option PyData} (rule : ∀ (s : Shared) (v u : Value) (d e : PyData) (as bs : List Addr) (b : Bool) (Q E : Value → Shared → Prop), Reads s.heap v d as → Reads s.heap u e bs → g d e = some (.bool b) → Q (.bool b) s → wpAny (model X.prog X.w) X.A (f v u) Q E s)
    (hb : ∀ d e r, g d e = some r → ∃ b, r = .bool b) : OpR X f (rD X.K g) := by
  intro pins s σ H x y v u Q I rx ry h; obtain ⟨d, e, r, w, h1, h2, h3, h4, q⟩ := h
  obtain ⟨b, rfl⟩ := hb d e r h3
  cases h4
  obtain ⟨as, r1⟩ := Dd.reads I d x v h1 rx
  obtain ⟨bs, r2⟩ := Dd.reads I e y u h2 ry
  exact rule s v u d e as bs b _ _ r1 r2 h3 ⟨.bl b, H, I, rfl, q⟩
def eqD (d e : PyData) : Option Bool :=
  if d.plain && e.plain && decide (min d.depth e.depth ≤ 100) then some (PyData.eqv d e)
  else match d, e with
    | .tuple xs, .tuple [] => some xs.isEmpty
    | _, _ => none
def fEq (d e : PyData) : Option PyData := (eqD d e).map .bool
def fNe (d e : PyData) : Option PyData := (eqD d e).map fun b => .bool (!b)
theorem rc_tup0 {A : Around} {s : Shared} {a b : Value} {xs : List PyData} {as bs : List Addr} (ra : Reads s.heap a (.tuple xs) as) (rb : Reads s.heap b (.tuple []) bs) (hu : A.units < cLine) : SeqAt.RcAt A s a b xs.isEmpty ∧ SeqAt.RcNeAt A s a b (!xs.isEmpty) := by
  cases ra with
  | @tuple l o vs n _ _ h1 h2 h3 h4 =>
    cases rb with
    | @tuple l' o' vs' n' _ _ k1 k2 k3 k4 =>
      have n1 : vs.size = xs.length := by simpa using SeqAt.ReadsAll.length _ _ _ h4
      have n2 : vs'.size = 0 := by simpa using SeqAt.ReadsAll.length _ _ _ k4
      have z := SeqAt.RcAt.tuples (A := A) (s := s) (e := fun _ => true) ⟨_, h1, h2, _, h3⟩ ⟨_, k1, k2, _, k3⟩ hu (fun j j1 j2 => by omega)
      have z2 := SeqAt.RcNeAt.tuples (A := A) (s := s) (e := fun _ => true) ⟨_, h1, h2, _, h3⟩ ⟨_, k1, k2, _, k3⟩ hu (fun j j1 j2 => by omega)
      have e : ((List.range (min vs.size vs'.size)).all (fun _ => true) && vs.size == vs'.size) = xs.isEmpty := by
        rw [n1, n2]
        cases xs <;> simp
      rw [e] at z z2
      exact ⟨z, z2⟩
theorem eqD_run {s : Shared} {v u : Value} {d e : PyData} {as bs : List Addr} {b : Bool} {Q E : Value → Shared → Prop} (hu : X.A.units + 200 < cLine) (r1 : Reads s.heap v d as) (r2 : Reads s.heap u e bs) (h : eqD d e = some b) (q : Q (.bool b) s) : wpAny (model X.prog X.w) X.A (compareOp .Eq v u) Q E s := by
  unfold eqD at h
  split at h
  · rename_i hc
    simp only [Bool.and_eq_true, decide_eq_true_eq] at hc; cases h
    exact SeqAt.eq_plain r1 r2 hc.1.1 hc.1.2 (by omega) q
  · split at h
    · cases h
      exact (rc_tup0 r1 r2 (by omega)).1 X.prog X.w E Q q
    · cases h
theorem neD_run {s : Shared} {v u : Value} {d e : PyData} {as bs : List Addr} {b : Bool} {Q E : Value → Shared → Prop} (hu : X.A.units + 200 < cLine) (r1 : Reads s.heap v d as) (r2 : Reads s.heap u e bs) (h : eqD d e = some b) (q : Q (.bool (!b)) s) : wpAny (model X.prog X.w) X.A (compareOp .NotEq v u) Q E s := by
  unfold eqD at h
  split at h
  · rename_i hc
    simp only [Bool.and_eq_true, decide_eq_true_eq] at hc; cases h
    exact SeqAt.ne_plain r1 r2 hc.1.1 hc.1.2 (by omega) q
  · split at h
    · cases h
      exact (rc_tup0 r1 r2 (by omega)).2 X.prog X.w E Q q
    · cases h
theorem o_eq (hu : X.A.units + 200 < cLine) : OpR X (compareOp .Eq) (rD X.K fEq) := o_reads (fun s v u d e as bs b Q E r1 r2 h q => by
  unfold fEq at h
  cases he : eqD d e with
  | none => rw [he] at h; cases h
  | some b' => rw [he] at h; cases h; exact eqD_run hu r1 r2 he q) fun d e r h => by
  unfold fEq at h
  cases he : eqD d e with
  | none => rw [he] at h; cases h
  | some b' => rw [he] at h; cases h; exact ⟨_, rfl⟩
theorem o_ne (hu : X.A.units + 200 < cLine) : OpR X (compareOp .NotEq) (rD X.K fNe) := o_reads (fun s v u d e as bs b Q E r1 r2 h q => by
  unfold fNe at h
  cases he : eqD d e with
  | none => rw [he] at h; cases h
  | some b' => rw [he] at h; cases h; exact neD_run hu r1 r2 he q) fun d e r h => by
  unfold fNe at h
  cases he : eqD d e with
  | none => rw [he] at h; cases h
  | some b' => rw [he] at h; cases h; exact ⟨_, rfl⟩
def isN (d : PyData) : Bool := match d with
  | .none => true
  | _ => false
/-- < of data whose places are alike -/
def fLtD (d e : PyData) : Option PyData := if W.alike d e && !isN d && decide (min d.depth e.depth ≤ 100) then some (.bool (W.dataLt d e)) else none
theorem o_ltD (hu : X.A.units + 200 < cLine) : OpR X (compareOp .Lt) (rD X.K fLtD) := o_reads (fun s v u d e as bs b Q E r1 r2 h q => by
  unfold fLtD at h
  split at h
  · rename_i hc
    simp only [Bool.and_eq_true, decide_eq_true_eq, Bool.not_eq_true'] at hc
    cases h
    exact W.rcLt_alike d e X.A s v u as bs r1 r2 hc.1.1 (fun z => by rw [z] at hc; cases hc.1.2) (by omega) X.prog X.w E Q q
  · cases h) fun d e r h => by
  unfold fLtD at h
  split at h
  · cases h; exact ⟨_, rfl⟩
  · cases h
/-- in, not in: lists and tuples -/
def inD (d c : PyData) : Option Bool := match asSeq c with
  | some xs => if d.plain && PyData.plainAll xs && decide (min (PyData.depthAll xs) d.depth ≤ 100) then some (xs.any fun z => PyData.eqv z d) else none
  | none => none
def fIn (d c : PyData) : Option PyData := (inD d c).map .bool
def fNotIn (d c : PyData) : Option PyData := (inD d c).map fun b => .bool (!b)
theorem o_in (hu : X.A.units + 200 < cLine) : OpR X (compareOp .In) (rD X.K fIn) := o_reads (fun s v u d e as bs b Q E r1 r2 h q => by
  unfold fIn inD at h
  cases e with
  | list xs =>
    simp only [asSeq] at h
    split at h
    · rename_i hc
      simp only [Bool.and_eq_true, decide_eq_true_eq] at hc; cases h
      exact SeqAt.in_list_data r2 r1 hc.1.2 hc.1.1 (by omega) q
    · cases h
  | tuple xs =>
    simp only [asSeq] at h
    split at h
    · rename_i hc
      simp only [Bool.and_eq_true, decide_eq_true_eq] at hc; cases h
      exact SeqAt.in_tuple_data r2 r1 hc.1.2 hc.1.1 (by omega) q
    · cases h
  | _ => cases h) fun d e r h => by
  unfold fIn at h
  cases he : inD d e with
  | none => rw [he] at h; cases h
  | some b' => rw [he] at h; cases h; exact ⟨_, rfl⟩
theorem o_notIn (hu : X.A.units + 200 < cLine) : OpR X (compareOp .NotIn) (rD X.K fNotIn) := o_reads (fun s v u d e as bs b Q E r1 r2 h q => by
  unfold fNotIn inD at h
  cases e with
  | list xs =>
    simp only [asSeq] at h
    split at h
    · rename_i hc
      simp only [Bool.and_eq_true, decide_eq_true_eq] at hc; cases h
      exact SeqAt.notIn_list_data r2 r1 hc.1.2 hc.1.1 (by omega) q
    · cases h
  | tuple xs =>
    simp only [asSeq] at h
    split at h
    · rename_i hc
      simp only [Bool.and_eq_true, decide_eq_true_eq] at hc; cases h
      exact SeqAt.notIn_tuple_data r2 r1 hc.1.2 hc.1.1 (by omega) q
    · cases h
  | _ => cases h) fun d e r h => by
  unfold fNotIn at h
  cases he : inD d e with
  | none => rw [he] at h; cases h
  | some b' => rw [he] at h; cases h; exact ⟨_, rfl⟩
/-- is None, is not None -/
def fIs (d e : PyData) : Option PyData := match e with
  | .none => some (.bool (isN d))
  | _ => none
def fIsNot (d e : PyData) : Option PyData := match e with
  | .none => some (.bool (!isN d))
  | _ => none
theorem isN_v {K : PySem.W.Frag} {H : Hp} {v : V} {d : PyData} (h : Dd K H v d) : decide (v = .non) = isN d := by
  cases h <;> first | rfl | (simp [isN])
theorem o_is : OpR X (compareOp .Is) (rD X.K fIs) := OpR.weak op_isN fun x y H Q h => by
  obtain ⟨d, e, r, w, h1, h2, h3, h4, q⟩ := h
  cases e with
  | none => cases h2; cases h3; cases h4; exact ⟨rfl, by rw [isN_v h1]; exact q⟩
  | _ => cases h3
theorem o_isNot : OpR X (compareOp .IsNot) (rD X.K fIsNot) := OpR.weak op_notN fun x y H Q h => by
  obtain ⟨d, e, r, w, h1, h2, h3, h4, q⟩ := h
  cases e with
  | none => cases h2; cases h3; cases h4; exact ⟨rfl, by rw [isN_v h1]; exact q⟩
  | _ => cases h3
end
end DL
/-! DL8: subscripts, slices, sums of sequences, built-ins, methods. -/
namespace DL
open PySem PySem.Spec L2

section
variable {X : Cx} {E : XK} {e a b : Expr} {es : List Expr} {pos p p2 apos : Pos}
variable {F : Hp} {rs : List Addr} {S : DS} {σ : L2.St} {H G : Hp}
/-! ### a list or a tuple at hand -/
theorem Md.seq {K : PySem.W.Frag} {wl : Wd} (m : Md K wl F rs S σ H G) {x : VD} {v : V} {d : PyData} {ds : List PyData} (r : RdV K wl rs G x v) (hp : peekS S x = some d) (hs : asSeq d = some ds) :
    ∃ a vs, v = .ref a ∧ DdAll K G vs ds ∧ ((d = .list ds ∧ Rd H a (.lst vs)) ∨ (d = .tuple ds ∧ TN.SqN H a vs ∧ Dd K G v (.tuple ds))) := by
  cases d with
  | list es =>
    cases hs
    obtain ⟨a, vs, e, h1, h2⟩ := m.peekL r hp
    exact ⟨a, vs, e, h2, .inl ⟨rfl, h1⟩⟩
  | tuple es =>
    cases hs
    obtain ⟨a, vs, e, h1, h2, h3⟩ := m.peekT r hp
    exact ⟨a, vs, e, h2, .inr ⟨rfl, h1, h3⟩⟩
  | _ => cases hs

/-! ### x[i] -/
def idxD (c i : PyData) : Option PyData := match asSeq c, i with
  | some ds, .int i => atI ds i
  | _, _ => none
def eIdx (ta tb : M VD) : M VD := do let x ← ta; let y ← tb; let c ← peek x; let i ← peek y; let r ← ofO (idxD c i); pure (.dat r)
theorem atI_dd {K : PySem.W.Frag} {vs : List V} {ds : List PyData} (h : DdAll K G vs ds) {i : Int} {d : PyData} (e : atI ds i = some d) : ∃ v, atI vs i = some v ∧ Dd K G v d := by
  unfold atI at e ⊢
  rw [DdAll.length h]
  cases e1 : ixN ds.length i with
  | none => rw [e1] at e; cases e
  | some j =>
    rw [e1] at e
    exact DdAll.get' h e
theorem d_idx {ta tb : M VD} (ha : PD X E a ta) (hb : PD X E b tb) (hs : PlainIx b := by exact fun _ _ => rfl) : PD X E (.Subscript a b pos) (eIdx ta tb) :=
  PE.weak (pe_ix (r := fun x y H Q => rIxL X.K x y H Q ∨ rIxT X.K x y H Q) (ix_list.or ix_tup) ha hb hs) fun σ H Q q => by
  obtain ⟨F, rs, S, G, m, p⟩ := q
  refine ⟨F, rs, S, G, m, (Post.seq p).mono fun v H1 ⟨rs1, S1, G1, x, u1, m1, r1, p1⟩ => ?_⟩
  refine ⟨F, rs1, S1, G1, m1, (Post.seq p1).mono fun w H2 ⟨rs2, S2, G2, y, u2, m2, r2, p2⟩ => ?_⟩
  obtain ⟨d, hd, p3⟩ := Post.peek p2
  obtain ⟨i, hi, p4⟩ := Post.peek p3
  obtain ⟨r, hr, p5⟩ := Post.ofO p4
  unfold idxD at hr
  cases hq : asSeq d with
  | none => rw [hq] at hr; cases hr
  | some ds =>
    rw [hq] at hr
    cases i with
    | int i =>
      dsimp only at hr
      obtain ⟨a, vs, rfl, hda, hk⟩ := m2.seq (RdV.up u2 r1) hd hq
      obtain ⟨z, hz, rz⟩ := atI_dd hda hr
      have ey : w = .int i := by
        have := m2.peek r2 hi
        cases this
        rfl
      rcases hk with ⟨_, hk⟩ | ⟨_, hk, _⟩
      · exact .inl ⟨a, vs, i, z, rfl, ey, .inl hk, hz, Post.ret m2 p5 rz⟩
      · exact .inr ⟨a, vs, i, z, rfl, ey, hk.sqt, hz, Post.ret m2 p5 rz⟩
    | _ => cases hr

/-! ### slices -/
abbrev liftO (K : PySem.W.Frag) (wl : Wd) (mg : Str → Option Value) (E : XK) (t : M (Option Int)) : TO := lift K wl mg E (fun _ _ (a b : Option Int) => a = b) t
abbrev PDO (X : Cx) (E : XK) (o : Option Expr) (t : M (Option Int)) : Prop := PO X o (liftO X.K X.wd X.mg E t)
theorem PO.weak {o : Option Expr} {t t' : TO} (h : PO X o t) (k : ∀ σ H Q, t' σ H Q → t σ H Q) : PO X o t' := ⟨fun pins s σ H Q I q => h.run pins s σ H Q I (k _ _ _ q)⟩
def oNone : M (Option Int) := pure none
def oSome (t : M VD) : M (Option Int) := do
  let x ← t
  match x with
  | .dat (.int i) => pure (some i)
  | _ => M.bad
theorem p_none : PDO X E none oNone := PO.weak po_none fun σ H Q q => by
  obtain ⟨F, rs, S, G, m, p⟩ := q
  exact Post.ret m p rfl
theorem p_some {t : M VD} (h : PD X E e t) : PDO X E (some e) (oSome t) := PO.weak (po_some h) fun σ H Q q => by
  obtain ⟨F, rs, S, G, m, p⟩ := q
  refine ⟨F, rs, S, G, m, (Post.seq p).mono fun v H1 ⟨rs1, S1, G1, x, u1, m1, r1, p1⟩ => ?_⟩
  cases x with
  | rf j => exact p1.elim
  | bag _ => exact p1.elim
  | st _ => exact p1.elim
  | ex _ => exact p1.elim
  | exs _ => exact p1.elim
  | oth _ => exact p1.elim
  | dat d =>
    cases d with
    | int i =>
      cases (show Dd X.K G1 v (.int i) from r1)
      exact ⟨i, rfl, Post.ret m1 p1 rfl⟩
    | _ => exact p1.elim
def cutD (xs : List PyData) (lo hi : Option Int) : List PyData := (xs.drop (HT.sIx xs.length 0 lo)).take (HT.sIx xs.length xs.length hi - HT.sIx xs.length 0 lo)
theorem cut_dd {K : PySem.W.Frag} {vs : List V} {ds : List PyData} (h : DdAll K G vs ds) (lo hi : Option Int) : DdAll K G (cutV vs lo hi) (cutD ds lo hi) := by
  unfold cutV cutD
  rw [DdAll.length h]
  exact DdAll.take _ (DdAll.drop _ h)
def mkSeq (c : PyData) (ds : List PyData) : M VD := match c with
  | .list _ => newL ds
  | .tuple _ => pure (.dat (.tuple ds))
  | _ => M.bad
def slV (x : VD) (lo hi : Option Int) : M VD := match x with
  | .bag ds => newL (cutD ds lo hi)
  | x => do let c ← peek x; let ds ← ofO (asSeq c); mkSeq c (cutD ds lo hi)
def eSl (ta : M VD) (tl th : M (Option Int)) : M VD := do let x ← ta; let lo ← tl; let hi ← th; slV x lo hi
theorem cut_whole {K : PySem.W.Frag} {vs : List V} {ds : List PyData} (h : DdAll K G vs ds) {lo hi : Option Int} (hw : HT.sIx vs.length 0 lo = 0 ∧ HT.sIx vs.length vs.length hi = vs.length) : cutD ds lo hi = ds := by
  unfold cutD
  rw [← DdAll.length h, hw.1, hw.2]
  simp [DdAll.length h]
theorem d_sl {ta : M VD} {tl th : M (Option Int)} {lo hi : Option Expr} (ha : PD X E a ta) (hl : PDO X E lo tl) (hh : PDO X E hi th) : PD X E (.Subscript a (.Slice lo hi none p2) pos) (eSl ta tl th) :=
  PE.weak (pe_slice (SlR.or sl_list TN.sl_tupN) ha hl hh) fun σ H Q q => by
  obtain ⟨F, rs, S, G, m, p⟩ := q
  refine ⟨F, rs, S, G, m, (Post.seq p).mono fun v H1 ⟨rs1, S1, G1, x, u1, m1, r1, p1⟩ => ?_⟩
  refine ⟨F, rs1, S1, G1, m1, (Post.seq p1).mono fun l H2 ⟨rs2, S2, G2, l', u2, m2, e2, p2⟩ => ?_⟩
  subst e2
  refine ⟨F, rs2, S2, G2, m2, (Post.seq p2).mono fun h H3 ⟨rs3, S3, G3, h', u3, m3, e3, p3⟩ => ?_⟩
  subst e3
  have r3 := RdV.up (u2.trans u3) r1
  unfold slV at p3
  cases x with
  | bag ds =>
    obtain ⟨a, vs, rfl, h1, h2⟩ := r3
    exact .inl ⟨a, vs, rfl, L2.Same.seq m3.sub h1, fun q hq => newLst m3 (cut_dd h2 _ _) p3 hq⟩
  | _ =>
  all_goals dsimp only at p3
  all_goals obtain ⟨d, hd, p4⟩ := Post.peek p3
  all_goals obtain ⟨ds, hs, p5⟩ := Post.ofO p4
  all_goals obtain ⟨a, vs, rfl, hda, hk⟩ := m3.seq r3 hd hs
  all_goals rcases hk with ⟨rfl, hk⟩ | ⟨rfl, hk, hw⟩
  all_goals first
    | exact .inl ⟨a, vs, rfl, .inl hk, fun q hq => newLst m3 (cut_dd hda _ _) p5 hq⟩
    | exact .inr ⟨a, vs, rfl, hk, fun hwh => Post.ret m3 p5 (show Dd X.K G3 (.ref a) (.tuple (cutD ds l' h')) from (cut_whole hda hwh).symm ▸ hw), fun _ q its hq => newTup m3 (cut_dd hda _ _) p5 hq⟩
/-- x[::-1] -/
theorem places_rev (n : Nat) : Builtin.Slice.slicePlaces ((n : Int) - 1) (-1) (-1) = n := by
  unfold Builtin.Slice.slicePlaces; simp only [show ¬ ((-1 : Int) > 0) by omega, if_false, show - (-1 : Int) = 1 by omega, Int.ediv_one]
  split <;> omega
theorem pick_rev (xs : Array Value) : ((List.range xs.size).filterMap fun (m : Nat) => xs[(((xs.size : Int) - 1) + (m : Int) * (-1)).toNat]?).toArray = xs.toList.reverse.toArray := by
  congr 1
  apply List.ext_getElem?
  intro k
  have e : ∀ (l : List Nat), (∀ m ∈ l, m < xs.size) → (l.filterMap fun (m : Nat) => xs[(((xs.size : Int) - 1) + (m : Int) * (-1)).toNat]?) = l.map fun m => xs.toList.reverse.getD m .none := by
    intro l
    induction l with
    | nil => intro _; rfl
    | cons m l ih =>
      intro hl
      have hm : m < xs.size := hl m (by simp)
      have e1 : (((xs.size : Int) - 1) + (m : Int) * (-1)).toNat = xs.size - 1 - m := by omega
      have e2 : xs[xs.size - 1 - m]? = some (xs.toList.reverse.getD m .none) := by
        rw [List.getD_eq_getElem?_getD, List.getElem?_reverse (by simpa using hm), Array.getElem?_eq_getElem (by omega)]
        simp only [Array.length_toList, Array.getElem?_toList]
        rw [Array.getElem?_eq_getElem (by omega)]
        rfl
      rw [List.filterMap_cons]
      simp only [e1, e2, List.map_cons]
      rw [← ih (fun m hm => hl m (List.mem_cons_of_mem _ hm))]
  rw [e _ (fun m hm => List.mem_range.mp hm)]
  rw [List.getElem?_map]
  by_cases hk : k < xs.size
  · rw [List.getElem?_range hk]
    simp only [Option.map_some, List.getD_eq_getElem?_getD]
    rw [List.getElem?_eq_getElem (by simpa using hk)]
    simp
  · rw [List.getElem?_eq_none (by simpa using hk), List.getElem?_eq_none (by simpa using hk)]
    rfl
open PyProof.Rows HT in
theorem getItem_tuple_rev {prog : Program} {w : World} {A : Around} {E : Value → Shared → Prop} {s : Shared} {t sl : Addr} {items : Array Value} {vl vu vs : Value} {Q : Value → Shared → Prop} (ht : IsTup s.heap t items) (hs : s.heap.IsSliceOf sl vl vu vs) (pl : IsPart vl none) (pu : IsPart vu none) (ps : IsPart vs (some (-1)))
    (h : Q (.ref s.heap.objs.size) { s with heap := s.heap.push { cls := .type "tuple", data := .seq items.toList.reverse.toArray } }) (hsz : items.size ≤ sizeLine) : wpAny (model prog w) A (getItem (.ref t) (.ref sl)) Q E s := by
  have htake : sizeOk (.seq items.toList.reverse.toArray) := by
    show items.toList.reverse.toArray.size ≤ sizeLine
    rw [List.size_toArray, List.length_reverse, Array.length_toList]
    exact hsz
  obtain ⟨os, hos, hcs, hds⟩ := id hs; have hTs : s.TypeIs (.ref sl) "slice" := ⟨os, hos, hcs⟩
  unfold getItem
  (try with_reducible refine wpAny_holding ?_); (first | refine wpAny_bind (wpAny_pure ?_) | skip)
  refine wpAny_bind (wpAny_sequenceKey ht.typeIs (by decide) ?_); refine wpAny_bind (wpAny_callSpecial?_slot (name := Str.ofString "__getitem__") ht.typeIs PyProof.Rows.slot_tuple_getitem
    (wpAny_call_entry PyProof.Rows.slot_tuple_getitem ht.typeIs PyProof.Rows.entry_tuple_getitem ?_ (PyProof.Rows.args_tuple_getitem _ _)))
  show wpAny _ _ (Builtin.Tuple.tupleItemsOf (.ref t) >>= _) _ _ s; refine wpAny_bind (PyProof.Rows.tupleItemsOf_ ht ?_); refine wpAny_bind (wpAny_typeOf hTs ?_)
  rw [if_pos (by decide)]
  have hsl : ∀ {Q : Int × Int × Nat → Shared → Prop}, Q (((items.size : Int) - 1), -1, items.size) s → wpAny (model prog w) A.in1 (Builtin.Slice.sliceApplied (.ref sl) (pure (items.size : Int))) Q E s := fun {Q} h => by
    unfold Builtin.Slice.sliceApplied Builtin.Slice.sliceFields; refine wpAny_bind (wpAny_bind (wpAny_field hos hds (x := vl) rfl (wpAny_bind (wpAny_field hos hds (x := vu) rfl (wpAny_bind (wpAny_field hos hds (x := vs) rfl (wpAny_pure ?_)))))))
    refine wpAny_bind (slicePart_ ps ?_)
    show wpAny _ _ (if ((-1 : Int) == 0) = true then _ else _) _ _ s
    rw [if_neg (by decide)]; refine wpAny_bind (slicePart_ pl (wpAny_bind (slicePart_ pu (wpAny_bind (wpAny_pure ?_)))))
    show wpAny _ _ (pure (((items.size : Int) - 1), (-1 : Int), Builtin.Slice.slicePlaces ((items.size : Int) - 1) (-1) (-1))) _ _ s
    rw [places_rev]
    exact wpAny_pure h
  refine wpAny_bind (hsl ?_)
  show wpAny _ _ (if (((items.size : Int) - 1) == 0 && (-1 : Int) == 1 && items.size == items.size) = true then _ else _) _ _ s
  rw [if_neg (by simp), pick_rev]
  first | exact wpAny_bind (m := Builtin.Tuple.tupleExact _) (wpAny_newObj_type (wpAny_pure ⟨_, rfl, wpAny_pure h⟩) htake) | exact wpAny_bind (m := Builtin.Tuple.tupleExact _) (wpAny_newObj_type (wpAny_bind (wpAny_pure (wpAny_pure ⟨_, rfl, wpAny_pure h⟩))) htake) | exact wpAny_bind (wpAny_bind (m := Builtin.Tuple.tupleExact _) (wpAny_newObj_type (wpAny_pure (wpAny_pure ⟨_, rfl, wpAny_pure h⟩)) htake)) | exact wpAny_bind (wpAny_bind (m := Builtin.Tuple.tupleExact _) (wpAny_newObj_type (wpAny_pure ⟨_, rfl, wpAny_pure h⟩) htake))
end
end DL
/-! DL9: more of sequences; built-ins; methods. -/
namespace DL
open PySem PySem.Spec L2

section
variable {X : Cx} {E : XK} {e a b : Expr} {es : List Expr} {pos p p1 p2 p3 apos : Pos}
variable {F : Hp} {rs : List Addr} {S : DS} {σ : L2.St} {H G : Hp}
/-! ### x[::-1] -/
def tRevA (K : PySem.W.Frag) (te : TE) : TE := fun σ H Q => te σ H fun x H1 => ∃ a xs, x = .ref a ∧ ((SqL K H1 a xs ∧ ∀ p, H1 p = none → Q (.ref p) (upd H1 p (.lst xs.reverse))) ∨ (TN.SqN H1 a xs ∧ ∀ p its, H1 p = none → Q (.ref p) (upd H1 p (TN.hT its xs.reverse))))
open PyProof.Rows in
theorem pe_revA {te : TE} {k : Nat} (he : PE X e te) : PE X (.Subscript e (.Slice none none (some (.UnaryOp .USub (.Constant (.int 1) k p1) p2)) p3) pos) (tRevA X.K te) := by
  refine ⟨fun pins s σ H Q I h => ?_⟩; refine Subscript_ (thn (he.run pins s σ H _ I h) fun v s1 ⟨x, H1, I1, r1, q1⟩ => ?_)
  obtain ⟨a, xs, ex, hq⟩ := q1
  subst ex
  cases r1
  have hst : PO X (some (.UnaryOp .USub (.Constant (.int 1) k p1) p2)) (tPart (tUn (rU fun i => .int (-i)) (tC (.int 1)))) := po_some (pe_un un_neg pe_int); refine wpAny_Slice (thn (po_none.run pins s1 σ H1 (fun o H2 => o = none ∧ H2 = H1) I1 ⟨rfl, rfl⟩) fun vl s2 ⟨l, H2, I2, pl, el, e2⟩ => ?_)
  subst el e2; refine thn (po_none.run pins s2 σ H2 (fun o H3 => o = none ∧ H3 = H2) I2 ⟨rfl, rfl⟩) fun vu s3 ⟨u, H3, I3, pu, eu, e3⟩ => ?_
  subst eu e3; refine thn (hst.run pins s3 σ H3 (fun o H4 => o = some (-1) ∧ H4 = H3) I3 ⟨1, rfl, -1, rfl, rfl, rfl⟩) fun vs s4 ⟨o, H4, I4, ps, eo, e4⟩ => ?_
  subst eo e4; have I5 : Inv X pins σ H4 { s4 with heap := s4.heap.push { cls := .type "slice", data := .fields #[vl, vu, vs] } } := I4.kept (t' := s4.toks) fun b ob q => Heap.get?_push_of_some _ q; show wpAny (model X.prog X.w) X.A (subscriptTail e (.Slice none none (some (.UnaryOp .USub (.Constant (.int 1) k p1) p2)) p3) (.ref a) (.ref s4.heap.objs.size)) (EP X pins σ Q) X.xe { s4 with heap := s4.heap.push { cls := .type "slice", data := .fields #[vl, vu, vs] } }
  rcases hq with ⟨hx, q⟩ | ⟨hx, q⟩
  · obtain ⟨its, r, ht, hz⟩ := I5.list hx
    have hlen := r.length; refine tail_any (ops := [.ref a, .ref s4.heap.objs.size]) ht.isList.typeIs (PySem.slot_list_getitem.lookup) ?_ (by with_unfolding_all rfl); refine wpAny_getItem_list_slice ht.isList (Heap.IsSliceOf.new _ vl vu vs) pl pu ps (by decide) ?_ (by rw [List.size_toArray]; omega)
    rw [PySem.W.krv_pick]; refine ⟨.ref _, _, I5.laid (t' := s4.toks) (o := .lst xs.reverse) (fun b ob q => Heap.get?_push_of_some _ q) (Nat.le_refl _) ?_, rfl, q _ (I5.hok.fresh (Nat.le_refl _))⟩; exact ⟨by rw [List.length_reverse]; exact hz, _, 0, r.reverse, Heap.get?_push_size _ rfl⟩
  · obtain ⟨its, r, ht, hz⟩ := I5.tuple (hx.sqt (K := X.K))
    have hlen := r.length
    refine tail_any (ops := [.ref a, .ref s4.heap.objs.size]) ht.typeIs PyProof.Rows.slot_tuple_getitem.lookup ?_ (by with_unfolding_all rfl)
    refine getItem_tuple_rev ht (Heap.IsSliceOf.new _ vl vu vs) pl pu ps ?_ (by rw [List.size_toArray]; omega)
    exact ⟨.ref _, _, TN.newN I5 r.reverse (by rw [List.length_reverse]; exact hz), rfl, q _ _ (I5.hok.fresh (Nat.le_refl _))⟩
def eRev (ta : M VD) : M VD := do let x ← ta; let c ← peek x; let ds ← ofO (asSeq c); mkSeq c ds.reverse
theorem d_rev {ta : M VD} {k : Nat} (ha : PD X E e ta) : PD X E (.Subscript e (.Slice none none (some (.UnaryOp .USub (.Constant (.int 1) k p1) p2)) p3) pos) (eRev ta) := PE.weak (pe_revA ha) fun σ H Q q => by
  obtain ⟨F, rs, S, G, m, p⟩ := q
  refine ⟨F, rs, S, G, m, (Post.seq p).mono fun v H1 ⟨rs1, S1, G1, x, u1, m1, r1, p1⟩ => ?_⟩
  obtain ⟨d, hd, p4⟩ := Post.peek p1
  obtain ⟨ds, hs, p5⟩ := Post.ofO p4
  obtain ⟨a, vs, rfl, hda, hk⟩ := m1.seq r1 hd hs
  rcases hk with ⟨rfl, hk⟩ | ⟨rfl, hk, hw⟩
  · exact ⟨a, vs, rfl, .inl ⟨.inl hk, fun q hq => newLst m1 (DdAll.reverse hda) p5 hq⟩⟩
  · exact ⟨a, vs, rfl, .inr ⟨hk, fun q its hq => newTup m1 (DdAll.reverse hda) p5 hq⟩⟩

/-! ### x + y, whatever they are -/
def rCatL : R2 := fun x y H Q => ∃ l b xs zs, x = .ref l ∧ y = .ref b ∧ Rd H l (.lst xs) ∧ Rd H b (.lst zs) ∧ xs.length + zs.length ≤ sizeLine ∧ ∀ p, H p = none → Q (.ref p) (upd H p (.lst (xs ++ zs)))
theorem op_catL : OpR X (binaryOp .Add) rCatL := by
  intro pins s σ H x y v u Q I rx ry h; obtain ⟨l, b, xs, zs, rfl, rfl, hH, hB, hz, q⟩ := h
  cases rx
  cases ry
  obtain ⟨_, its, n, r, e⟩ := hH.ok I.hok
  obtain ⟨_, its2, n2, r2, e2⟩ := hB.ok I.hok
  have e1 := r.length
  have e3 := r2.length; refine PySem.P.add_list e e2 ?_ (by rw [List.size_toArray, List.size_toArray]; omega); have ea : its.toArray ++ its2.toArray = (its ++ its2).toArray := by simp
  rw [ea]; exact ⟨.ref _, _, I.lnew (t' := s.toks) (r.append r2) (by rw [List.length_append]; omega), rfl, q _ I.fresh⟩
def addD (d e : PyData) : M VD := match d, e with
  | .int i, .int j => pure (.dat (.int (i + j)))
  | .list xs, .list ys => do chk (decide (xs.length + ys.length ≤ 16777216)); newL (xs ++ ys)
  | .tuple xs, .tuple ys => do chk (decide (xs.length + ys.length ≤ 16777216)); pure (.dat (.tuple (xs ++ ys)))
  | _, _ => M.bad
def eAdd (ta tb : M VD) : M VD := do let x ← ta; let y ← tb; let d ← peek x; let e ← peek y; addD d e
theorem d_add {ta tb : M VD} (ha : PD X E a ta) (hb : PD X E b tb) : PD X E (.BinOp a .Add b pos) (eAdd ta tb) :=
  PE.weak (pe_op (OpR.or op_add (OpR.or op_catL TN.op_catN)) ha hb) fun σ H Q q => by
  obtain ⟨F, rs, S, G, m, p⟩ := q
  refine ⟨F, rs, S, G, m, (Post.seq p).mono fun v H1 ⟨rs1, S1, G1, x, u1, m1, r1, p1⟩ => ?_⟩
  refine ⟨F, rs1, S1, G1, m1, (Post.seq p1).mono fun w H2 ⟨rs2, S2, G2, y, u2, m2, r2, p2⟩ => ?_⟩
  obtain ⟨d, hd, p3⟩ := Post.peek p2
  obtain ⟨e, he, p4⟩ := Post.peek p3
  have hx := m2.peek (RdV.up u2 r1) hd
  have hy := m2.peek r2 he
  unfold addD at p4
  split at p4
  · cases hx
    cases hy
    exact .inl ⟨_, _, rfl, rfl, Post.ret m2 p4 (.int _)⟩
  · rename_i xs ys
    obtain ⟨hc, p5⟩ := Post.chk p4
    have hc' := of_decide_eq_true hc
    obtain ⟨l, vs, rfl, h1, h2⟩ := m2.peekL (RdV.up u2 r1) hd
    obtain ⟨l', vs', rfl, h3, h4⟩ := m2.peekL r2 he
    refine .inr (.inl ⟨l, l', vs, vs', rfl, rfl, h1, h3, ?_, fun q hq => newLst m2 (DdAll.append h2 h4) p5 hq⟩)
    rw [DdAll.length h2, DdAll.length h4, sizeLine_eq]
    exact hc'
  · rename_i xs ys
    obtain ⟨hc, p5⟩ := Post.chk p4
    have hc' := of_decide_eq_true hc
    obtain ⟨l, vs, rfl, h1, h2, w1⟩ := m2.peekT (RdV.up u2 r1) hd
    obtain ⟨l', vs', rfl, h3, h4, w2⟩ := m2.peekT r2 he
    refine .inr (.inr ⟨l, l', vs, vs', rfl, rfl, h1, h3, ?_, fun e0 => ?_, fun _ e0 => ?_, fun _ _ q its hq => newTup m2 (DdAll.append h2 h4) p5 hq⟩)
    · rw [DdAll.length h2, DdAll.length h4, sizeLine_eq]
      exact hc'
    · subst e0
      cases h2
      exact Post.ret m2 p5 w2
    · subst e0
      cases h4
      refine Post.ret m2 p5 ?_
      show Dd X.K G2 (.ref l) (.tuple (xs ++ []))
      rw [List.append_nil]
      exact w1
  · exact p4.elim

/-! ### -x -/
def eNeg (ta : M VD) : M VD := do
  let x ← ta
  match x with
  | .dat (.int i) => pure (.dat (.int (-i)))
  | _ => M.bad
theorem d_neg {ta : M VD} (ha : PD X E a ta) : PD X E (.UnaryOp .USub a pos) (eNeg ta) := PE.weak (pe_un un_neg ha) fun σ H Q q => by
  obtain ⟨F, rs, S, G, m, p⟩ := q
  refine ⟨F, rs, S, G, m, (Post.seq p).mono fun v H1 ⟨rs1, S1, G1, x, u1, m1, r1, p1⟩ => ?_⟩
  cases x with
  | rf j => exact p1.elim
  | bag _ => exact p1.elim
  | st _ => exact p1.elim
  | ex _ => exact p1.elim
  | exs _ => exact p1.elim
  | oth _ => exact p1.elim
  | dat d =>
    cases d with
    | int i =>
      cases (show Dd X.K G1 v (.int i) from r1)
      exact ⟨i, rfl, Post.ret m1 p1 (.int _)⟩
    | _ => exact p1.elim

/-! ### built-ins of one value -/
/-- a built-in of one value whose answer is a scalar by the data -/
def eFn (f : PyData → Option PyData) (ta : M VD) : M VD := do let x ← ta; let d ← peek x; let r ← ofO (f d); scal r
def rFn (K : PySem.W.Frag) (f : PyData → Option PyData) : List V → Hp → VK → Prop := fun xs H Q => ∃ x d r w, xs = [x] ∧ Dd K H x d ∧ f d = some r ∧ scalV r = some w ∧ Q w H
theorem fnD {f : PyData → Option PyData} {ta : M VD} {σ : L2.St} {H : Hp} {Q : VK} (q : liftE X.K X.wd X.mg E (eFn f ta) σ H Q) : tCB (rFn X.K f) (tCons (liftE X.K X.wd X.mg E ta) tNil) σ H Q := by
  obtain ⟨F, rs, S, G, m, p⟩ := q
  refine ⟨F, rs, S, G, m, (Post.seq p).mono fun v H1 ⟨rs1, S1, G1, x, u1, m1, r1, p1⟩ => ?_⟩
  obtain ⟨d, hd, p2⟩ := Post.peek p1
  obtain ⟨r, hr, p3⟩ := Post.ofO p2
  obtain ⟨w, hw, p4⟩ := Post.scal m1 p3
  exact ⟨v, d, r, w, rfl, m1.peek r1 hd, hr, hw, p4⟩
theorem d_fnB {x : Str} {id : String} {f : PyData → Option PyData} {ta : M VD} (hc : CallR X (.builtin id) (rFn X.K f)) (ha : PD X E a ta) (hg : Gl X x) (hm : X.mg x = none) (hv : bootBuiltins x = some (.builtin id)) (hn : x ≠ "__name__") (hd : (x == ("__debug__" : Str)) = false) (na : starEach [a] X.env = (false, eval a X.env) :: starEach [] X.env := by rfl) :
    PD X E (.Call (.Name x p) [a] [] pos) (eFn f ta) := PE.weak (pe_callB hc hg hm hv (pa_cons ha pa_nil na) (hn := hn) (hdb := hd) (he := na)) fun σ H Q q => fnD q
end
end DL
/-! DL10: built-ins. -/
namespace DL
open PySem PySem.Spec L2

section
variable {X : Cx} {E : XK} {e a b : Expr} {es : List Expr} {pos p p1 p2 p3 apos : Pos} {x : Str}
variable {F : Hp} {rs : List Addr} {S : DS} {σ : L2.St} {H G : Hp}
theorem CallR.weak {f : Value} {r r' : List V → Hp → VK → Prop} (h : CallR X f r) (k : ∀ xs H Q, r' xs H Q → r xs H Q) : CallR X f r' := fun pins s σ H xs us Q I rv q => h pins s σ H xs us Q I rv (k _ _ _ q)
/-! ### len -/
def lenD (d : PyData) : Option PyData := match d with
  | .str z => if z.length ≤ 16777216 then some (.int z.length) else none
  | d => (asSeq d).map fun ds => .int ds.length
theorem c_len : CallR X (.builtin "len") (rFn X.K lenD) := CallR.weak (CallR.or call_len_seq call_len_str) fun xs H Q h => by
  obtain ⟨v, d, r, w, rfl, hd, hr, hw, q⟩ := h
  cases d with
  | list ds =>
    cases hr; cases hw
    cases hd with
    | @lst a vs _ h1 h2 => exact .inl ⟨a, vs, rfl, .inl (.inl h1), by rw [DdAll.length h2]; exact q⟩
  | tuple ds =>
    cases hr; cases hw
    cases hd with
    | @tup a vs _ h1 h2 => exact .inl ⟨a, vs, rfl, .inr h1.sqt, by rw [DdAll.length h2]; exact q⟩
  | str z =>
    unfold lenD at hr
    dsimp only at hr
    split at hr
    · rename_i hz
      cases hr; cases hw
      cases hd
      exact .inr ⟨z, rfl, by rw [sizeLine_eq]; exact hz, q⟩
    · cases hr
  | _ => cases hr
theorem d_len {ta : M VD} (ha : PD X E a ta) (hg : Gl X "len" := by rfl) (hm : X.mg "len" = none) (na : starEach [a] X.env = (false, eval a X.env) :: starEach [] X.env := by rfl) : PD X E (.Call (.Name "len" p) [a] [] pos) (eFn lenD ta) :=
  d_fnB c_len ha hg hm PySem.boot_len (by decide) (by decide) na

/-! ### isinstance, type(x) is -/
def isT : String → PyData → Option Bool
  | "int", d => some d.isInt
  | "bool", d => some d.isBool
  | "tuple", d => some d.isTuple
  | "list", d => some d.isList
  | "str", d => some d.isStr
  | _, _ => none
def rIsT (K : PySem.W.Frag) (T : String) : List V → Hp → VK → Prop := fun xs H Q => ∃ x d b, xs = [x, .ty T] ∧ Dd K H x d ∧ isT T d = some b ∧ Q (.bl b) H
theorem c_isi (T : String) : CallR X (.builtin "isinstance") (rIsT X.K T) := by
  intro pins s σ H xs us Q I r h; obtain ⟨x, d, b, rfl, hd, hb, q⟩ := h; obtain ⟨u, w', rfl, ru, rw'⟩ := vals2 r
  cases (show w' = Value.type T from rw')
  obtain ⟨as, rd⟩ := Dd.reads I d x u hd ru
  unfold isT at hb
  split at hb
  · cases hb; exact W.isinstance_int_data rd fun tk _ => ⟨.bl _, H, I.tok tk, rfl, q⟩
  · cases hb; exact W.isinstance_bool_data rd fun tk _ => ⟨.bl _, H, I.tok tk, rfl, q⟩
  · cases hb; exact W.isinstance_tuple_data rd fun tk _ => ⟨.bl _, H, I.tok tk, rfl, q⟩
  · cases hb; exact W.isinstance_list_data rd fun tk _ => ⟨.bl _, H, I.tok tk, rfl, q⟩
  · cases hb; exact W.isinstance_str_data rd fun tk _ => ⟨.bl _, H, I.tok tk, rfl, q⟩
  · cases hb
def eIsi (T : String) (ta : M VD) : M VD := do let x ← ta; let d ← peek x; let b ← ofO (isT T d); pure (.dat (.bool b))
theorem d_isi {T : String} {t : Expr} {ta : M VD} (ha : PD X E a ta) (ht : PE X t (tC (.ty T))) (hm : X.mg "isinstance" = none) (hg : Gl X "isinstance" := by rfl)
    (hs : starEach [a, t] X.env = (false, eval a X.env) :: starEach [t] X.env := by rfl) (hs2 : starEach [t] X.env = (false, eval t X.env) :: starEach [] X.env := by rfl) (hpl : (backTo pos (starEach [t] X.env)).any (·.1) = false := by rfl) :
    PD X E (.Call (.Name "isinstance" p) [a, t] [] pos) (eIsi T ta) := PE.weak (pe_callB (c_isi T) hg hm (by decide +kernel) (pa_cons ha (pa_cons ht pa_nil hs2) hs) (he := hs) (hpl := hpl)) fun σ H Q q => by
  obtain ⟨F, rs, S, G, m, p⟩ := q
  refine ⟨F, rs, S, G, m, (Post.seq p).mono fun v H1 ⟨rs1, S1, G1, x, u1, m1, r1, p1⟩ => ?_⟩
  obtain ⟨d, hd, p2⟩ := Post.peek p1
  obtain ⟨b, hb, p3⟩ := Post.ofO p2
  exact ⟨v, d, b, rfl, m1.peek r1 hd, hb, Post.ret m1 p3 (.bl b)⟩
def tyName : PyData → String
  | .none => "NoneType"
  | .bool _ => "bool"
  | .int _ => "int"
  | .str _ => "str"
  | .list _ => "list"
  | .tuple _ => "tuple"
  | .dict _ => "dict"
def kTy (K : PySem.W.Frag) (x : V) (H : Hp) (Q : VK) : Prop := ∃ d, Dd K H x d ∧ Q (.ty (tyName d)) H
theorem reads_type {s : Shared} {v : Value} {d : PyData} {as : List Addr} (r : Reads s.heap v d as) : s.TypeIs v (tyName d) := by
  cases r with
  | none => rfl
  | bool => rfl
  | int => rfl
  | str => rfl
  | list h1 h2 h3 h4 => exact ⟨_, h1, h2⟩
  | tuple h1 h2 h3 h4 => exact ⟨_, h1, h2⟩
  | dict h1 h2 h3 h4 h5 => exact ⟨_, h1, h2⟩
theorem c_type : CallR X (.type "type") (fun xs H Q => ∃ x d, xs = [x] ∧ Dd X.K H x d ∧ Q (.ty (tyName d)) H) := by
  intro pins s σ H xs us Q I r h; obtain ⟨x, d, rfl, hd, q⟩ := h; obtain ⟨u, rfl, ru⟩ := vals1 r
  obtain ⟨as, rd⟩ := Dd.reads I d x u hd ru
  have ht := reads_type rd
  have fin : EP X pins σ Q (.type (tyName d)) s := ⟨.ty _, H, I, rfl, q⟩
  cases d with
  | none => exact call_type_of (Tx := "NoneType") ht (by decide +kernel) fin
  | bool _ => exact call_type_of (Tx := "bool") ht (by decide +kernel) fin
  | int _ => exact call_type_of (Tx := "int") ht (by decide +kernel) fin
  | str _ => exact call_type_of (Tx := "str") ht (by decide +kernel) fin
  | list _ => exact call_type_of (Tx := "list") ht (by decide +kernel) fin
  | tuple _ => exact call_type_of (Tx := "tuple") ht (by decide +kernel) fin
  | dict _ => exact call_type_of (Tx := "dict") ht (by decide +kernel) fin
def eTyIs (T : String) (ta : M VD) : M VD := do let x ← ta; let d ← peek x; pure (.dat (.bool (decide (tyName d = T))))
theorem d_tyIs {T : String} {t : Expr} {ta : M VD} (ha : PD X E a ta) (ht : PE X t (tC (.ty T))) (hm : X.mg "type" = none) (hg : Gl X "type" := by rfl) (na : starEach [a] X.env = (false, eval a X.env) :: starEach [] X.env := by rfl) (hpl : (backTo p1 (starEach [] X.env)).any (·.1) = false := by rfl) (hb : behindInMarks .Is t = false := by rfl) :
    PD X E (.Compare (.Call (.Name "type" p) [a] [] p1) [.Is] [t] pos) (eTyIs T ta) := PE.weak (pe_cmpR op_isTy (pe_callTy c_type hg hm (by decide +kernel) (pa_cons ha pa_nil na) (he := na) (hpl := hpl)) ht hb) fun σ H Q q => by
  obtain ⟨F, rs, S, G, m, p⟩ := q
  refine ⟨F, rs, S, G, m, (Post.seq p).mono fun v H1 ⟨rs1, S1, G1, x, u1, m1, r1, p1⟩ => ?_⟩
  obtain ⟨d, hd, p2⟩ := Post.peek p1
  exact ⟨v, d, rfl, m1.peek r1 hd, _, _, rfl, rfl, Post.ret m1 p2 (.bl _)⟩
theorem dt_tyIs {T : String} {t : Expr} {ta : M VD} (ha : PD X E a ta) (ht : PE X t (tC (.ty T))) (hm : X.mg "type" = none) (hg : Gl X "type" := by rfl) (na : starEach [a] X.env = (false, eval a X.env) :: starEach [] X.env := by rfl) (hpl : (backTo p1 (starEach [] X.env)).any (·.1) = false := by rfl) (hb : behindInMarks .Is t = false := by rfl) :
    PDT X E (.Compare (.Call (.Name "type" p) [a] [] p1) [.Is] [t] pos) (tOf (eTyIs T ta)) := PT.weak (pt_cmpR op_isTy (pe_callTy c_type hg hm (by decide +kernel) (pa_cons ha pa_nil na) (he := na) (hpl := hpl)) ht hb) fun σ H Q q => by
  obtain ⟨F, rs, S, G, m, p⟩ := tOf_lift q
  refine ⟨F, rs, S, G, m, (Post.seq p).mono fun v H1 ⟨rs1, S1, G1, x, u1, m1, r1, p1⟩ => ?_⟩
  obtain ⟨d, hd, p2⟩ := Post.peek p1
  exact ⟨v, d, rfl, m1.peek r1 hd, _, _, rfl, rfl, Post.ret m1 p2 (.bl _)⟩

/-! ### chains a <= b <= c -/
def eChain (f g : PyData → PyData → Option PyData) (ta tb tc : M VD) : M VD := do
  let x ← ta
  let y ← tb
  let d ← peek x
  let e ← peek y
  let r ← ofO (f d e)
  match r with
  | .bool true => do
    let z ← tc
    let e' ← peek y
    let d' ← peek z
    let r' ← ofO (g e' d')
    scal r'
  | .bool false => pure (.dat (.bool false))
  | _ => M.bad
theorem chainD {f g : PyData → PyData → Option PyData} {ta tb tc : M VD} {c : Expr} (ha : PD X E a ta) (hb : PD X E b tb) (hc : PD X E c tc) {σ : L2.St} {H : Hp} {Q : VK} (q : liftE X.K X.wd X.mg E (eChain f g ta tb tc) σ H Q) :
    tChain (rD X.K f) (rD X.K g) (liftE X.K X.wd X.mg E ta) (liftE X.K X.wd X.mg E tb) (liftE X.K X.wd X.mg E tc) σ H Q := by
  obtain ⟨F, rs, S, G, m, p⟩ := q
  refine ⟨F, rs, S, G, m, (Post.seq p).mono fun v H1 ⟨rs1, S1, G1, x, u1, m1, r1, p1⟩ => ?_⟩
  refine ⟨F, rs1, S1, G1, m1, (Post.seq p1).mono fun w H2 ⟨rs2, S2, G2, y, u2, m2, r2, p2⟩ => ?_⟩
  obtain ⟨d, hd, p3⟩ := Post.peek p2
  obtain ⟨e, he, p4⟩ := Post.peek p3
  obtain ⟨r, hr, p5⟩ := Post.ofO p4
  cases r with
  | bool k =>
    refine ⟨d, e, _, _, m2.peek (RdV.up u2 r1) hd, m2.peek r2 he, hr, rfl, k, rfl, ?_⟩
    cases k with
    | false => exact Post.ret m2 p5 (.bl false)
    | true =>
      refine ⟨F, rs2, S2, G2, m2, (Post.seq p5).mono fun z H3 ⟨rs3, S3, G3, z', u3, m3, r3, p6⟩ => ?_⟩
      obtain ⟨e', he', p7⟩ := Post.peek p6
      obtain ⟨d', hd', p8⟩ := Post.peek p7
      obtain ⟨r', hr', p9⟩ := Post.ofO p8
      obtain ⟨w', hw', p10⟩ := Post.scal m3 p9
      exact ⟨e', d', r', w', m3.peek (RdV.up u3 r2) he', m3.peek r3 hd', hr', hw', p10⟩
  | _ => exact p5.elim
theorem d_chain {op op' : CmpOp} {f g : PyData → PyData → Option PyData} {ta tb tc : M VD} {c : Expr} (ho : OpR X (compareOp op) (rD X.K f)) (ho' : OpR X (compareOp op') (rD X.K g)) (ha : PD X E a ta) (hb : PD X E b tb) (hc : PD X E c tc)
    (hm : lastMarks [op, op'] [b, c] = false := by with_unfolding_all rfl) : PD X E (.Compare a [op, op'] [b, c] pos) (eChain f g ta tb tc) := PE.weak (pe_chain ho ho' ha hb hc hm) fun σ H Q q => chainD ha hb hc q
theorem dt_chain {op op' : CmpOp} {f g : PyData → PyData → Option PyData} {ta tb tc : M VD} {c : Expr} (ho : OpR X (compareOp op) (rD X.K f)) (ho' : OpR X (compareOp op') (rD X.K g)) (ha : PD X E a ta) (hb : PD X E b tb) (hc : PD X E c tc)
    (hm : lastMarks [op, op'] [b, c] = false := by with_unfolding_all rfl) : PDT X E (.Compare a [op, op'] [b, c] pos) (tOf (eChain f g ta tb tc)) := PT.weak (pt_chain ho ho' ha hb hc hm) fun σ H Q q => chainD ha hb hc (tOf_lift q)

/-! ### int(x) of an int -/
def intD (d : PyData) : Option PyData := match d with
  | .int i => some (.int i)
  | .bool k => some (.int (if k then 1 else 0))
  | _ => none
theorem c_int : CallR X (.type "int") (rFn X.K intD) := CallR.weak call_int1 fun xs H Q h => by
  obtain ⟨v, d, r, w, rfl, hd, hr, hw, q⟩ := h
  cases d with
  | int i => cases hr; cases hw; cases hd; exact .inl ⟨i, rfl, q⟩
  | bool k => cases hr; cases hw; cases hd; exact .inr ⟨k, rfl, q⟩
  | _ => cases hr
theorem d_fnT {x : Str} {T : String} {f : PyData → Option PyData} {ta : M VD} (hc : CallR X (.type T) (rFn X.K f)) (ha : PD X E a ta) (hg : Gl X x) (hm : X.mg x = none) (hv : bootBuiltins x = some (.type T)) (hn : x ≠ "__name__") (hd : (x == ("__debug__" : Str)) = false) (na : starEach [a] X.env = (false, eval a X.env) :: starEach [] X.env := by rfl) :
    PD X E (.Call (.Name x p) [a] [] pos) (eFn f ta) := PE.weak (pe_callTy hc hg hm hv (pa_cons ha pa_nil na) (hn := hn) (hdb := hd) (he := na)) fun σ H Q q => fnD q
theorem d_intOf {ta : M VD} (ha : PD X E a ta) (hm : X.mg "int" = none) (hg : Gl X "int" := by rfl) (na : starEach [a] X.env = (false, eval a X.env) :: starEach [] X.env := by rfl) : PD X E (.Call (.Name "int" p) [a] [] pos) (eFn intD ta) :=
  d_fnT c_int ha hg hm (by decide +kernel) (by decide) (by decide) na

/-! ### tuple(x), list(x) -/
def eTupOf (ta : M VD) : M VD := do let x ← ta; let c ← peek x; let ds ← ofO (asSeq c); pure (.dat (.tuple ds))
theorem d_tupOf {ta : M VD} (ha : PD X E a ta) (hm : X.mg "tuple" = none) (hg : Gl X "tuple" := by rfl) (na : starEach [a] X.env = (false, eval a X.env) :: starEach [] X.env := by rfl) : PD X E (.Call (.Name "tuple" p) [a] [] pos) (eTupOf ta) :=
  PE.weak (pe_callTy TN.call_tupN hg hm (by decide +kernel) (pa_cons ha pa_nil na) (he := na)) fun σ H Q q => by
  obtain ⟨F, rs, S, G, m, p⟩ := q
  refine ⟨F, rs, S, G, m, (Post.seq p).mono fun v H1 ⟨rs1, S1, G1, x, u1, m1, r1, p1⟩ => ?_⟩
  obtain ⟨d, hd, p2⟩ := Post.peek p1
  obtain ⟨ds, hs, p3⟩ := Post.ofO p2
  obtain ⟨a, vs, rfl, hda, hk⟩ := m1.seq r1 hd hs
  rcases hk with ⟨rfl, hk⟩ | ⟨rfl, hk, hw⟩
  · exact ⟨a, vs, rfl, .inl ⟨.inl hk, fun q its hq => newTup m1 hda p3 hq⟩⟩
  · exact ⟨a, vs, rfl, .inr ⟨hk, Post.ret m1 p3 hw⟩⟩
def eLstOf (ta : M VD) : M VD := do let x ← ta; let c ← peek x; let ds ← ofO (asSeq c); newL ds
theorem d_lstOf {ta : M VD} (ha : PD X E a ta) (hm : X.mg "list" = none) (hg : Gl X "list" := by rfl) (na : starEach [a] X.env = (false, eval a X.env) :: starEach [] X.env := by rfl) : PD X E (.Call (.Name "list" p) [a] [] pos) (eLstOf ta) :=
  PE.weak (pe_callTy call_list_of hg hm (by decide +kernel) (pa_cons ha pa_nil na) (he := na)) fun σ H Q q => by
  obtain ⟨F, rs, S, G, m, p⟩ := q
  refine ⟨F, rs, S, G, m, (Post.seq p).mono fun v H1 ⟨rs1, S1, G1, x, u1, m1, r1, p1⟩ => ?_⟩
  obtain ⟨d, hd, p2⟩ := Post.peek p1
  obtain ⟨ds, hs, p3⟩ := Post.ofO p2
  obtain ⟨a, vs, rfl, hda, hk⟩ := m1.seq r1 hd hs
  rcases hk with ⟨rfl, hk⟩ | ⟨rfl, hk, hw⟩
  · exact ⟨a, vs, rfl, .inl (.inl hk), fun q hq => newLst m1 hda p3 hq⟩
  · exact ⟨a, vs, rfl, .inr hk.sqt, fun q hq => newLst m1 hda p3 hq⟩

/-! ### all(list of bools) -/
def boolsD : List PyData → Option (List Bool)
  | [] => some []
  | .bool b :: ds => (boolsD ds).map (b :: ·)
  | _ => none
def allD (d : PyData) : Option PyData := match d with
  | .list ds => (boolsD ds).map fun bs => .bool (bs.all id)
  | _ => none
theorem bools_dd {K : PySem.W.Frag} : ∀ {vs : List V} {ds : List PyData} {bs : List Bool}, DdAll K H vs ds → boolsD ds = some bs → vs = bs.map V.bl
  | _, _, bs, .nil, h => by cases h; rfl
  | _, _, bs, .cons (d := d) (ds := ds) h1 h2, h => by
    cases d with
    | bool b =>
      unfold boolsD at h
      cases e : boolsD ds with
      | none => rw [e] at h; exact nomatch h
      | some bs' =>
        rw [e] at h
        cases h
        cases h1
        rw [bools_dd h2 e]
        rfl
    | _ => cases h
theorem c_all (hc : X.calm = true) : CallR X (.builtin "all") (rFn X.K allD) := CallR.weak (cr_all hc) fun xs H Q h => by
  obtain ⟨v, d, r, w, rfl, hd, hr, hw, q⟩ := h
  cases d with
  | list ds =>
    unfold allD at hr
    dsimp only at hr
    cases e : boolsD ds with
    | none => rw [e] at hr; cases hr
    | some bs =>
      rw [e] at hr
      cases hr; cases hw
      cases hd with
      | @lst a vs _ h1 h2 => exact ⟨a, bs, rfl, .inl (by rw [← bools_dd h2 e]; exact h1), q⟩
  | _ => cases hr
theorem d_all {ta : M VD} (hc : X.calm = true) (ha : PD X E a ta) (hm : X.mg "all" = none) (hg : Gl X "all" := by rfl) (na : starEach [a] X.env = (false, eval a X.env) :: starEach [] X.env := by rfl) : PD X E (.Call (.Name "all" p) [a] [] pos) (eFn allD ta) :=
  d_fnB (c_all hc) ha hg hm (by decide +kernel) (by decide) (by decide) na

/-! ### x.append(y), x[i] = y -/
def pushC (x : VD) (y : VD) : M VD := do
  let d ← toD y
  match x with
  | .rf j => fun S => match S.ce[j]? with
    | some (.ls true ds) => if ds.length < 16777216 then .ok (.dat .none, { S with ce := S.ce.set j (.ls true (ds ++ [d])) }) else .bad
    | _ => .bad
  | _ => M.bad
def isRf (x : VD) : M Unit := fun S => match x with
  | .rf j => match S.ce[j]? with
    | some (.ls _ _) => .ok ((), S)
    | _ => .bad
  | _ => .bad
theorem Post.isRf {K : PySem.W.Frag} {wl : Wd} {mg : Str → Option Value} {E : XK} {F : Hp} {σ : L2.St} {rs : List Addr} {G : Hp} {S : DS} {Q : VK} {j : Nat} {g : Unit → M VD} (h : Post K wl mg E F σ (RdV K wl) rs G ((isRf (.rf j) >>= g) S) Q) : (∃ b ds, S.ce[j]? = some (.ls b ds)) ∧ Post K wl mg E F σ (RdV K wl) rs G (g () S) Q := by
  rw [M.bind_run] at h
  unfold DL.isRf at h
  dsimp only at h
  cases e : S.ce[j]? with
  | none => rw [e] at h; exact h.elim
  | some c =>
    cases c with
    | dk _ => rw [e] at h; exact h.elim
    | si _ => rw [e] at h; exact h.elim
    | ls b ds => rw [e] at h; exact ⟨⟨b, ds, rfl⟩, h⟩
def eApp (to te : M VD) : M VD := do let x ← to; isRf x; let y ← te; pushC x y
theorem Rd.lst_tracked {a : Addr} (m : Md X.K X.wd F rs S σ H G) {j : Nat} {ds : List PyData} (ha : rs[j]? = some a) (h : S.ce[j]? = some (.ls true ds)) : ∃ vs, H a = some (.lst vs) ∧ DdAll X.K G vs ds := by
  obtain ⟨_, _, vs, hv, hd⟩ := m.cel j a _ ha h
  exact ⟨vs, hv, hd⟩
theorem d_app {o : Expr} {to te : M VD} (ho : PD X E o to) (he : PD X E e te) (hs : starEach [e] X.env = (false, eval e X.env) :: starEach [] X.env := by rfl)
    (hbase : attributeBase o "append" X.env (eval o X.env) = eval o X.env := by rfl)
    (hfew : ((backTo pos (starEach [e] X.env)).all (fun x => !x.1) && (backToKw pos (keywordEach [] X.env)).all (fun x => x.1.isSome)
      && decide ([e].length + ([] : List Keyword).length + (if ([] : List Keyword).isEmpty then 0 else 1) < 30)) = true := by rfl)
    (hline : (apos.endLine == pos.line) = true := by rfl) (hplain : (backTo pos (starEach [] X.env)).any (·.1) = false := by rfl) : PD X E (.Call (.Attribute o "append" apos) [e] [] pos) (eApp to te) :=
  PE.weak (pe_bm PySem.F.plainAttrs_list PySem.F.slot_list_append PySem.F.type_list_append mt_append ho (pa_cons he pa_nil hs) hbase hfew hline hs hplain) fun σ H Q q => by
  obtain ⟨F, rs, S, G, m, p⟩ := q
  refine ⟨F, rs, S, G, m, (Post.seq p).mono fun v H1 ⟨rs1, S1, G1, x, u1, m1, r1, p1⟩ => ?_⟩
  -- it is a live list when the argument is there; it is a list now
  cases x with
  | dat d => exact p1.elim
  | bag _ => exact p1.elim
  | st _ => exact p1.elim
  | ex _ => exact p1.elim
  | exs _ => exact p1.elim
  | oth _ => exact p1.elim
  | rf j =>
    obtain ⟨a, ha, rfl⟩ := r1
    obtain ⟨⟨bl, dl, ec⟩, p1⟩ := Post.isRf p1
    refine ⟨.inl ⟨rfl, ?_⟩, ?_⟩
    · obtain ⟨vs, h1, _⟩ := CellOk.list m1.sub (m1.cel j a _ ha ec)
      exact ⟨vs, .inl h1⟩
    · refine ⟨F, rs1, S1, G1, m1, (Post.seq p1).mono fun w H2 ⟨rs2, S2, G2, y, u2, m2, r2, p2⟩ => ?_⟩
      unfold pushC at p2
      obtain ⟨d, S3, G3, s3, m3, rd, p3⟩ := m2.toD r2 p2
      dsimp only at p3
      have ha2 : rs2[j]? = some a := by
        obtain ⟨⟨more, rfl⟩, _⟩ := u2
        rw [List.getElem?_append_left (List.getElem?_eq_some_iff.mp ha).1]
        exact ha
      cases e : S3.ce[j]? with
      | none => rw [e] at p3; exact p3.elim
      | some c =>
        cases c with
        | dk _ => rw [e] at p3; exact p3.elim
        | si _ => rw [e] at p3; exact p3.elim
        | ls live ds =>
        rw [e] at p3
        cases live with
        | false => exact p3.elim
        | true =>
          dsimp only at p3
          split at p3
          · rename_i hz
            obtain ⟨vs, hv, hd⟩ := Rd.lst_tracked m3 ha2 e
            refine ⟨a, vs, w, rfl, rfl, hv, by rw [DdAll.length hd, sizeLine_eq]; exact hz, ?_⟩
            exact p3 .non _ G3 rs2 Up.refl (m3.write ha2 e (DdAll.append hd (.cons rd .nil))) .non
          · exact p3.elim
/-- x[i] = y as a target -/
def setC (o i x : VD) : M Unit := do
  let d ← toD x
  match o, i with
  | .rf j, .dat (.int k) => fun S => match S.ce[j]? with
    | some (.ls true ds) => match ixN ds.length k with
      | some q => .ok ((), { S with ce := S.ce.set j (.ls true (ds.set q d)) })
      | none => .bad
    | _ => .bad
  | _, _ => M.bad
def gSubD (to ti : M VD) (x : VD) : M Unit := do let o ← to; let i ← ti; setC o i x
theorem PostU.ok {K : PySem.W.Frag} {wl : Wd} {is : List Nat} {α : Type} {t : M α} {g : α → M Unit} {Q : L2.St → Hp → Prop} (h : PostU K wl F rs G is σ ((t >>= g) S) Q) : ∃ p, t S = .ok p ∧ PostU K wl F rs G is σ (g p.1 p.2) Q := by
  rw [M.bind_run] at h
  cases e : t S with
  | ok p => rw [e] at h; exact ⟨p, rfl, h⟩
  | exc _ _ => rw [e] at h; exact h.elim
  | bad => rw [e] at h; exact h.elim
theorem PostU.up {K : PySem.W.Frag} {wl : Wd} {is : List Nat} {rs1 : List Addr} {G1 : Hp} (u : Up rs G rs1 G1) {r : R (Unit × DS)} {Q : L2.St → Hp → Prop} (h : PostU K wl F rs G is σ r Q) : PostU K wl F rs1 G1 is σ r Q := by
  cases r with
  | ok p => exact fun σ' H' G' rs' u' m o => h σ' H' G' rs' (u.trans u') m o
  | exc _ _ => exact h
  | bad => exact h
theorem g_sub {o i : Expr} {to ti : M VD} (ho : PD X E0 o to) (hi : PD X E0 i ti) (ha : ∀ v, assign (.Subscript o i pos) X.env v = (do let ov ← holding [v] (eval o X.env); let iv ← holding [v, ov] (eval i X.env); standAt pos; holding [v, ov, iv] (setItem ov iv v); release [v, ov, iv] []) := by intro _; rfl) : PDG X [] (.Subscript o i pos) (gSubD to ti) := PG.weak (pg_sub ho hi set_list ha) fun v σ H Q q => by
  obtain ⟨F, rs, S, G, x, m, r, p⟩ := q
  obtain ⟨⟨od, S1⟩, e1, p1⟩ := PostU.ok p
  refine ⟨F, rs, S, G, m, Post.okE (E' := E0) (Q' := fun _ _ => True) e1 fun ov H1 G1 rs1 u1 m1 r1 => ?_⟩
  obtain ⟨⟨id, S2⟩, e2, p2⟩ := PostU.ok p1
  refine ⟨F, rs1, S1, G1, m1, Post.okE (E' := E0) (Q' := fun _ _ => True) e2 fun iv H2 G2 rs2 u2 m2 r2 => ?_⟩
  have up2 := u1.trans u2
  have p3 := PostU.up up2 p2
  unfold setC at p3
  dsimp only at p3
  obtain ⟨⟨d, S3⟩, e3, p4⟩ := PostU.ok p3
  have pp : Post X.K X.wd X.mg E0 F σ (fun _ _ (a b : PyData × DS) => True) rs2 G2 ((DL.toD x >>= fun d => (fun S => .ok ((d, S), S) : M (PyData × DS))) S2) (fun _ _ => True) := by
    rw [M.bind_run, e3]
    exact fun _ _ _ _ _ _ _ => trivial
  have key : ∃ G3, Same G2 G3 ∧ Md X.K X.wd F rs2 S3 σ H2 G3 ∧ Dd X.K G3 v d := by
    have rx := RdV.up up2 r
    cases x with
    | dat d9 =>
      have e : (d9, S2) = (d, S3) := R.ok.inj e3
      cases e
      exact ⟨G2, L2.Same.refl _, m2, rx⟩
    | bag _ => cases e3
    | st _ => cases e3
    | ex _ => cases e3
    | exs _ => cases e3
    | oth _ => cases e3
    | rf j =>
      obtain ⟨a, ha, rfl⟩ := rx
      unfold DL.toD at e3
      dsimp only at e3
      cases ej : S2.ce[j]? with
      | none => rw [ej] at e3; cases e3
      | some c =>
        cases c with
        | dk _ => rw [ej] at e3; cases e3
        | si _ => rw [ej] at e3; cases e3
        | ls b ds =>
        rw [ej] at e3
        cases b with
        | true =>
          cases e3
          obtain ⟨G3, sg, m3, rd⟩ := m2.freeze ha ej
          exact ⟨G3, sg, m3, rd⟩
        | false =>
          cases e3
          obtain ⟨vs, hv, hd⟩ := m2.cel j a _ ha ej
          exact ⟨G2, L2.Same.refl _, m2, .lst (Rd.of hv) hd⟩
  obtain ⟨G3, s3, m3, rd⟩ := key
  have p5 := PostU.up (⟨⟨[], by simp⟩, s3⟩ : Up rs2 G2 rs2 G3) p4
  cases od with
  | dat _ => exact p5.elim
  | bag _ => exact p5.elim
  | st _ => exact p5.elim
  | ex _ => exact p5.elim
  | exs _ => exact p5.elim
  | oth _ => exact p5.elim
  | rf j =>
    cases id with
    | rf _ => exact p5.elim
    | bag _ => exact p5.elim
    | st _ => exact p5.elim
    | ex _ => exact p5.elim
    | exs _ => exact p5.elim
    | oth _ => exact p5.elim
    | dat k =>
      cases k with
      | int k =>
        dsimp only at p5
        obtain ⟨a, ha, rfl⟩ := RdV.up u2 r1
        cases (show Dd X.K G2 iv (.int k) from r2)
        cases ej : S3.ce[j]? with
        | none => rw [ej] at p5; exact p5.elim
        | some c =>
          cases c with
          | dk _ => rw [ej] at p5; exact p5.elim
          | si _ => rw [ej] at p5; exact p5.elim
          | ls b ds =>
          rw [ej] at p5
          cases b with
          | false => exact p5.elim
          | true =>
            dsimp only at p5
            cases eq : ixN ds.length k with
            | none => rw [eq] at p5; exact p5.elim
            | some q =>
              rw [eq] at p5
              obtain ⟨vs, hv, hd⟩ := Rd.lst_tracked m3 ha ej
              exact ⟨a, vs, k, q, rfl, rfl, hv, by rw [DdAll.length hd]; exact eq, p5 _ _ G3 rs2 Up.refl (m3.write ha ej (DdAll.set rd q hd)) Off.refl⟩
      | _ => exact p5.elim
/-- a, b = x, y -/
def sPar (i j : Nat) (t : M (List VD)) : MS := do
  let vs ← t
  match vs with
  | [x, y] => do setSl i x; setSl j y; pure .nx
  | _ => M.bad
theorem s_par {i j : Nat} {x y : Str} {a b : Expr} {ta : M (List VD)} {px py pt : Pos} {kt k2 : Nat} {pt2 : Pos} (hc : X.calm = true) (hN : X.N.Nodup) (ha : PDA X E [a, b] ta) (hi : X.N[i]? = some x := by rfl) (hj : X.N[j]? = some y := by rfl) (hij : i ≠ j := by decide)
    (hx : X.env.scope.names.lookup x = some .local := by rfl) (hy : X.env.scope.names.lookup y = some .local := by rfl)
    (hw : swappedStores [.Tuple [.Name x px, .Name y py] kt pt] (.Tuple [a, b] k2 pt2) X.env = pure (some [x, y]) := by rfl) (hs : swapsWithSole [.Tuple [.Name x px, .Name y py] kt pt] (.Tuple [a, b] k2 pt2) pos.line X.env = pure false := by rfl) :
    PDS X E (.Assign [.Tuple [.Name x px, .Name y py] kt pt] (.Tuple [a, b] k2 pt2) pos) (sPar i j ta) := PS.weak (ps_par hc hN hi hj hij hx hy ha hw hs) fun D σ H q => by
  obtain ⟨F, rs, S, G, m, p⟩ := q
  refine ⟨F, rs, S, G, m, (PostS.expr p).mono fun vs H1 ⟨rs1, S1, G1, xs, u1, m1, r1, p1⟩ => ?_⟩
  match xs, vs, r1, p1 with
  | [x, y], [v, w], r1, p1 => exact ⟨v, w, rfl, p1 _ H1 G1 rs1 Up.refl ((m1.store r1.1).store r1.2.1)⟩
  | [], _, _, p1 => exact p1.elim
  | [_], _, _, p1 => exact p1.elim
  | _ :: _ :: _ :: _, _, _, p1 => exact p1.elim
  | [_, _], [], r1, _ => exact r1.elim
  | [_, _], [_], r1, _ => exact r1.2.elim
  | [_, _], _ :: _ :: _ :: _, r1, _ => exact r1.2.2.elim
end
end DL
/-! DL11: defs that call defs. -/
namespace DL
open PySem PySem.Spec L2
/-- a def of the module under its name, kept at level k -/
def Fnk (P : Program) (w : World) (K : PySem.W.Frag) (mg : Str → Option Value) (base : Heap) (x : Str) (n k : Nat) (den : Fd) : Prop :=
  ∃ (f : Addr) (fd : FuncData) (ps : List Str), DG.FnG P w K mg base k f fd ps (spD K w mg n den) ∧ mg x = some (.ref f) ∧ PySem.W.keepIn K (.ref f) = true ∧ Binds K fd ps []
theorem Fnk.has {X : Cx} {E : XK} {x : Str} {n k j : Nat} {den : Fd} (h : Fnk X.prog X.w X.K X.mg X.base x n k den) (hgd : X.A.guards = some []) (hr : Room j X.A) (hp : Passes (L2.CX X.prog X.w) X E) (hk : k ≤ j := by decide) : Has X E x n den :=
  let ⟨f, fd, ps, F, hm, hkk, hb⟩ := h
  ⟨⟨k, f, fd, ps, F, hgd, hr.mono hk, hm, hkk, hb, hp⟩⟩
theorem passB {P : Program} {w : World} {K : PySem.W.Frag} {mg : Str → Option Value} {base : Heap} {N : List Str} {qual : Str} {sc : Scope} {f : Addr} {cd : Value} {A : Around} {outer : List Env} {s : Shared} {H : Hp} {E : XK} :
    Passes (L2.CX P w) (cxOf (L2.CX P w) P w K mg base N qual sc f cd A outer s H E) E := passes_call (takes_of rfl rfl rfl rfl) fun _ _ _ _ h => h
theorem huB {j : Nat} {A : Around} (hr : Room j A) : A.units + 200 < cLine := by have := hr.un; omega
theorem Fnk.mk {P : Program} {w : World} {K : PySem.W.Frag} {mg : Str → Option Value} {base : Heap} {x : Str} {k : Nat} {den : Fd} {f : Addr} {fd : FuncData} {ps : List Str} (F : DG.FnG P w K mg base k f fd ps (spD K w mg ps.length den)) (hm : mg x = some (.ref f)) (hk : PySem.W.keepIn K (.ref f) = true) (hb : Binds K fd ps []) : Fnk P w K mg base x ps.length k den :=
  ⟨f, fd, ps, F, hm, hk, hb⟩
end DL
/-! DL12: sets of tuples, sorted. -/
namespace DL
open PySem PySem.Spec L2
open NS (El keyOf dataOf once leD setHO)

/-- a tuple that a set may hold -/
def setEl (d : PyData) : Bool := match d with
  | .tuple _ => match keyOf d with
    | some k => decide (k.depth ≤ 8)
    | none => false
  | _ => false
theorem setEl_key {d : PyData} (h : setEl d = true) : ∃ k, keyOf d = some k ∧ k.depth ≤ 8 ∧ ∃ ds, d = .tuple ds := by
  cases d with
  | tuple ds =>
    unfold setEl at h
    dsimp only at h
    cases e : keyOf (.tuple ds) with
    | none => (rw [e] at h; cases h)
    | some k => rw [e] at h; exact ⟨k, rfl, of_decide_eq_true h, ds, rfl⟩
  | _ => cases h
/-- the i-th of both: where it stands, what it is -/
def ElIn (vs : List V) (ds : List PyData) (p : El) : Prop := ∃ (i : Nat) (d : PyData), vs[i]? = some (V.ref p.1) ∧ ds[i]? = some d ∧ keyOf d = some p.2 ∧ p.2.depth ≤ 8
theorem ElIn.up {v : V} {vs : List V} {d : PyData} {ds : List PyData} {p : El} (h : ElIn vs ds p) : ElIn (v :: vs) (d :: ds) p := by
  obtain ⟨i, e, h1, h2, h3⟩ := h
  exact ⟨i + 1, e, by simpa using h1, by simpa using h2, h3⟩
theorem els_of {K : PySem.W.Frag} {H : Hp} : ∀ {vs : List V} {ds : List PyData}, DdAll K H vs ds → ds.all setEl = true →
    ∃ ks : List El, vs = ks.map (fun p => V.ref p.1) ∧ (∀ p ∈ ks, ElIn vs ds p) ∧ (∀ d ∈ ds, ∃ k, keyOf d = some k ∧ k ∈ ks.map (·.2))
  | _, _, .nil, _ => ⟨[], rfl, fun p hp => (by cases hp), fun d hd => (by cases hd)⟩
  | _, _, .cons (v := v) (vs := vs) (d := d) (ds := ds) h t, al => by
    rw [List.all_cons, Bool.and_eq_true] at al
    obtain ⟨k, hk, hd8, es, rfl⟩ := setEl_key al.1
    obtain ⟨ks, e1, e2, e3⟩ := els_of t al.2
    cases h with
    | @tup b xs _ hs ha =>
      refine ⟨(b, k) :: ks, by rw [e1]; rfl, fun p hp => ?_, fun d' hd' => ?_⟩
      · rcases List.mem_cons.1 hp with rfl | y
        · exact ⟨0, _, rfl, rfl, hk, hd8⟩
        · exact ElIn.up (e2 p y)
      · rcases List.mem_cons.1 hd' with rfl | y
        · exact ⟨k, hk, by simp⟩
        · obtain ⟨k', q1, q2⟩ := e3 d' y
          exact ⟨k', q1, by rw [List.map_cons]; exact List.mem_cons_of_mem _ q2⟩
theorem ElIn.dd {K : PySem.W.Frag} {H : Hp} {vs : List V} {ds : List PyData} {p : El} (h : ElIn vs ds p) (a : DdAll K H vs ds) : ∃ d, d ∈ ds ∧ keyOf d = some p.2 ∧ p.2.depth ≤ 8 ∧ Dd K H (.ref p.1) d := by
  obtain ⟨i, d, h1, h2, h3, h4⟩ := h
  obtain ⟨d', q1, q2⟩ := DdAll.get a h1
  rw [h2] at q1
  cases q1
  exact ⟨d, List.mem_of_getElem? h2, h3, h4, q2⟩
theorem vals_refs : ∀ {ks : List El} {us : List Value}, Vals (ks.map fun p => V.ref p.1) us → us = ks.map fun p => Value.ref p.1
  | [], _, .nil => rfl
  | p :: ks, _, .cons r t => by
    cases r
    rw [vals_refs t]
    rfl
section
variable {X : Cx} {E : XK} {e a b : Expr} {es : List Expr} {pos p p1 p2 : Pos}
theorem elt_of {pins : List (Addr × Obj)} {σ : L2.St} {H : Hp} {s : Shared} (I : Inv X pins σ H s) {b : Addr} {d : PyData} {k : NestedKey} (h : Dd X.K H (.ref b) d) (hk : keyOf d = some k) (h8 : k.depth ≤ 8) : NS.Elt s.heap k b ∧ ∀ as, Reads s.heap (.ref b) d as → as = [] := by
  obtain ⟨as, r⟩ := Dd.reads I d (.ref b) (.ref b) h rfl
  exact ⟨⟨(NS.key_reads d k _ _ hk r).1, h8, NS.key_bare d k hk⟩, fun as r => (NS.key_reads d k _ _ hk r).2⟩
def rSet (K : PySem.W.Frag) (w : World) : List V → Hp → VK → Prop := fun xs H Q => ∃ a vs ds, xs = [V.ref a] ∧ (Rd H a (.lst vs) ∨ SqT K H a vs) ∧ DdAll K H vs ds ∧ ds.all setEl = true ∧ ds.length < 64 ∧
  ∀ q B, H q = none → (∀ p ∈ B, ElIn vs ds p) → (∀ d ∈ ds, ∃ k, keyOf d = some k ∧ k ∈ B.map (·.2)) → Q (.ref q) (upd H q (setHO w q B))
theorem c_set (hc : X.calm = true) (hu : X.A.units + 200 < cLine) : CallR X (.type "set") (rSet X.K X.w) := by
  intro pins s σ H xs us Q I r h; obtain ⟨a, vs, ds, rfl, ha, hd, hal, hl, q⟩ := h; obtain ⟨u, rfl, ru⟩ := vals1 r
  cases ru
  obtain ⟨ks, ev, k1, k2⟩ := els_of hd hal
  have evs := ev
  subst ev
  have hlen : ks.length < 64 := by
    have := DdAll.length hd
    rw [List.length_map] at this
    omega
  have hk : ∀ p ∈ ks, NS.Elt s.heap p.2 p.1 := fun p hp => by
    obtain ⟨d, _, q2, q3, q4⟩ := (k1 p hp).dd hd
    exact (elt_of I q4 q2 q3).1
  (have hn : H s.heap.objs.size = none := I.hok.fresh (Nat.le_refl _))
  have done : ∀ (h' : Heap) (tk : Nat) B rows e0 tb, NS.SetN X.prog X.w h' s.heap.objs.size B rows e0 tb → NS.In ks ks.length B → (∀ b o, s.heap.get? b = some o → h'.get? b = some o) → EP X pins σ Q (.ref s.heap.objs.size) { s with heap := h', toks := tk } := by
    intro h' tk B rows e0 tb Z g k
    refine ⟨.ref s.heap.objs.size, _, I.laid (t' := tk) k (Nat.le_refl _) (NS.setHO_new Z.bare), rfl, q _ B hn (fun p hp => ?_) fun d hd => ?_⟩
    · exact k1 p (List.mem_of_mem_take (g.of p hp))
    · obtain ⟨k, q1, q2⟩ := k2 d hd
      obtain ⟨p, hp, rfl⟩ := List.mem_map.mp q2
      exact ⟨p.2, q1, g.has p (by rw [List.take_length]; exact hp)⟩
  rcases ha with ha | ha
  · obtain ⟨its, rv, pl, hz⟩ := I.list (.inl ha)
    exact NS.set_of_list ks (I.ok.hd hc) pl.isList (by simpa using vals_refs rv) hk hlen (by omega) done
  · obtain ⟨its, rv, pl, hz⟩ := I.tuple ha
    exact NS.set_of_tuple ks (I.ok.hd hc) pl (by simpa using vals_refs rv) hk hlen (by omega) done
def eSetOf (ta : M VD) : M VD := do let x ← ta; let c ← peek x; let ds ← ofO (asSeq c); chk (ds.all setEl && decide (ds.length < 64)); pure (.st ds)
theorem d_setOf {ta : M VD} (hc : X.calm = true) (hu : X.A.units + 200 < cLine) (ha : PD X E a ta) (hm : X.mg "set" = none) (hg : Gl X "set" := by rfl) (na : starEach [a] X.env = (false, eval a X.env) :: starEach [] X.env := by rfl) (hpl : (backTo pos (starEach [] X.env)).any (·.1) = false := by rfl) :
    PD X E (.Call (.Name "set" p) [a] [] pos) (eSetOf ta) := PE.weak (pe_callTy (c_set hc hu) hg hm (by decide +kernel) (pa_cons ha pa_nil na) (he := na) (hpl := hpl)) fun σ H Q q => by
  obtain ⟨F, rs, S, G, m, p⟩ := q
  refine ⟨F, rs, S, G, m, (Post.seq p).mono fun v H1 ⟨rs1, S1, G1, x, u1, m1, r1, p1⟩ => ?_⟩
  obtain ⟨d, hd, p2⟩ := Post.peek p1
  obtain ⟨ds, hs, p3⟩ := Post.ofO p2
  obtain ⟨hz, p4⟩ := Post.chk p3
  rw [Bool.and_eq_true, decide_eq_true_eq] at hz
  obtain ⟨b, vs, rfl, hda, hk⟩ := m1.seq r1 hd hs
  refine ⟨b, vs, ds, rfl, hk.elim (fun y => .inl y.2) (fun y => .inr y.2.1.sqt), DdAll.same m1.sub _ _ hda, hz.1, hz.2, fun q B hq h1 h2 => ?_⟩
  have gq := L2.Same.free m1.sub hq
  refine p4 (.ref q) _ (upd G1 q (setHO X.w q B)) rs1 ⟨⟨[], by simp⟩, same_upd gq⟩ (m1.new hq) ⟨q, B, rfl, upd_same, fun p hp => ?_, h2⟩
  obtain ⟨d, y1, y2, y3, y4⟩ := (h1 p hp).dd hda
  exact ⟨d, y1, y2, y3, Dd.same (same_upd gq) _ _ y4⟩
end
end DL
/-! DL13: exceptions of own classes: made, read, asked. -/
namespace DL
open PySem PySem.Spec L2 EX

/-! ### what __init__ promises: one field a parameter, under the parameter's name -/
def mkH (H : Hp) (a C dx : Addr) (fs : List (Str × V)) : Hp := upd (upd H dx (exd dx fs)) a (exo a C (some dx))
def iniSp (C : Addr) (names : List Str) : Sp := fun vs H Q _ => ∃ (a : Addr) (ys : List V), vs = .ref a :: ys ∧ ys.length = names.length ∧ H a = some (exo a C none) ∧
  ((names = [] ∧ Q .non H) ∨ (names ≠ [] ∧ ∀ dx, H dx = none → dx ≠ a → Q .non (mkH H a C dx (names.reverse.zip ys.reverse))))
theorem ini_len {C : Addr} {names : List Str} : ∀ (vs : List V) (H : Hp) (Q : VK) (E : XK), iniSp C names vs H Q E → vs.length = (("self" : Str) :: names).length := by
  rintro vs H Q E ⟨a, ys, rfl, hl, _⟩
  simp [hl]
theorem mkH_again {H : Hp} {a C dx : Addr} {fs gs : List (Str × V)} (h : dx ≠ a) : upd (mkH H a C dx fs) dx (exd dx gs) = mkH H a C dx gs := by
  funext b
  unfold mkH
  by_cases h1 : b = dx
  · subst h1; rw [upd_same, upd_ne h, upd_same]
  · rw [upd_ne h1]
    by_cases h2 : b = a
    · subst h2; rw [upd_same, upd_same]
    · rw [upd_ne h2, upd_ne h2, upd_ne h1, upd_ne h1]
/-- the bodies: no field, one, two -/
theorem ini1 {K : PySem.W.Frag} {C : Addr} {n : Str} (T : XcE K C) (h1 : W.takerIn K C n = some none) {vs : List V} {H : Hp} {Q : VK} {E : XK} (h : iniSp C [n] vs H Q E) :
    tSto K n (tVar 0) (tVar 1) { nx := fun _ H' => Q .non H', rt := Q } (L2.start ["self", n] vs) H := by
  obtain ⟨a, ys, rfl, hl, ha, h⟩ := h
  match ys, hl with
  | [y], _ =>
    rcases h with h | ⟨_, h⟩
    · cases h.1
    · exact ⟨y, rfl, .ref a, rfl, a, C, rfl, T, h1, .inl ⟨ha, fun dx n1 n2 => h dx n1 n2⟩⟩
theorem ini2 {K : PySem.W.Frag} {C : Addr} {n m : Str} (T : XcE K C) (h1 : W.takerIn K C n = some none) (h2 : W.takerIn K C m = some none) {vs : List V} {H : Hp} {Q : VK} {E : XK} (h : iniSp C [n, m] vs H Q E) :
    tSeq (tSto K n (tVar 0) (tVar 1)) (tSto K m (tVar 0) (tVar 2)) { nx := fun _ H' => Q .non H', rt := Q } (L2.start ["self", n, m] vs) H := by
  obtain ⟨a, ys, rfl, hl, ha, h⟩ := h
  match ys, hl with
  | [y, z], _ =>
    rcases h with h | ⟨_, h⟩
    · cases h.1
    · refine ⟨y, rfl, .ref a, rfl, a, C, rfl, T, h1, .inl ⟨ha, fun dx n1 n2 => ?_⟩⟩
      refine ⟨z, rfl, .ref a, rfl, a, C, rfl, T, h2, .inr ⟨dx, [(n, y)], upd_same, (upd_ne n2).trans upd_same, by simp, ?_⟩⟩
      have e := h dx n1 n2
      show Q .non (upd (mkH H a C dx [(n, y)]) dx (exd dx [(m, z), (n, y)]))
      rw [mkH_again n2]
      exact e
/-- a class that is called: under its name, its fields in the order of the parameters -/
structure MkO (P : Program) (w : World) (K : PySem.W.Frag) (mg : Str → Option Value) (base : Heap) (cls : Str) (names : List Str) : Prop where
  ex : ∃ (C fI : Addr) (fd : FuncData), mg cls = some (.ref C) ∧ XcE K C ∧ W.findIn K (.ref C) "__init__" = some (some (.ref fI)) ∧ W.typeIn K (.ref fI) = some (.type "function") ∧ FnOk P w K mg base CX0 1 fI fd (("self" : Str) :: names) (iniSp C names) ∧
    KBn K fd (("self" : Str) :: names) (names.length + 1) [] (fun us _ => us) (fun us _ => us) ∧ KBn K fd (("self" : Str) :: names) 1 names (fun us ws => us ++ ws) (fun us ws => us ++ ws) ∧ KBn K fd (("self" : Str) :: names) 1 names.reverse (fun us ws => us ++ ws.reverse) (fun us ws => us ++ ws.reverse)
section
variable {K : PySem.W.Frag} {wl : Wd} {F : Hp} {rs : List Addr} {S : DS} {σ : L2.St} {H G : Hp}
theorem DdAll.reverse' {vs : List V} {ds : List PyData} (h : DdAll K G vs ds) : DdAll K G vs.reverse ds.reverse := DdAll.reverse h
def exV (cls : Str) (names : List Str) (ds : List PyData) : Str × List (Str × PyData) := (cls, names.reverse.zip ds.reverse)
/-- the object stands: as a value -/
theorem exNew {mg : Str → Option Value} {E : XK} {Q : VK} {cls : Str} {names : List Str} {C : Addr} {vs : List V} {ds : List PyData} (m : Md K wl F rs S σ H G) (hm : wl.mg cls = some (.ref C)) (hd : DdAll K G vs ds) (hl : ds.length = names.length)
    (h : Post K wl mg E F σ (RdV K wl) rs G (.ok (.ex (exV cls names ds), S)) Q) {a : Addr} (ha : H a = none) {Q' : VK} (hq : ∀ H3, Q (.ref a) H3 → Q' .non H3) : iniSp C names (.ref a :: vs) (upd H a (exo a C none)) Q' (fun _ _ _ => False) := by
  have hvl : vs.length = names.length := (DdAll.length hd).trans hl
  refine ⟨a, vs, rfl, hvl, upd_same, ?_⟩
  by_cases hn : names = []
  · subst hn
    have e0 : ds = [] := List.length_eq_zero_iff.mp hl
    subst e0
    exact .inl ⟨rfl, hq _ (h (.ref a) _ (upd G a (exo a C none)) rs ⟨⟨[], by simp⟩, same_upd (L2.Same.free m.sub ha)⟩ (m.new ha) ⟨a, C, none, rfl, hm, upd_same, .inl ⟨rfl, rfl⟩⟩)⟩
  · refine .inr ⟨hn, fun dx hx ne => hq _ ?_⟩
    have hx' : H dx = none := by rw [upd_ne ne] at hx; exact hx
    have ha' : upd H dx (exd dx (names.reverse.zip vs.reverse)) a = none := by rw [upd_ne (Ne.symm ne)]; exact ha
    have e : mkH (upd H a (exo a C none)) a C dx (names.reverse.zip vs.reverse) = upd (upd H dx (exd dx (names.reverse.zip vs.reverse))) a (exo a C (some dx)) := by
      funext b
      unfold mkH
      by_cases h1 : b = a
      · subst h1; rw [upd_same, upd_same]
      · rw [upd_ne h1, upd_ne h1]
        by_cases h2 : b = dx
        · subst h2; rw [upd_same, upd_same]
        · rw [upd_ne h2, upd_ne h2, upd_ne h1]
    rw [e]
    have m1 := m.new (o := exd dx (names.reverse.zip vs.reverse)) hx'
    have gx := L2.Same.free m.sub hx'
    have ga := L2.Same.free m1.sub ha'
    have sg : Same G (upd (upd G dx (exd dx (names.reverse.zip vs.reverse))) a (exo a C (some dx))) := L2.Same.trans (same_upd gx) (same_upd ga)
    have l1 : names.reverse.length = ds.reverse.length := by simp [hl]
    refine h (.ref a) _ (upd (upd G dx (exd dx (names.reverse.zip vs.reverse))) a (exo a C (some dx))) rs ⟨⟨[], by simp⟩, sg⟩ (m1.new ha') ⟨a, C, some dx, rfl, hm, upd_same, .inr ⟨dx, vs.reverse, rfl, ?_, ?_⟩⟩
    · show upd (upd G dx _) a _ dx = some (exd dx (((names.reverse.zip ds.reverse).map (·.1)).zip vs.reverse))
      rw [upd_ne ne, upd_same, show (names.reverse.zip ds.reverse).map (·.1) = names.reverse from List.map_fst_zip (Nat.le_of_eq l1)]
    · show DdAll K _ vs.reverse ((names.reverse.zip ds.reverse).map (·.2))
      rw [show (names.reverse.zip ds.reverse).map (·.2) = ds.reverse from List.map_snd_zip (Nat.le_of_eq l1.symm)]
      exact DdAll.same sg _ _ (DdAll.reverse hd)
end
/-! ### the rules -/
abbrev PDK (X : Cx) (E : XK) (kws : List Keyword) (t : M (List VD)) : Prop := PK X kws (liftA X.K X.wd X.mg E t)
def eMk (cls : Str) (names : List Str) (t : M (List VD)) : M VD := do let xs ← t; let ds ← toDs xs; chk (decide (ds.length = names.length)); pure (.ex (exV cls names ds))
def eMkR (cls : Str) (names : List Str) (t : M (List VD)) : M VD := do let xs ← t; let ds ← toDs xs; chk (decide (ds.length = names.length)); pure (.ex (exV cls names ds.reverse))
section
variable {X : Cx} {E : XK} {e o : Expr} {es : List Expr} {kws : List Keyword} {pos p : Pos} {x : Str} {names : List Str}
theorem k_nil : PDK X E [] (pure []) := ⟨fun _ _ _ σ H Q I q => wpAny_evalAll_nil (by
  obtain ⟨F, rs, S, G, m, p⟩ := q
  exact ⟨[], H, I, .nil, Post.ret (b := []) m p trivial⟩)⟩
theorem PK.weak {t t' : TA} (h : PK X kws t) (k : ∀ σ H Q, t' σ H Q → t σ H Q) : PK X kws t' := ⟨fun pos pins s σ H Q I q => h.run pos pins s σ H Q I (k _ _ _ q)⟩
theorem k_cons {a : M VD} {t : M (List VD)} {nm : Option Str} {kp : Pos} (ha : PD X E e a) (ht : PDK X E kws t) : PDK X E (⟨nm, e, kp⟩ :: kws) (aCons a t) := PK.weak (pk_cons ha ht) fun σ H Q q => by
  obtain ⟨F, rs, S, G, m, p⟩ := q
  refine ⟨F, rs, S, G, m, (Post.seq p).mono fun v H1 ⟨rs1, S1, G1, x, u1, m1, r1, p1⟩ => ?_⟩
  refine ⟨F, rs1, S1, G1, m1, (Post.seq p1).mono fun vs H2 ⟨rs2, S2, G2, xs, u2, m2, r2, p2⟩ => ?_⟩
  exact Post.ret (b := v :: vs) m2 p2 ⟨RdV.up u2 r1, r2⟩
theorem d_mk {t : M (List VD)} (hh : MkO X.prog X.w X.K X.mg X.base x names) (hr : Room 2 X.A) (hl : names.length ≤ 1000) (hg : Gl X x) (ht : PDA X E (e :: es) t) (hdb : (x == ("__debug__" : Str)) = false := by decide)
    (he : starEach (e :: es) X.env = (false, eval e X.env) :: starEach es X.env := by rfl) (hpl : (backTo pos (starEach es X.env)).any (·.1) = false := by rfl) : PD X E (.Call (.Name x p) (e :: es) [] pos) (eMk x names t) := by
  obtain ⟨C, fI, fd, hm, T, h1, h2, h3, h4, _, _⟩ := hh.ex
  refine PE.weak (pe_mkX (n := names.length) T h1 h2 h3 hr h4 (fun _ _ _ _ _ _ _ z => z.elim) hg hm ht hdb he hpl) fun σ H Q q => ?_
  obtain ⟨F, rs, S, G, m, p⟩ := q
  refine ⟨F, rs, S, G, m, (Post.seq p).mono fun vs H1 ⟨rs1, S1, G1, xs, u1, m1, r1, p1⟩ => ?_⟩
  obtain ⟨ds, S2, G2, sg, m2, rd, p2⟩ := m1.toDs r1 p1
  obtain ⟨hz, p3⟩ := Post.chk p2
  have hz' := of_decide_eq_true hz
  exact ⟨(DdAll.length rd).trans hz', rfl, hl, fun a ha => exNew m2 hm rd hz' p3 ha fun H3 z => ⟨rfl, z⟩⟩
theorem d_mk0 (hh : MkO X.prog X.w X.K X.mg X.base x []) (hr : Room 2 X.A) (hg : Gl X x) (hdb : (x == ("__debug__" : Str)) = false := by decide) : PD X E (.Call (.Name x p) [] [] pos) (eMk x [] (pure [])) := by
  obtain ⟨C, fI, fd, hm, T, h1, h2, h3, h4, _, _⟩ := hh.ex
  refine PE.weak (pe_mkX0 T h1 h2 h3 hr h4 (fun _ _ _ _ _ _ _ z => z.elim) hg hm hdb) fun σ H Q q => ?_
  obtain ⟨F, rs, S, G, m, p⟩ := q
  exact ⟨rfl, rfl, Nat.zero_le _, fun a ha => exNew (ds := []) m hm .nil rfl p ha fun H3 z => ⟨rfl, z⟩⟩
theorem d_mkK {t : M (List VD)} (hh : MkO X.prog X.w X.K X.mg X.base x names) (hr : Room 2 X.A) (hg : Gl X x) (ht : PDK X E kws t) (hall : (backToKw pos (keywordEach kws X.env)).all (·.1.isSome) = true := by rfl) (hks : (backToKw pos (keywordEach kws X.env)).filterMap (·.1) = names := by rfl) (hdb : (x == ("__debug__" : Str)) = false := by decide)
    (hpl : ((backTo pos (starEach [] X.env)).any (·.1) || (backToKw pos (keywordEach kws X.env)).any (·.1.isNone)) = false := by rfl) : PD X E (.Call (.Name x p) [] kws pos) (eMk x names t) := by
  obtain ⟨C, fI, fd, hm, T, h1, h2, h3, _, h4, _⟩ := hh.ex
  refine PE.weak (pe_mkXK T h1 h2 h3 hr h4 (fun _ _ _ _ _ _ _ z => z.elim) hg hm ht hall hks hdb hpl) fun σ H Q q => ?_
  obtain ⟨F, rs, S, G, m, p⟩ := q
  refine ⟨F, rs, S, G, m, (Post.seq p).mono fun vs H1 ⟨rs1, S1, G1, xs, u1, m1, r1, p1⟩ => ?_⟩
  obtain ⟨ds, S2, G2, sg, m2, rd, p2⟩ := m1.toDs r1 p1
  obtain ⟨hz, p3⟩ := Post.chk p2
  have hz' := of_decide_eq_true hz
  exact ⟨rfl, (DdAll.length rd).trans hz', Nat.zero_le _, fun a ha => exNew m2 hm rd hz' p3 ha fun H3 z => ⟨rfl, z⟩⟩
theorem d_mkKR {t : M (List VD)} (hh : MkO X.prog X.w X.K X.mg X.base x names) (hr : Room 2 X.A) (hg : Gl X x) (ht : PDK X E kws t) (hall : (backToKw pos (keywordEach kws X.env)).all (·.1.isSome) = true := by rfl) (hks : (backToKw pos (keywordEach kws X.env)).filterMap (·.1) = names.reverse := by rfl) (hdb : (x == ("__debug__" : Str)) = false := by decide)
    (hpl : ((backTo pos (starEach [] X.env)).any (·.1) || (backToKw pos (keywordEach kws X.env)).any (·.1.isNone)) = false := by rfl) : PD X E (.Call (.Name x p) [] kws pos) (eMkR x names t) := by
  obtain ⟨C, fI, fd, hm, T, h1, h2, h3, _, _, h4⟩ := hh.ex
  refine PE.weak (pe_mkXK T h1 h2 h3 hr h4 (fun _ _ _ _ _ _ _ z => z.elim) hg hm ht hall hks hdb hpl) fun σ H Q q => ?_
  obtain ⟨F, rs, S, G, m, p⟩ := q
  refine ⟨F, rs, S, G, m, (Post.seq p).mono fun vs H1 ⟨rs1, S1, G1, xs, u1, m1, r1, p1⟩ => ?_⟩
  obtain ⟨ds, S2, G2, sg, m2, rd, p2⟩ := m1.toDs r1 p1
  obtain ⟨hz, p3⟩ := Post.chk p2
  have hz' := of_decide_eq_true hz
  exact ⟨rfl, by rw [List.length_reverse]; exact (DdAll.length rd).trans hz', Nat.zero_le _, fun a ha => exNew (ds := ds.reverse) m2 hm (DdAll.reverse rd) (by rw [List.length_reverse]; exact hz') p3 ha fun H3 z => ⟨rfl, z⟩⟩
end
end DL
/-! DL14: exceptions: fields, isinstance, lists of them, for over these; repr. -/
namespace DL
open PySem PySem.Spec L2 EX

/-- the classes of the module: name, fields -/
structure ClsTb (K : PySem.W.Frag) (mg : Str → Option Value) (tb : List (Str × List Str)) : Prop where
  ok : ∀ (c : Str) (ns : List Str) (C : Addr), tb.lookup c = some ns → mg c = some (.ref C) → XcE K C ∧ ∀ n ∈ ns, W.findIn K (.ref C) n = some none
theorem look_cons {β : Type} (f g : Str) (y : β) (fs : List (Str × β)) : ((f, y) :: fs).lookup g = if g = f then some y else fs.lookup g := by
  by_cases h : g = f
  · subst h; simp [List.lookup]
  · have e : (g == f) = false := beq_eq_false_iff_ne.mpr h
    rw [if_neg h]; simp [List.lookup, e]
section
variable {K : PySem.W.Frag} {G : Hp}
theorem zip_lookup {n : Str} {d : PyData} : ∀ {fs : List (Str × PyData)} {vs : List V}, DdAll K G vs (fs.map (·.2)) → fs.lookup n = some d → ∃ v, ((fs.map (·.1)).zip vs).lookup n = some v ∧ Dd K G v d
  | [], _, _, h => by cases h
  | (m, e) :: fs, _, .cons (v := v) hv ht, h => by
    rw [look_cons] at h
    show ∃ w, ((m, v) :: (fs.map (·.1)).zip _).lookup n = some w ∧ Dd K G w d
    rw [look_cons]
    by_cases hn : n = m
    · rw [if_pos hn] at h ⊢
      cases h
      exact ⟨v, rfl, hv⟩
    · rw [if_neg hn] at h ⊢
      exact zip_lookup ht h
end
def eGet (tb : List (Str × List Str)) (n : Str) (te : M VD) : M VD := do
  let x ← te
  match x with
  | .ex e => do
    let ns ← ofO (tb.lookup e.1)
    chk (decide (n ∈ ns))
    let d ← ofO (e.2.lookup n)
    pure (.dat d)
  | _ => M.bad
/-- isinstance(e, c): which classes of tb are a c -/
def eIsX (tb : List (Str × List Str)) (isA : Str → Bool) (te : M VD) : M VD := do
  let x ← te
  match x with
  | .ex e => do
    let _ ← ofO (tb.lookup e.1)
    pure (.dat (.bool (isA e.1)))
  | _ => M.bad
def allEx : List VD → Option (List (Str × List (Str × PyData)))
  | [] => some []
  | .ex e :: xs => (allEx xs).map (e :: ·)
  | _ :: _ => none
def eLstX (t : M (List VD)) : M VD := do let xs ← t; let es ← ofO (allEx xs); chk (decide (es.length ≤ 1000)); pure (.exs es)
section
variable {X : Cx} {E : XK} {e a : Expr} {es : List Expr} {pos p : Pos} {tb : List (Str × List Str)} {n : Str}
theorem d_getx {te : M VD} (hT : ClsTb X.K X.mg tb) (he : PD X E e te) (hb : attributeBase e n X.env (eval e X.env) = eval e X.env := by rfl) : PD X E (.Attribute e n pos) (eGet tb n te) := PE.weak (pe_getX he hb) fun σ H Q q => by
  obtain ⟨F, rs, S, G, m, p⟩ := q
  refine ⟨F, rs, S, G, m, (Post.seq p).mono fun v H1 ⟨rs1, S1, G1, x, u1, m1, r1, p1⟩ => ?_⟩
  cases x with
  | ex e =>
    obtain ⟨ns, hns, p2⟩ := Post.ofO p1
    obtain ⟨hc, p3⟩ := Post.chk p2
    obtain ⟨d, hd, p4⟩ := Post.ofO p3
    obtain ⟨a, C, dd, rfl, hm, ha, hf⟩ := r1
    obtain ⟨T, hT⟩ := hT.ok e.1 ns C hns hm
    rcases hf with ⟨_, h0⟩ | ⟨dx, vs, rfl, hx, hv⟩
    · rw [h0] at hd; cases hd
    · obtain ⟨w, hw, rw'⟩ := zip_lookup hv hd
      exact ⟨a, C, dx, _, w, rfl, T, hT n (of_decide_eq_true hc), m1.sub _ _ ha, m1.sub _ _ hx, hw, Post.ret m1 p4 rw'⟩
  | _ => exact p1.elim
theorem d_isX {t : Expr} {ta : M VD} {cv : V} {u : Value} {isA : Str → Bool} (hT : ClsTb X.K X.mg tb) (hk : ∀ (c : Str) (ns : List Str) (C : Addr), tb.lookup c = some ns → X.mg c = some (.ref C) → W.kitOne X.K (.ref C) u = some (isA c)) (hc : ClsV cv u)
    (ha : PD X E a ta) (ht : PE X t (tC cv)) (hm : X.mg "isinstance" = none) (hg : Gl X "isinstance" := by rfl)
    (hs : starEach [a, t] X.env = (false, eval a X.env) :: starEach [t] X.env := by rfl) (hs2 : starEach [t] X.env = (false, eval t X.env) :: starEach [] X.env := by rfl) (hpl : (backTo pos (starEach [t] X.env)).any (·.1) = false := by rfl) :
    PD X E (.Call (.Name "isinstance" p) [a, t] [] pos) (eIsX tb isA ta) := PE.weak (pe_callB call_isX hg hm (by decide +kernel) (pa_cons ha (pa_cons ht pa_nil hs2) hs) (he := hs) (hpl := hpl)) fun σ H Q q => by
  obtain ⟨F, rs, S, G, m, p⟩ := q
  refine ⟨F, rs, S, G, m, (Post.seq p).mono fun v H1 ⟨rs1, S1, G1, x, u1, m1, r1, p1⟩ => ?_⟩
  cases x with
  | ex e =>
    obtain ⟨ns, hns, p2⟩ := Post.ofO p1
    obtain ⟨a, C, dd, rfl, hm', ha, hf⟩ := r1
    refine ⟨a, C, dd, cv, u, isA e.1, rfl, hc, (hT.ok e.1 ns C hns hm').1, m1.sub _ _ ha, ?_, hk e.1 ns C hns hm', Post.ret m1 p2 (.bl _)⟩
    rcases hf with ⟨h0, _⟩ | ⟨dx, vs, h0, hx, _⟩
    · exact .inl h0
    · exact .inr ⟨dx, _, h0, m1.sub _ _ hx⟩
  | _ => exact p1.elim
theorem rdxs_of {rs : List Addr} {G : Hp} : ∀ {xs : List VD} {vs : List V} {es : List (Str × List (Str × PyData))}, RdVs X.K X.wd rs G xs vs → allEx xs = some es → RdXs X.K X.wd G es vs
  | [], [], _, _, h => by cases h; trivial
  | [], _ :: _, _, r, _ => r.elim
  | .ex e :: xs, v :: vs, es, r, h => by
    have h' : (allEx xs).map (e :: ·) = some es := h
    cases q : allEx xs with
    | none => rw [q] at h'; cases h'
    | some es' =>
      rw [q] at h'; cases h'
      exact ⟨r.1, rdxs_of r.2 q⟩
  | .dat _ :: _, _, _, _, h => by cases h
  | .rf _ :: _, _, _, _, h => by cases h
  | .bag _ :: _, _, _, _, h => by cases h
  | .st _ :: _, _, _, _, h => by cases h
  | .exs _ :: _, _, _, _, h => by cases h
  | .oth _ :: _, _, _, _, h => by cases h
  | .ex _ :: _, [], _, r, _ => r.elim
theorem RdXs.length {K : PySem.W.Frag} {wl : Wd} {G : Hp} : ∀ {es : List (Str × List (Str × PyData))} {vs : List V}, RdXs K wl G es vs → es.length = vs.length
  | [], [], _ => rfl
  | _ :: _, _ :: _, h => by simp [RdXs.length h.2]
  | [], _ :: _, h => h.elim
  | _ :: _, [], h => h.elim
theorem d_lstX {t : M (List VD)} (ht : PDA X E es t) : PD X E (.List es pos) (eLstX t) := PE.weak (pe_lst ht) fun σ H Q q => by
  obtain ⟨F, rs, S, G, m, p⟩ := q
  refine ⟨F, rs, S, G, m, (Post.seq p).mono fun vs H1 ⟨rs1, S1, G1, xs, u1, m1, r1, p1⟩ => ?_⟩
  obtain ⟨es', he, p2⟩ := Post.ofO p1
  obtain ⟨hz, p3⟩ := Post.chk p2
  have hx := rdxs_of r1 he
  refine ⟨by rw [← RdXs.length hx]; exact sz1000 (of_decide_eq_true hz), fun q hq => ?_⟩
  have gq : G1 q = none := L2.Same.free m1.sub hq
  exact p3 (.ref q) _ (upd G1 q (.lst vs)) rs1 ⟨⟨[], by simp⟩, same_upd gq⟩ (m1.new hq) ⟨q, vs, rfl, .inl (.inl upd_same), RdXs.same (same_upd gq) hx⟩

/-! ### for over a list of exceptions -/
structure SrcX (K : PySem.W.Frag) (wl : Wd) (J : It) (G0 : Hp) (es : List (Str × List (Str × PyData))) : Prop where
  stop : ∀ (H G : Hp), Same G0 G → Same G H → J.stop es.length H
  go : ∀ (i : Nat) (H G : Hp), i < es.length → Same G0 G → Same G H → J.go i H
  yld : ∀ (i : Nat) (H G : Hp) (x : V) (H' : Hp), i < es.length → Same G0 G → Same G H → J.yld i H x H' → H' = H ∧ ∃ e, es[i]? = some e ∧ RdX K wl G e x
theorem RdXs.get {K : PySem.W.Frag} {wl : Wd} {G : Hp} : ∀ {es : List (Str × List (Str × PyData))} {vs : List V} {i : Nat} {v : V}, RdXs K wl G es vs → vs[i]? = some v → ∃ e, es[i]? = some e ∧ RdX K wl G e v
  | _ :: _, _ :: _, 0, _, h, e => by simp at e; subst e; exact ⟨_, rfl, h.1⟩
  | _ :: _, _ :: _, i + 1, v, h, e => by
    obtain ⟨d, h1, h2⟩ := RdXs.get (i := i) (v := v) h.2 (by simpa using e)
    exact ⟨d, by simpa using h1, h2⟩
  | [], [], _, _, _, e => by simp at e
  | [], _ :: _, _, _, h, _ => h.elim
  | _ :: _, [], _, _, h, _ => h.elim
def srcX (t : M VD) : M (List (Str × List (Str × PyData))) := do
  let x ← t
  match x with
  | .exs es => pure es
  | _ => M.bad
abbrev PDIX (X : Cx) (E : XK) (tg iter : Expr) (src : M (List (Str × List (Str × PyData)))) : Prop := PI X tg iter (lift X.K X.wd X.mg E (fun _ G es J => SrcX X.K X.wd J G es) src)
theorem i_exs {tg l : Expr} {t : M VD} (hl : PD X E l t) : PDIX X E tg l (srcX t) := by
  refine ⟨fun pins s σ H R I h => ?_⟩; obtain ⟨F, rs, S, G, m, p⟩ := h
  refine thn (hl.run pins s σ H _ I ⟨F, rs, S, G, m, Post.seq p⟩) fun v s1 ⟨x, H1, I1, r1, rs1, S1, G1, xd, u1, m1, rx, p1⟩ => ?_
  cases xd with
  | exs es =>
    obtain ⟨a, xs, rfl, hs, hx⟩ := rx
    cases r1
    have hq : SqL X.K H1 a xs := L2.Same.seq m1.sub hs; obtain ⟨its, rv, p', hz⟩ := I1.list hq
    refine wpAny_pyIter_list p'.isList ⟨s1.heap.objs.size, [s1.heap.objs.size], _, Itl X.K a, H1, rfl, I1.kept (t' := s1.toks) fun b o e => Heap.get?_push_of_some _ e, turn_list a _, ⟨_, Heap.get?_push_size _ rfl, rfl, rfl⟩, fun b hb => ?_, ?_⟩
    · obtain rfl : b = s1.heap.objs.size := List.mem_singleton.mp hb; exact I1.fpOk (Nat.le_refl _) (I1.hok.fresh (Nat.le_refl _))
    · refine p1 (Itl X.K a) H1 G1 rs1 Up.refl m1 ⟨fun H G s1 s2 => ⟨xs, L2.Same.seq s2 (L2.Same.seq s1 hs), Nat.le_of_eq (RdXs.length hx).symm⟩, fun i H G hi s1 s2 => ?_, fun i H G x H' hi s1 s2 y => ?_⟩
      · have hi' : i < xs.length := by rw [← RdXs.length hx]; exact hi
        exact ⟨xs, xs[i], L2.Same.seq s2 (L2.Same.seq s1 hs), List.getElem?_eq_getElem hi'⟩
      · obtain ⟨e, y⟩ := y
        obtain ⟨d, h1, h2⟩ := RdXs.get hx (y xs (L2.Same.seq s2 (L2.Same.seq s1 hs)))
        exact ⟨e, d, h1, RdX.same s1 h2⟩
  | _ => exact p1.elim
def forX (g : VD → M Unit) (body : MS) : List (Str × List (Str × PyData)) → MS
  | [] => pure .nx
  | e :: es => do
    let _ ← noX (g (.ex e))
    let f ← body
    match f with
    | .nx => forX g body es
    | .ct => forX g body es
    | .bk => pure .nx
    | .rt x => pure (.rt x)
def sForX (src : M (List (Str × List (Str × PyData)))) (g : VD → M Unit) (body : MS) : MS := do let es ← src; forX g body es
theorem s_forX {tg iter : Expr} {body : List Stmt} {src : M (List (Str × List (Str × PyData)))} {g : VD → M Unit} {t : MS} (hp : PassesOwn (model X.prog X.w) X.A X.env X.xe) (hc : X.calm = true) (hi : PDIX X E tg iter src) {is : List Nat} (hg : PDG X is tg g) (hb : PDSs X E body t)
    (hs : ∀ x, foldedSetIterable iter X.env x = pure x := by intro _; rfl) : PDS X E (.For tg iter body [] pos) (sForX src g t) := PS.weak (ps_for hp hc hi hg hb hs) fun D σ H q => by
  obtain ⟨F, rs, S, G, m, p⟩ := q
  refine ⟨F, rs, S, G, m, (PostS.expr p).mono fun J H1 ⟨rs1, S1, G1, es, u1, m1, r1, p1⟩ => ?_⟩
  refine ⟨fun i n σ' H' => n = es.length - i ∧ i ≤ es.length ∧ ∃ rs2 S2 G2, Up rs1 G1 rs2 G2 ∧ Md X.K X.wd F rs2 S2 σ' H' G2 ∧ PostS X.K X.wd X.mg E F rs2 G2 (forX g t (es.drop i) S2) D, ⟨es.length, by simp, by simp, rs1, S1, G1, Up.refl, m1, by simpa using p1⟩, ?_⟩
  rintro i n σ' H' ⟨rfl, hi, rs2, S2, G2, u2, m2, p2⟩
  by_cases hlt : i < es.length
  · refine .inr ⟨r1.go i H' G2 hlt u2.2 m2.sub, fun σ'' H'' => ∃ rs3 S3 G3, Up rs1 G1 rs3 G3 ∧ Md X.K X.wd F rs3 S3 σ'' H'' G3 ∧ PostS X.K X.wd X.mg E F rs3 G3 (forX g t (es.drop (i + 1)) S3) D,
      fun σ'' H'' ⟨rs3, S3, G3, u3, m3, p3⟩ => ⟨es.length - (i + 1), by omega, rfl, hlt, rs3, S3, G3, u3, m3, p3⟩, fun x H'' y => ?_⟩
    obtain ⟨rfl, d, hd, rd⟩ := r1.yld i H' G2 x H'' hlt u2.2 m2.sub y
    refine ⟨F, rs2, S2, G2, .ex d, m2, rd, ?_⟩
    have hdrop : es.drop i = d :: es.drop (i + 1) := by
      rw [List.drop_eq_getElem_cons hlt]; congr 1
      have z := List.getElem?_eq_getElem hlt
      rw [hd] at z; exact (Option.some.inj z).symm
    rw [hdrop] at p2
    unfold forX at p2
    rw [M.bind_run] at p2
    unfold noX at p2
    cases e : g (.ex d) S2 with
    | exc _ _ => rw [e] at p2; exact p2.elim
    | bad => rw [e] at p2; exact p2.elim
    | ok q =>
      rw [e] at p2
      simp only [R.bind] at p2
      intro σ4 H4 G4 rs4 u4 m4 _
      refine ⟨F, rs4, q.2, G4, m4, ?_⟩
      rw [M.bind_run] at p2
      cases e2 : t q.2 with
      | bad => rw [e2] at p2; exact p2.elim
      | exc x S' =>
        rw [e2] at p2
        exact PostS.up (r := .exc x S') u4 p2
      | ok w =>
        rw [e2] at p2
        obtain ⟨f, S5⟩ := w
        intro σ5 H5 G5 rs5 u5 m5
        have up5 := u4.trans u5
        cases f with
        | nx => exact ⟨rs5, S5, G5, u2.trans up5, m5, PostS.up up5 p2⟩
        | ct => exact ⟨rs5, S5, G5, u2.trans up5, m5, PostS.up up5 p2⟩
        | bk => exact p2 σ5 H5 G5 rs5 up5 m5
        | rt x => exact p2 σ5 H5 G5 rs5 up5 m5
  · have e : i = es.length := by omega
    subst e
    refine .inl ⟨r1.stop H' G2 u2.2 m2.sub, ?_⟩
    rw [List.drop_length] at p2
    exact p2 σ' H' G2 rs2 Up.refl m2
end
end DL
/-! DL15: repr of lists and tuples. -/
namespace DL
open PySem PySem.Spec L2
def reprD (d : PyData) : Option Str := if d.showable && !d.hasDict && decide (d.depth ≤ 100) && decide (d.shown.length ≤ 16777216) then
    match d with
    | .list _ => some d.shown
    | .tuple _ => some d.shown
    | _ => none
  else none
def rRepr (K : PySem.W.Frag) : List V → Hp → VK → Prop := fun xs H Q => ∃ (x : V) (d : PyData) (y : Str), xs = [x] ∧ Dd K H x d ∧ reprD d = some y ∧ Q (.str y) H
theorem reprD_ref {K : PySem.W.Frag} {H : Hp} {x : V} {d : PyData} {y : Str} (h : reprD d = some y) (hd : Dd K H x d) : (∃ a, x = .ref a) ∧ d.showable = true ∧ d.hasDict = false ∧ d.depth ≤ 100 ∧ d.shown.length ≤ 16777216 ∧ y = d.shown := by
  unfold reprD at h
  split at h
  · rename_i c
    simp only [Bool.and_eq_true, decide_eq_true_eq, Bool.not_eq_true'] at c
    refine ⟨?_, c.1.1.1, c.1.1.2, c.1.2, c.2, ?_⟩
    · cases hd with
      | lst _ _ => exact ⟨_, rfl⟩
      | tup _ _ => exact ⟨_, rfl⟩
      | _ => cases h
    · cases hd <;> first | cases h | skip
      all_goals rfl
  · cases h
theorem c_repr {X : Cx} (hgd : X.A.guards = some []) (hu : X.A.units + 200 < cLine) : CallR X (.builtin "repr") (rRepr X.K) := by
  rintro pins s σ H xs us Q I r ⟨x, d, y, rfl, hd, hy, q⟩
  obtain ⟨u, rfl, ru⟩ := vals1 r; obtain ⟨⟨a, rfl⟩, h1, h2, h3, h4, rfl⟩ := reprD_ref hy hd
  cases ru
  obtain ⟨as, rd⟩ := Dd.reads I d (.ref a) (.ref a) hd rfl
  exact repr_of_reads' rd h1 (PyData.noDict_hsm h2) hgd (by omega) (fun _ _ z => z) (fun h' u tk hk => ⟨.str d.shown, H, I.kept (t' := tk) fun b o z => hk b o z, ⟨u, rfl⟩, q⟩) (by rw [sizeLine_eq]; omega)
def eRepr (t : M VD) : M VD := do let x ← t; let d ← peek x; let y ← ofO (reprD d); pure (.dat (.str y))
theorem d_repr {X : Cx} {E : XK} {a : Expr} {pos p : Pos} {ta : M VD} (hgd : X.A.guards = some []) (hu : X.A.units + 200 < cLine) (ha : PD X E a ta) (hm : X.mg "repr" = none) (hg : Gl X "repr" := by rfl)
    (hs : starEach [a] X.env = (false, eval a X.env) :: starEach [] X.env := by rfl) (hpl : (backTo pos (starEach [] X.env)).any (·.1) = false := by rfl) : PD X E (.Call (.Name "repr" p) [a] [] pos) (eRepr ta) := PE.weak (pe_callB (c_repr hgd hu) hg hm (by decide +kernel) (pa_cons ha pa_nil hs) (he := hs) (hpl := hpl)) fun σ H Q q => by
  obtain ⟨F, rs, S, G, m, p⟩ := q
  refine ⟨F, rs, S, G, m, (Post.seq p).mono fun v H1 ⟨rs1, S1, G1, x, u1, m1, r1, p1⟩ => ?_⟩
  obtain ⟨d, hd, p2⟩ := Post.peek p1
  obtain ⟨y, hy, p3⟩ := Post.ofO p2
  exact ⟨v, d, y, rfl, m1.peek r1 hd, hy, Post.ret m1 p3 (.str y)⟩
end DL
/-! DL16: the classes' __init__, from the text. -/
namespace DL
open PySem PySem.Spec L2 EX
/-- the first def of a class of the text -/
def clsInit (s : Stmt) : Stmt := match s with
  | .ClassDef _ _ _ (b :: _) _ _ _ _ _ _ _ => b
  | _ => .Pass ⟨0, 0, 0, 0⟩
/-! ### the base's __init__(self), as RuntimeError.__init__(self) -/
def tBI (K : PySem.W.Frag) (newId : String) (bmB : List Value) (ta : TA) : TE := fun σ H Q => ta σ H fun vs H1 => ∃ a C : Addr, vs = [.ref a] ∧ Xc K C newId bmB ∧ H1 a = some (exo a C none) ∧ Q .non H1
theorem boot_RE : bootBuiltins "RuntimeError" = some (.type "RuntimeError") := by decide +kernel
theorem typ_RE : typeOf (.type "RuntimeError") = pure (.type "type") := by kernel_rfl
open PyProof.Rows in
theorem pe_reinit {X : Cx} {e : Expr} {ta : TA} {p1 p2 pos : Pos} {pl : Sem Bool} (hg : Gl X "RuntimeError") (hm : X.mg "RuntimeError" = none) (vV : PySem.W.findCls X.K (.type "RuntimeError") (.type "type") "__init__" = some (.val (.builtin "RuntimeError.__init__"))) (ha : PA X [e] ta)
    (hc : eval (.Call (.Attribute (.Name "RuntimeError" p1) "__init__" p2) [e] [] pos) X.env = (do let ov ← eval (.Name "RuntimeError" p1) X.env; standAt p2.atName; let (f, first) ← holding [ov] (getMethod ov "__init__" pl); callWith pos f first (backTo pos (starEach [e] X.env)) (backToKw pos (keywordEach [] X.env))) := by rfl)
    (he : starEach [e] X.env = (false, eval e X.env) :: starEach [] X.env := by rfl) (hpl : (backTo pos (starEach [] X.env)).any (·.1) = false := by rfl) :
    PE X (.Call (.Attribute (.Name "RuntimeError" p1) "__init__" p2) [e] [] pos) (tBI X.K "RuntimeError.__new__" [.type "RuntimeError", .type "Exception", .type "BaseException", .type "object"] ta) := by
  refine ⟨fun pins s σ H Q I h => PySem.W.methodCall_KW (ld_blt I hg hm boot_RE ?_ (by decide) (by decide)) hc⟩
  obtain ⟨m, fr⟩ := I.fr
  refine PySem.W.method_type fr I.ok.mod.kin typ_RE (by decide +kernel) vV (by decide +kernel) ?_
  show wpAny _ _ (callWith pos (Value.builtin "RuntimeError.__init__") [] (backTo pos (starEach [e] X.env)) []) _ _ _
  refine PyProof.Rows.callWith_method1 (thn (ha.run pos pins _ σ H _ (I.tok _) h) fun us s1 z => ?_) he hpl
  obtain ⟨vs, H1, I1, r1, a, C, ev, T, ea, q⟩ := z
  subst ev; obtain ⟨u, rfl, ru⟩ := vals1 r1
  cases ru
  exact baseInit (us := []) eb_RE T I1 ea (Nat.zero_le _) fun s' J => ⟨.non, H1, J, rfl, q⟩
theorem ini0 {K : PySem.W.Frag} {C : Addr} (T : Xc K C "RuntimeError.__new__" [.type "RuntimeError", .type "Exception", .type "BaseException", .type "object"]) {vs : List V} {H : Hp} {Q : VK} {E : XK} (h : iniSp C [] vs H Q E) :
    tDrop (tBI K "RuntimeError.__new__" [.type "RuntimeError", .type "Exception", .type "BaseException", .type "object"] (tCons (tVar 0) tNil)) { nx := fun _ H' => Q .non H', rt := Q } (L2.start ["self"] vs) H := by
  obtain ⟨a, ys, rfl, hl, ha, h⟩ := h
  obtain rfl : ys = [] := List.length_eq_zero_iff.mp hl
  rcases h with ⟨_, h⟩ | h
  · exact ⟨.ref a, rfl, a, C, rfl, T, ha, h⟩
  · exact (h.1 rfl).elim
/-! ### how the arguments bind -/
section
variable {P : Program} {w : World} {K : PySem.W.Frag} {mg : Str → Option Value} {base : Heap} {cls n m qual : Str} {st : Stmt} {fI C : Addr} {fd : FuncData}
abbrev initFn (qual : Str) (st : Stmt) (kV doc pm : Value) (an : Option Addr) (cdv ct : Value) : FuncData := PySem.W.fnOf "__init__" qual (defArgs st) (defBody st) (defScope st) .none kV doc pm an cdv ct
theorem mko1 (Fn : Fun K "__init__" qual st fI fd) (hm : mg cls = some (.ref C)) (T : XcE K C) (iC : W.findIn K (.ref C) "__init__" = some (some (.ref fI))) (tI : W.typeIn K (.ref fI) = some (.type "function")) (F1 : FnOk P w K mg base CX0 1 fI fd [("self" : Str), n] (iniSp C [n]))
    (b0 : ∀ (kV doc pm : Value) (an : Option Addr) (cdv ct u v : Value), bindArgs (initFn qual st kV doc pm an cdv ct) ⟨[u, v], []⟩ = pure [(("self" : Str), u), (n, v)])
    (b1 : ∀ (kV doc pm : Value) (an : Option Addr) (cdv ct u v : Value), bindArgs (initFn qual st kV doc pm an cdv ct) ⟨[u], [(n, v)]⟩ = pure [(("self" : Str), u), (n, v)]) : MkO P w K mg base cls [n] := by
  obtain ⟨oc, od, kV, doc, pm, an, cdv, ct, osl, rfl, lk, hcd⟩ := Fn.ex
  refine ⟨⟨C, fI, _, hm, T, iC, tI, F1, ⟨fun s us ws _ l1 l2 => ?_, fun r _ => r⟩, ⟨fun s us ws _ l1 l2 => ?_, fun r r2 => r.append r2⟩, ⟨fun s us ws _ l1 l2 => ?_, fun r r2 => r.append r2.reverse⟩⟩⟩
  · match us, l1 with
    | [u, v], _ => exact .of_eq (b0 _ _ _ _ _ _ u v)
  · match us, l1, ws, l2 with
    | [u], _, [v], _ => exact .of_eq (b1 _ _ _ _ _ _ u v)
  · match us, l1, ws, l2 with
    | [u], _, [v], _ => exact .of_eq (b1 _ _ _ _ _ _ u v)
theorem mko2 (Fn : Fun K "__init__" qual st fI fd) (hm : mg cls = some (.ref C)) (T : XcE K C) (iC : W.findIn K (.ref C) "__init__" = some (some (.ref fI))) (tI : W.typeIn K (.ref fI) = some (.type "function")) (F1 : FnOk P w K mg base CX0 1 fI fd [("self" : Str), n, m] (iniSp C [n, m]))
    (b0 : ∀ (kV doc pm : Value) (an : Option Addr) (cdv ct u v x : Value), bindArgs (initFn qual st kV doc pm an cdv ct) ⟨[u, v, x], []⟩ = pure [(("self" : Str), u), (n, v), (m, x)])
    (b1 : ∀ (kV doc pm : Value) (an : Option Addr) (cdv ct u v x : Value), bindArgs (initFn qual st kV doc pm an cdv ct) ⟨[u], [(n, v), (m, x)]⟩ = pure [(("self" : Str), u), (n, v), (m, x)])
    (b2 : ∀ (kV doc pm : Value) (an : Option Addr) (cdv ct u v x : Value), bindArgs (initFn qual st kV doc pm an cdv ct) ⟨[u], [(m, x), (n, v)]⟩ = pure [(("self" : Str), u), (n, v), (m, x)]) : MkO P w K mg base cls [n, m] := by
  obtain ⟨oc, od, kV, doc, pm, an, cdv, ct, osl, rfl, lk, hcd⟩ := Fn.ex
  refine ⟨⟨C, fI, _, hm, T, iC, tI, F1, ⟨fun s us ws _ l1 l2 => ?_, fun r _ => r⟩, ⟨fun s us ws _ l1 l2 => ?_, fun r r2 => r.append r2⟩, ⟨fun s us ws _ l1 l2 => ?_, fun r r2 => r.append r2.reverse⟩⟩⟩
  · match us, l1 with
    | [u, v, x], _ => exact .of_eq (b0 _ _ _ _ _ _ u v x)
  · match us, l1, ws, l2 with
    | [u], _, [v, x], _ => exact .of_eq (b1 _ _ _ _ _ _ u v x)
  · match us, l1, ws, l2 with
    | [u], _, [x, v], _ => exact .of_eq (b2 _ _ _ _ _ _ u v x)
theorem mko0 (Fn : Fun K "__init__" qual st fI fd) (hm : mg cls = some (.ref C)) (T : XcE K C) (iC : W.findIn K (.ref C) "__init__" = some (some (.ref fI))) (tI : W.typeIn K (.ref fI) = some (.type "function")) (F1 : FnOk P w K mg base CX0 1 fI fd [("self" : Str)] (iniSp C []))
    (b0 : ∀ (kV doc pm : Value) (an : Option Addr) (cdv ct u : Value), bindArgs (initFn qual st kV doc pm an cdv ct) ⟨[u], []⟩ = pure [(("self" : Str), u)]) : MkO P w K mg base cls [] := by
  obtain ⟨oc, od, kV, doc, pm, an, cdv, ct, osl, rfl, lk, hcd⟩ := Fn.ex
  refine ⟨⟨C, fI, _, hm, T, iC, tI, F1, ⟨fun s us ws _ l1 l2 => ?_, fun r _ => r⟩, ⟨fun s us ws _ l1 l2 => ?_, fun r r2 => r.append r2⟩, ⟨fun s us ws _ l1 l2 => ?_, fun r r2 => r.append r2.reverse⟩⟩⟩
  · match us, l1 with
    | [u], _ => exact .of_eq (b0 _ _ _ _ _ _ u)
  · match us, l1, ws, l2 with
    | [u], _, [], _ => exact .of_eq (b0 _ _ _ _ _ _ u)
  · match us, l1, ws, l2 with
    | [u], _, [], _ => exact .of_eq (b0 _ _ _ _ _ _ u)
end
end DL
/-! DL17: isinstance of an exception, by the class's name. -/
namespace DL
open PySem PySem.Spec L2 EX
/-- of the classes of tb, C itself alone is a C -/
def IsO (K : PySem.W.Frag) (mg : Str → Option Value) (tb : List (Str × List Str)) (C : Str) : Prop := ∃ Cc : Addr, mg C = some (.ref Cc) ∧ ∀ (c : Str) (ns : List Str) (D : Addr), tb.lookup c = some ns → mg c = some (.ref D) → W.kitOne K (.ref D) (.ref Cc) = some (decide (c = C))
/-- which of the classes of tb are a T -/
def IsB (K : PySem.W.Frag) (mg : Str → Option Value) (tb : List (Str × List Str)) (isA : Str → Bool) (T : String) : Prop := ∀ (c : Str) (ns : List Str) (D : Addr), tb.lookup c = some ns → mg c = some (.ref D) → W.kitOne K (.ref D) (.type T) = some (isA c)
section
variable {X : Cx} {E : XK} {a : Expr} {pos p pt : Pos} {tb : List (Str × List Str)} {ta : M VD}
theorem d_isO {C : Str} (hT : ClsTb X.K X.mg tb) (hC : IsO X.K X.mg tb C) (ha : PD X E a ta) (hm : X.mg "isinstance" = none) (hg : Gl X "isinstance" := by rfl) (hgC : Gl X C := by rfl) (hdC : (C == ("__debug__" : Str)) = false := by decide)
    (hs : starEach [a, .Name C pt] X.env = (false, eval a X.env) :: starEach [.Name C pt] X.env := by rfl) (hs2 : starEach [.Name C pt] X.env = (false, eval (.Name C pt) X.env) :: starEach [] X.env := by rfl) (hpl : (backTo pos (starEach [.Name C pt] X.env)).any (·.1) = false := by rfl) :
    PD X E (.Call (.Name "isinstance" p) [a, .Name C pt] [] pos) (eIsX tb (fun c => decide (c = C)) ta) := by
  obtain ⟨Cc, hm2, hk⟩ := hC
  exact d_isX hT hk (.own Cc) ha (pe_glob hgC hm2 rfl hdC) hm hg hs hs2 hpl
theorem d_isB {T : Str} {T' : String} {isA : Str → Bool} (hT : ClsTb X.K X.mg tb) (hB : IsB X.K X.mg tb isA T') (hv : bootBuiltins T = some (.type T')) (hmT : X.mg T = none) (ha : PD X E a ta) (hm : X.mg "isinstance" = none) (hg : Gl X "isinstance" := by rfl) (hgC : Gl X T := by rfl) (hn : T ≠ "__name__" := by decide) (hdC : (T == ("__debug__" : Str)) = false := by decide)
    (hs : starEach [a, .Name T pt] X.env = (false, eval a X.env) :: starEach [.Name T pt] X.env := by rfl) (hs2 : starEach [.Name T pt] X.env = (false, eval (.Name T pt) X.env) :: starEach [] X.env := by rfl) (hpl : (backTo pos (starEach [.Name T pt] X.env)).any (·.1) = false := by rfl) :
    PD X E (.Call (.Name "isinstance" p) [a, .Name T pt] [] pos) (eIsX tb isA ta) := d_isX hT hB (.ty T') ha (pe_bltn hgC hmT hv rfl hn hdC) hm hg hs hs2 hpl
end
end DL
/-! DL18: what the written part says of the module's own exception classes, as one check. -/
namespace DL
open PySem PySem.Spec L2 EX
/-- a class: name, fields, its built-in base (0 ValueError, 1 RuntimeError, 2 OverflowError), where it stands -/
abbrev ClsE := Str × List Str × Nat × Addr
def xcB (K : PySem.W.Frag) (C : Addr) (newId : String) (bmB : List Value) : Bool :=
  W.excInitIn K C bmB newId && (W.excOver K C bmB && (W.hasDictIn K C && (decide (W.findIn K (.ref C) "__setattr__" = some (some (.builtin "object.__setattr__"))) && (decide (W.subIn K (.ref C) (.type "BaseException") = some true) && (decide (W.typeIn K (.ref C) = some (.type "type")) && (W.keepIn K (.ref C) &&
  (decide (W.findIn K (.ref C) "__getattribute__" = some (some (.builtin "BaseException.__getattribute__"))) && (decide (W.findIn K (.ref C) "__getattr__" = some none) && (decide (W.findIn K (.ref C) "__class__" = some (some (.builtin "object.__class__"))) &&
  (decide (W.specialIn K (.builtin "object.__class__") "__get__" = some (some (.builtin "getset_descriptor.__get__"))) && (decide (W.takesIn K (.builtin "object.__class__") = some true) && decide (W.mroIn K C (.type "object") = some true))))))))))))
theorem xcB_ok {K : PySem.W.Frag} {C : Addr} {newId : String} {bmB : List Value} (h : xcB K C newId bmB = true) : Xc K C newId bmB := by
  unfold xcB at h; simp only [Bool.and_eq_true, decide_eq_true_eq] at h
  obtain ⟨h1, h2, h3, h4, h5, h6, h7, h8, h9, h10, h11, h12, h13⟩ := h
  exact ⟨h1, h2, h3, h4, h5, h6, h7, h8, h9, h10, h11, h12, h13⟩
def mroOfB : Nat → List Value
  | 0 => [.type "ValueError", .type "Exception", .type "BaseException", .type "object"]
  | 1 => [.type "RuntimeError", .type "Exception", .type "BaseException", .type "object"]
  | _ => [.type "OverflowError", .type "ArithmeticError", .type "Exception", .type "BaseException", .type "object"]
def newOfB : Nat → String
  | 0 => "ValueError.__new__"
  | 1 => "RuntimeError.__new__"
  | _ => "OverflowError.__new__"
theorem xc_of {K : PySem.W.Frag} {C : Addr} {b : Nat} (h : Xc K C (newOfB b) (mroOfB b)) : XcE K C := by
  match b, h with
  | 0, h => exact ⟨_, _, _, _, eb_VE, h⟩
  | 1, h => exact ⟨_, _, _, _, eb_RE, h⟩
  | _ + 2, h => exact ⟨_, _, _, _, eb_OE, h⟩
def clsB (K : PySem.W.Frag) (p : ClsE) : Bool := xcB K p.2.2.2 (newOfB p.2.2.1) (mroOfB p.2.2.1) && p.2.1.all fun n => decide (W.takerIn K p.2.2.2 n = some none) && decide (W.findIn K (.ref p.2.2.2) n = some none)
def clsAll (K : PySem.W.Frag) (cs : List ClsE) : Bool := cs.all (clsB K)
def kitOwn (K : PySem.W.Frag) (cs : List ClsE) : Bool := cs.all fun p => cs.all fun q => decide (W.kitOne K (.ref p.2.2.2) (.ref q.2.2.2) = some (decide (p.1 = q.1)))
def kitBlt (K : PySem.W.Frag) (cs : List ClsE) (isA : Str → Str → Bool) (T : String) : Bool := cs.all fun p => decide (W.kitOne K (.ref p.2.2.2) (.type T) = some (isA T p.1))
def tbOf (cs : List ClsE) : List (Str × List Str) := cs.map fun p => (p.1, p.2.1)
theorem lookup_mem {α β : Type} [BEq α] [LawfulBEq α] {a : α} {b : β} : ∀ {l : List (α × β)}, l.lookup a = some b → (a, b) ∈ l
  | [], h => by cases h
  | (x, y) :: l, h => by
    unfold List.lookup at h
    split at h
    · rename_i e
      cases h
      rw [eq_of_beq e]; exact List.mem_cons_self
    · exact List.mem_cons_of_mem _ (lookup_mem h)
section
variable {K : PySem.W.Frag} {mg : Str → Option Value} {cs : List ClsE}
theorem tb_in (hm : ∀ p ∈ cs, mg p.1 = some (.ref p.2.2.2)) {c : Str} {ns : List Str} {D : Addr} (h : (tbOf cs).lookup c = some ns) (hD : mg c = some (.ref D)) : ∃ p ∈ cs, p.1 = c ∧ p.2.1 = ns ∧ p.2.2.2 = D := by
  obtain ⟨p, hp, e⟩ := List.mem_map.mp (lookup_mem h)
  cases e
  have z := (hm p hp).symm.trans hD
  cases z
  exact ⟨p, hp, rfl, rfl, rfl⟩
theorem xcE_in (h : clsAll K cs = true) {p : ClsE} (hp : p ∈ cs) : XcE K p.2.2.2 ∧ ∀ n ∈ p.2.1, W.takerIn K p.2.2.2 n = some none ∧ W.findIn K (.ref p.2.2.2) n = some none := by
  have z := List.all_eq_true.mp h p hp
  unfold clsB at z
  obtain ⟨z1, z2⟩ := Bool.and_eq_true_iff.mp z
  refine ⟨xc_of (xcB_ok z1), fun n hn => ?_⟩
  have y := List.all_eq_true.mp z2 n hn
  simp only [Bool.and_eq_true, decide_eq_true_eq] at y
  exact y
theorem xc_in (h : clsAll K cs = true) {p : ClsE} (hp : p ∈ cs) : Xc K p.2.2.2 (newOfB p.2.2.1) (mroOfB p.2.2.1) := by
  have z := List.all_eq_true.mp h p hp
  unfold clsB at z
  exact xcB_ok (Bool.and_eq_true_iff.mp z).1
theorem clsTb (h : clsAll K cs = true) (hm : ∀ p ∈ cs, mg p.1 = some (.ref p.2.2.2)) : ClsTb K mg (tbOf cs) := ⟨fun c ns C h1 h2 => by
  obtain ⟨p, hp, rfl, rfl, rfl⟩ := tb_in hm h1 h2
  exact ⟨(xcE_in h hp).1, fun n hn => ((xcE_in h hp).2 n hn).2⟩⟩
theorem isO (h : kitOwn K cs = true) (hm : ∀ p ∈ cs, mg p.1 = some (.ref p.2.2.2)) {q : ClsE} (hq : q ∈ cs) : IsO K mg (tbOf cs) q.1 := ⟨q.2.2.2, hm q hq, fun c ns D h1 h2 => by
  obtain ⟨p, hp, rfl, rfl, rfl⟩ := tb_in hm h1 h2
  exact of_decide_eq_true (List.all_eq_true.mp (List.all_eq_true.mp h p hp) q hq)⟩
theorem isB {isA : Str → Str → Bool} {T : String} (h : kitBlt K cs isA T = true) (hm : ∀ p ∈ cs, mg p.1 = some (.ref p.2.2.2)) : IsB K mg (tbOf cs) (isA T) T := fun c ns D h1 h2 => by
  obtain ⟨p, hp, rfl, rfl, rfl⟩ := tb_in hm h1 h2
  exact of_decide_eq_true (List.all_eq_true.mp h p hp)
end
end DL
/-! DL19: sorted(set), x in set. -/
namespace DL
open PySem PySem.Spec L2
open NS (El keyOf dataOf once leD setHO)
def keysD (ds : List PyData) : List NestedKey := ds.filterMap keyOf
/-- what sorted(set(..)) gives -/
def sortSD (ds : List PyData) : List PyData := ((once (keysD ds)).map dataOf).mergeSort leD
def full (d : PyData) : Bool := match d with
  | .tuple (_ :: _) => true
  | _ => false
def sortB (ds : List PyData) : Bool := (ds.all fun x => ds.all fun y => W.alike x y) && (ds.all full && ds.all fun d => decide (d.depth ≤ 100))
abbrev encE : El → PyData := fun p => dataOf p.2
/-- the elements of a set, by the data that it was made of -/
def SetOf (K : PySem.W.Frag) (H : Hp) (B : List El) (ds : List PyData) : Prop := ∀ p ∈ B, ∃ d, d ∈ ds ∧ keyOf d = some p.2 ∧ p.2.depth ≤ 8 ∧ Dd K H (.ref p.1) d
def rSortS (K : PySem.W.Frag) (w : World) : List V → Hp → VK → Prop := fun xs H Q => ∃ (a : Addr) (B : List El) (ds : List PyData), xs = [.ref a] ∧ H a = some (setHO w a B) ∧ SetOf K H B ds ∧ sortB ds = true ∧
  ∀ q (L : List El), H q = none → L.Perm B → (B.map (·.2)).Nodup → Q (.ref q) (upd H q (.lst ((L.mergeSort (W.dataLe false encE)).map fun p => V.ref p.1)))
section
variable {X : Cx} {E : XK} {e a b : Expr} {es : List Expr} {pos p p1 p2 : Pos}
theorem setN_at {pins : List (Addr × Obj)} {σ : L2.St} {H : Hp} {s : Shared} (I : Inv X pins σ H s) {a : Addr} {B : List El} {ds : List PyData} (h : H a = some (setHO X.w a B)) (hs : SetOf X.K H B ds) : ∃ rows e0 tb, NS.SetN X.prog X.w s.heap a B rows e0 tb := by
  have x : ObjOk X.prog X.w H s.heap a (.ext fun h => NS.SetO0 X.w h a B) := I.hok a _ h
  refine NS.SetO0.full x.1 fun p hp => ?_
  obtain ⟨d, _, q2, q3, q4⟩ := hs p hp
  exact (elt_of I q4 q2 q3).1
theorem vals_of_refs : ∀ L : List El, Vals (L.map fun p => V.ref p.1) (L.map fun p => Value.ref p.1)
  | [] => .nil
  | p :: L => .cons rfl (vals_of_refs L)
theorem c_sortS (hc : X.calm = true) (hu : X.A.units + 200 < cLine) : CallR X (.builtin "sorted") (rSortS X.K X.w) := by
  rintro pins s σ H xs us Q I r ⟨a, B, ds, rfl, ha, hs, hb, q⟩
  obtain ⟨u, rfl, ru⟩ := vals1 r; cases ru
  obtain ⟨rows, e0, tb, Z⟩ := setN_at I ha hs
  unfold sortB at hb
  simp only [Bool.and_eq_true, List.all_eq_true, decide_eq_true_eq] at hb
  obtain ⟨b1, b2, b3⟩ := hb
  have enc : ∀ p ∈ B, encE p ∈ ds ∧ Dd X.K H (.ref p.1) (encE p) ∧ keyOf (encE p) = some p.2 ∧ p.2.depth ≤ 8 := fun p hp => by
    obtain ⟨d, q1, q2, q3, q4⟩ := hs p hp
    have e := NS.data_key d p.2 q2
    show dataOf p.2 ∈ ds ∧ Dd X.K H (.ref p.1) (dataOf p.2) ∧ keyOf (dataOf p.2) = some p.2 ∧ p.2.depth ≤ 8
    rw [e]
    exact ⟨q1, q4, q2, q3⟩
  have few : B.length ≤ sizeLine := by have := Z.few; rw [sizeLine_eq]; omega
  refine NS.sorted_of (enc := encE) Z (I.ok.hd hc) (fun p hp => Dd.reads I _ _ _ (enc p hp).2.1 rfl) (fun p hp as r => (elt_of I (enc p hp).2.1 (enc p hp).2.2.1 (enc p hp).2.2.2).2 as r) ?_ (.inl fun d hd => ?_) (fun p hp => ?_) fun s' l L c k g1 g2 hz pL hl => ?_
  · intro d hd d' hd'
    obtain ⟨p, hp, rfl⟩ := List.mem_map.mp hd
    obtain ⟨p', hp', rfl⟩ := List.mem_map.mp hd'
    exact b1 _ (enc p hp).1 _ (enc p' hp').1
  · obtain ⟨p, hp, rfl⟩ := List.mem_map.mp hd
    have y := b2 _ (enc p hp).1
    unfold full at y
    split at y
    · rename_i x r hx; exact ⟨x, r, hx⟩
    · cases y
  · have y := b3 _ (enc p hp).1
    omega
  · obtain ⟨hp', gs', dr', tk', os'⟩ := s'
    dsimp only at g1 g2 k hl
    have new : ObjOk X.prog X.w (upd H l (.lst ((L.mergeSort (W.dataLe false encE)).map fun p => V.ref p.1))) hp' l (.lst ((L.mergeSort (W.dataLe false encE)).map fun p => V.ref p.1)) :=
      ⟨by rw [List.length_map, List.length_mergeSort, pL.length_eq]; exact few, _, c, vals_of_refs _, hl⟩
    have J : Inv X pins σ (upd H l (.lst ((L.mergeSort (W.dataLe false encE)).map fun p => V.ref p.1))) ⟨hp', gs', dr', tk', os'⟩ := I.call' (ch := []) g2 (Un.laid k hz (I.hok.fresh hz)) (I.hok.laid k hz new) (by rw [g1]; exact I.bare) fun b z => nomatch z
    exact ⟨.ref l, _, J, rfl, q l L (I.hok.fresh hz) pL Z.uni⟩
def eSortS (ta : M VD) : M VD := do
  let x ← ta
  match x with
  | .st ds => do chk (sortB ds); newL (sortSD ds)
  | _ => M.bad
theorem dd_sorted {G : Hp} {L : List El} (h : ∀ p ∈ L, Dd X.K G (.ref p.1) (encE p)) : DdAll X.K G (L.map fun p => V.ref p.1) (L.map encE) := by
  induction L with
  | nil => exact .nil
  | cons p L ih => exact .cons (h p List.mem_cons_self) (ih fun q hq => h q (List.mem_cons_of_mem _ hq))
theorem once_perm {B : List El} {ds : List PyData} (hn : (B.map (·.2)).Nodup) (h1 : ∀ p ∈ B, ∃ d, d ∈ ds ∧ keyOf d = some p.2) (h2 : ∀ d ∈ ds, ∃ k, keyOf d = some k ∧ k ∈ B.map (·.2)) : (B.map (·.2)).Perm (once (keysD ds)) := by
  refine (List.perm_ext_iff_of_nodup hn (NS.once_nodup _)).mpr fun k => ?_
  rw [NS.mem_once]
  unfold keysD
  rw [List.mem_filterMap]
  constructor
  · intro hk
    obtain ⟨p, hp, rfl⟩ := List.mem_map.mp hk
    exact h1 p hp
  · rintro ⟨d, hd, hk⟩
    obtain ⟨k', e, hk'⟩ := h2 d hd
    rw [hk] at e; cases e
    exact hk'
theorem d_sortS {ta : M VD} (hc : X.calm = true) (hu : X.A.units + 200 < cLine) (ha : PD X E a ta) (hm : X.mg "sorted" = none) (hg : Gl X "sorted" := by rfl) (na : starEach [a] X.env = (false, eval a X.env) :: starEach [] X.env := by rfl) (hpl : (backTo pos (starEach [] X.env)).any (·.1) = false := by rfl) :
    PD X E (.Call (.Name "sorted" p) [a] [] pos) (eSortS ta) := PE.weak (pe_callB (c_sortS hc hu) hg hm (by decide +kernel) (pa_cons ha pa_nil na) (he := na) (hpl := hpl)) fun σ H Q q => by
  obtain ⟨F, rs, S, G, m, p⟩ := q
  refine ⟨F, rs, S, G, m, (Post.seq p).mono fun v H1 ⟨rs1, S1, G1, x, u1, m1, r1, p1⟩ => ?_⟩
  cases x with
  | st ds =>
    obtain ⟨hb, p2⟩ := Post.chk p1
    obtain ⟨a, B, rfl, h1, h2, h3⟩ := r1
    refine ⟨a, B, ds, rfl, m1.sub _ _ h1, fun p hp => ?_, hb, fun q L hq pL hn => ?_⟩
    · obtain ⟨d, q1, q2, q3, q4⟩ := h2 p hp
      exact ⟨d, q1, q2, q3, Dd.same m1.sub _ _ q4⟩
    · have enc : ∀ p ∈ B, encE p ∈ ds ∧ Dd X.K G1 (.ref p.1) (encE p) ∧ keyOf (encE p) = some p.2 := fun p hp => by
        obtain ⟨d, q1, q2, q3, q4⟩ := h2 p hp
        show dataOf p.2 ∈ ds ∧ Dd X.K G1 (.ref p.1) (dataOf p.2) ∧ keyOf (dataOf p.2) = some p.2
        rw [NS.data_key d p.2 q2]
        exact ⟨q1, q4, q2⟩
      have big : (L.mergeSort (W.dataLe false encE)).map encE = sortSD ds := by
        rw [W.sort_maps (r := W.dataLe false encE) (s := leD) encE fun _ _ _ _ => rfl]
        have pm : (L.map encE).Perm ((once (keysD ds)).map dataOf) := by
          have y := (once_perm hn (fun p hp => let ⟨d, q1, q2, _⟩ := h2 p hp; ⟨d, q1, q2⟩) h3).map dataOf
          rw [List.map_map] at y
          exact (pL.map encE).trans y
        have inB : ∀ d ∈ L.map encE, d ∈ ds ∧ ∃ k, keyOf d = some k := fun d hd => by
          obtain ⟨p, hp, rfl⟩ := List.mem_map.mp hd
          exact ⟨(enc p (pL.mem_iff.mp hp)).1, _, (enc p (pL.mem_iff.mp hp)).2.2⟩
        have nd : (L.map encE).Nodup := by
          have y : L.Pairwise fun p q => p.2 ≠ q.2 := List.pairwise_map.mp ((pL.map (fun p : El => p.2)).nodup_iff.mpr hn)
          refine List.pairwise_map.mpr (y.imp_of_mem fun {p q} hp hq ne e => ne ?_)
          have z1 := (enc p (pL.mem_iff.mp hp)).2.2
          rw [e, (enc q (pL.mem_iff.mp hq)).2.2] at z1
          exact (Option.some.inj z1).symm
        have hb' := hb
        unfold sortB at hb'
        simp only [Bool.and_eq_true, List.all_eq_true] at hb'
        exact NS.sort_same pm nd (fun d hd => (inB d hd).2) fun d hd d' hd' => hb'.1 _ (inB d hd).1 _ (inB d' hd').1
      rw [← big] at p2
      exact newLst m1 (dd_sorted fun p hp => (enc p (pL.mem_iff.mp (List.mem_mergeSort.mp hp))).2.1) p2 hq
  | _ => exact p1.elim
/-! ### x in set -/
def rInS (K : PySem.W.Frag) (w : World) (f : Bool → Bool) : R2 := fun x y H Q => ∃ (a b : Addr) (B : List El) (ds : List PyData) (d : PyData) (k : NestedKey), x = .ref b ∧ y = .ref a ∧ H a = some (setHO w a B) ∧ SetOf K H B ds ∧ Dd K H (.ref b) d ∧ keyOf d = some k ∧ k.depth ≤ 8 ∧ Q (.bl (f (decide (k ∈ B.map (·.2))))) H
theorem op_inS (hu : X.A.units + 200 < cLine) : OpR X (compareOp .In) (rInS X.K X.w id) := by
  rintro pins s σ H x y v u Q I rx ry ⟨a, b, B, ds, d, k, rfl, rfl, ha, hs, hd, hk, h8, q⟩
  cases rx
  cases ry
  obtain ⟨rows, e0, tb, Z⟩ := setN_at I ha hs
  exact NS.in_of Z (elt_of I hd hk h8).1 (by omega) fun tk => ⟨.bl _, H, I.tok tk, rfl, q⟩
theorem op_notInS (hu : X.A.units + 200 < cLine) : OpR X (compareOp .NotIn) (rInS X.K X.w not) := by
  rintro pins s σ H x y v u Q I rx ry ⟨a, b, B, ds, d, k, rfl, rfl, ha, hs, hd, hk, h8, q⟩
  cases rx
  cases ry
  obtain ⟨rows, e0, tb, Z⟩ := setN_at I ha hs
  exact NS.notIn_of Z (elt_of I hd hk h8).1 (by omega) fun tk => ⟨.bl _, H, I.tok tk, rfl, q⟩
/-- the key of a tuple -/
def tupKey (d : PyData) : Option NestedKey := match d with
  | .tuple _ => match keyOf d with
    | some k => if k.depth ≤ 8 then some k else none
    | none => none
  | _ => none
theorem tupKey_some {d : PyData} {k : NestedKey} (h : tupKey d = some k) : keyOf d = some k ∧ k.depth ≤ 8 ∧ ∃ ds, d = .tuple ds := by
  unfold tupKey at h
  split at h
  · rename_i ds
    split at h
    · rename_i k' e
      split at h
      · rename_i h8; cases h; exact ⟨e, h8, ds, rfl⟩
      · cases h
    · cases h
  · cases h
def eInS (f : Bool → Bool) (ta tb : M VD) : M VD := do
  let x ← ta
  let y ← tb
  match y with
  | .st ds => do
    let d ← peek x
    let k ← ofO (tupKey d)
    pure (.dat (.bool (f (decide (k ∈ keysD ds)))))
  | _ => M.bad
theorem inD_of {op : CmpOp} {f : Bool → Bool} {ta tb : M VD} (ho : OpR X (compareOp op) (rInS X.K X.w f)) (ha : PD X E a ta) (hb : PD X E b tb) (hm : behindInMarks op b = false) : PD X E (.Compare a [op] [b] pos) (eInS f ta tb) := PE.weak (pe_cmpR ho ha hb hm) fun σ H Q q => by
  obtain ⟨F, rs, S, G, m, p⟩ := q
  refine ⟨F, rs, S, G, m, (Post.seq p).mono fun v H1 ⟨rs1, S1, G1, x, u1, m1, r1, p1⟩ => ?_⟩
  refine ⟨F, rs1, S1, G1, m1, (Post.seq p1).mono fun v2 H2 ⟨rs2, S2, G2, y, u2, m2, r2, p2⟩ => ?_⟩
  cases y with
  | st ds =>
    obtain ⟨d, hd, p3⟩ := Post.peek p2
    obtain ⟨k, hk, p4⟩ := Post.ofO p3
    obtain ⟨k1, k8, es, rfl⟩ := tupKey_some hk
    obtain ⟨a, B, rfl, h1, h2, h3⟩ := r2
    have dd := m2.peek (RdV.up u2 r1) hd
    cases dd with
    | @tup b xs _ hs ht =>
      refine ⟨a, b, B, ds, .tuple es, k, rfl, rfl, m2.sub _ _ h1, fun p hp => ?_, .tup hs ht, k1, k8, ?_⟩
      · obtain ⟨d, q1, q2, q3, q4⟩ := h2 p hp
        exact ⟨d, q1, q2, q3, Dd.same m2.sub _ _ q4⟩
      · have e : decide (k ∈ B.map (·.2)) = decide (k ∈ keysD ds) := decide_eq_decide.mpr ⟨fun z => by
          obtain ⟨p, hp, rfl⟩ := List.mem_map.mp z
          obtain ⟨d, q1, q2, _⟩ := h2 p hp
          exact List.mem_filterMap.mpr ⟨d, q1, q2⟩, fun z => by
          obtain ⟨d, q1, q2⟩ := List.mem_filterMap.mp z
          obtain ⟨k', e, hk'⟩ := h3 d q1
          rw [q2] at e; cases e
          exact hk'⟩
        rw [e]
        exact Post.ret m2 p4 (.bl _)
  | _ => exact p2.elim
theorem d_inS {ta tb : M VD} (hu : X.A.units + 200 < cLine) (ha : PD X E a ta) (hb : PD X E b tb) (hm : behindInMarks .In b = false) : PD X E (.Compare a [.In] [b] pos) (eInS id ta tb) := inD_of (op_inS hu) ha hb hm
theorem d_notInS {ta tb : M VD} (hu : X.A.units + 200 < cLine) (ha : PD X E a ta) (hb : PD X E b tb) (hm : behindInMarks .NotIn b = false) : PD X E (.Compare a [.NotIn] [b] pos) (eInS not ta tb) := inD_of (op_notInS hu) ha hb hm
end
end DL
/-! EN1: enumerate of a tuple. -/
namespace EN
open L2 PyProof.Rows PySem PySem.Spec
theorem enumNew {v : Value} {o : Obj} {H : Heap → Prop} (B : Begins v o H) : Meets (Builtin.«enumerate.__new__» ⟨[.type "enumerate", v], []⟩) (fun _ R s => H s.heap ∧
    R (.ok (.ret (.ref (s.heap.push o).objs.size))) { s with heap := (s.heap.push o).push { cls := .type "enumerate", data := .fields #[.none, .bool false, .ref s.heap.objs.size, rawInt 0, .none, .none] } }) :=
  .of_wp fun prog w A R s z => by
    obtain ⟨hp, gs, dr, tk, os⟩ := s; obtain ⟨h1, r⟩ := z
    have below := sub_enumerate
    have it : ∀ {A' : Around} {E : Value → Shared → Prop} {Q : Value → Shared → Prop}, Q (.ref hp.objs.size) ⟨hp.push o, gs, dr, tk, os⟩ → wpAny (model prog w) A' (pyIter v) Q E ⟨hp, gs, dr, tk, os⟩ := fun q => B.iter prog w _ _ ⟨hp, gs, dr, tk, os⟩ _ h1 q
    wp_walk using it; refine wpAny_stack_any fun st => wpAny_pure ?_
    split
    · rename_i c _ _ _ _ _
      cases (c == Value.type "enumerate") <;> (wp_walk using it; exact ⟨_, rfl, r⟩)
    · wp_walk using it; exact ⟨_, rfl, r⟩
theorem enumCall {prog : Program} {w : World} {A : Around} {E : Value → Shared → Prop} {s : Shared} {v : Value} {o : Obj} {H : Heap → Prop} {Q : Value → Shared → Prop} (B : Begins v o H) (h1 : H s.heap)
    (h : ∀ h', IsEnum h' (s.heap.objs.size + 1) s.heap.objs.size 0 .none → h'.get? s.heap.objs.size = some o → (∀ b u, s.heap.get? b = some u → h'.get? b = some u) → Q (.ref (s.heap.objs.size + 1)) { s with heap := h' }) : wpAny (model prog w) A (call (.type "enumerate") [v]) Q E s := by
  refine callType_new F.called_enumerate (by decide) (F.typeCall_enumerate_1 _) (F.newCall_enumerate_1 _) (fun obj => F.args_object_init_2 obj _) F.entry_enumerate_new (enumNew B) ⟨h1, ?_⟩
  have sz : (s.heap.push o).objs.size = s.heap.objs.size + 1 := Heap.size_push ..
  have at_e := Heap.get?_push_size (s.heap.push o) (o := { cls := .type "enumerate", data := .fields #[.none, .bool false, .ref s.heap.objs.size, rawInt 0, .none, .none] }) rfl
  rw [sz] at at_e
  show _ ∧ _
  rw [sz]
  exact ⟨⟨_, at_e, rfl⟩, h _ at_e (Heap.get?_push_of_some _ (Heap.get?_push_size _ B.free)) fun b u x => Heap.get?_push_of_some _ (Heap.get?_push_of_some _ x)⟩
/-- the tuple at a, each item in a new pair -/
def ItT (K : PySem.W.Frag) (a : Addr) : It :=
  ⟨fun i H => ∃ (xs : List V) (x : V), SqT K H a xs ∧ xs[i]? = some x, fun i H v H' => ∃ T x its, v = .ref T ∧ H T = none ∧ H' = upd H T (TN.hT its [.int (i : Nat), x]) ∧ ∀ xs, SqT K H a xs → xs[i]? = some x, fun i H => ∃ xs : List V, SqT K H a xs ∧ xs.length = i⟩
theorem turnT {P : Program} {w : World} {K : PySem.W.Frag} {elts : List Expr} {kk : Nat} {tpos : Pos} (a e it : Addr) :
    Turn P w K (.Tuple elts kk tpos) (ItT K a) [e, it] e (fun i h => (∃ old, IsEnum h e it ((i : Nat) : Int) old) ∧ h.IsTupleIter it a i ∧ e ≠ it ∧ a ≠ it ∧ a ≠ e) where
  mem := by simp
  obj := fun i h st b hb => by
    obtain ⟨⟨was, he⟩, ⟨o, ho, hc, hd⟩, _⟩ := st
    rcases List.mem_cons.1 hb with y | y
    · subst y; exact ⟨_, he, fun v q => nomatch q⟩
    · obtain rfl := List.mem_singleton.mp y
      exact ⟨o, ho, fun v q => by rw [hd] at q; cases q⟩
  keep := fun i h h2 st k => let ⟨⟨was, he⟩, hi, hne⟩ := st; ⟨⟨was, k e (by simp) _ he⟩, hi.at fun o q => k it (by simp) o q, hne⟩
  item := by
    intro X hP hw hK hc i pins s σ H E I hf st hg; subst hP hw hK
    obtain ⟨⟨old, he⟩, hit, hne, hai, hae⟩ := st
    obtain ⟨xs, x, hq, hx⟩ := hg; obtain ⟨its, rv, p, hz⟩ := I.tuple hq; obtain ⟨u, hu, ru⟩ := rv.get hx
    have lt_e : e < s.heap.objs.size := Heap.lt_size he
    have lt_it : it < s.heap.objs.size := by obtain ⟨_, q, _⟩ := hit; exact Heap.lt_size q
    have hlen : i < its.toArray.size := by rw [List.size_toArray]; exact (List.getElem?_eq_some_iff.mp hu).1
    have hn : X.A.in1.handled = none := I.ok.hd hc
    refine wpAny_pyNext_enum_itemD (Draws.tuple hn it a hai its.toArray) he ⟨hit, p⟩ hlen hne (by simp [hne, Ne.symm hae]) fun y h' tk hy ho st2 hT hsz hk => ?_
    have ey : y = u := by
      have q : its.toArray[i]? = some u := by simpa using hu
      rw [q] at hy; exact (Option.some.inj hy).symm
    subst ey
    refine ⟨_, rfl, wpAny_letOwnedTupleGo_enum (s := { s with heap := h', toks := tk + 1 }) ho fun h'' he' sb => ?_⟩
    have hT2 : h''.get? s.heap.objs.size = some { cls := .type "tuple", data := .seq #[.int i tk, y] } := (sb.2 _ (Nat.ne_of_gt lt_e)).trans hT; have new : ObjOk X.prog X.w (upd H s.heap.objs.size (TN.hT [.int i tk, y] [.int (i : Nat), x])) h'' s.heap.objs.size (TN.hT [.int i tk, y] [.int (i : Nat), x]) :=
      ⟨hT2, by show 2 ≤ sizeLine; decide, [.int i tk, y], .cons ⟨_, rfl⟩ (.cons ru .nil), ⟨_, hT2, rfl, _, rfl⟩⟩
    have J : Inv X pins σ (upd H s.heap.objs.size (TN.hT [.int i tk, y] [.int (i : Nat), x])) { s with heap := h'', toks := tk + 1 } :=
      I.turnedNew (ch := [e, it]) (fun b ob nb q => (sb.2 b (fun z => nb (by simp [z]))).trans (hk b ob (fun z => nb (by simp [z])) (fun z => nb (by simp [z])) q)) hf (Nat.le_refl _) new
    refine ⟨.ref s.heap.objs.size, _, J, rfl, ⟨_, x, _, rfl, I.hok.fresh (Nat.le_refl _), rfl, fun ys hy => by rw [I.tuple_inj hy hq]; exact hx⟩, ⟨⟨y, ?_⟩, st2.1.at fun o q => (sb.2 it (Ne.symm hne)).trans q, hne, hai, hae⟩, fun b hb => ?_⟩
    · rw [show ((i + 1 : Nat) : Int) = (i : Int) + 1 by omega]; exact he'
    · have lb : b < s.heap.objs.size := by
        rcases List.mem_cons.1 hb with y | y
        · rw [y]; exact lt_e
        · rw [List.mem_singleton.mp y]; exact lt_it
      rw [upd_ne (Nat.ne_of_lt lb)]
      exact (hf b hb).1
  done := by
    intro X hP hw hK hc i pins s σ H E I hf st hg; subst hP hw hK
    obtain ⟨⟨old, he⟩, hit, hne, hai, hae⟩ := st
    obtain ⟨xs, hq, hx⟩ := hg; obtain ⟨its, rv, p, hz⟩ := I.tuple hq; obtain ⟨f0, f1, f2, f3, f4, f5⟩ := hf it (by simp)
    have hl : its.toArray.size = i := by rw [List.size_toArray, ← rv.length]; exact hx
    have hn : X.A.in1.handled = none := I.ok.hd hc
    exact wpAny_pyNext_enum_endD (Draws.tuple hn it a hai its.toArray) he ⟨hl ▸ hit, p⟩ fun h' eb => ⟨rfl, I.turned (t' := s.toks) (fun b o hb q => eb b o hb q) f0 f1 f3 f4 f5⟩
  self := fun A i s Q E st q => let ⟨⟨_, he⟩, _⟩ := st; wpAny_pyIter_enum he q
def iEnT (K : PySem.W.Frag) (ta : TA) : TI := fun σ H R => ta σ H fun vs H1 => ∃ a xs, vs = [.ref a] ∧ SqT K H1 a xs ∧ R (ItT K a) H1
theorem pi_enT {X : Cx} {e : Expr} {ta : TA} {p pos tpos : Pos} {elts : List Expr} {kk : Nat} (hg : Gl X "enumerate") (hm : X.mg "enumerate" = none) (ha : PA X [e] ta) (hs : starEach [e] X.env = [(false, eval e X.env)] := by rfl) :
    PI X (.Tuple elts kk tpos) (.Call (.Name "enumerate" p) [e] [] pos) (iEnT X.K ta) := by
  refine ⟨fun pins s σ H R I h => Call_ (ld_blt I hg hm boot_enumerate (PyProof.Rows.callWith_type1 (thn (ha.run pos pins s σ H _ I h) fun us s1 z => ?_) hs rfl))⟩
  obtain ⟨vs, H1, I1, r1, a, xs, rfl, hq, q⟩ := z; obtain ⟨u, rfl, ru⟩ := vals1 r1
  cases ru
  obtain ⟨its, rv, p', hz⟩ := I1.tuple hq
  have la : a < s1.heap.objs.size := by obtain ⟨o, ho, _⟩ := p'; exact Heap.lt_size ho
  refine enumCall (begins_tuple a its.toArray) p' fun h' he ho hk => wpAny_pyIter_enum he ?_
  have J : Inv X pins σ H1 { s1 with heap := h' } := I1.kept (t' := s1.toks) hk
  refine ⟨s1.heap.objs.size + 1, [s1.heap.objs.size + 1, s1.heap.objs.size], _, _, H1, rfl, J, turnT a (s1.heap.objs.size + 1) s1.heap.objs.size, ⟨⟨.none, he⟩, ⟨_, ho, rfl, rfl⟩, Nat.succ_ne_self _, Nat.ne_of_lt la, Nat.ne_of_lt (Nat.lt_succ_of_lt la)⟩, fun b hb => ?_, q⟩; have hle : s1.heap.objs.size ≤ b := by
    rcases List.mem_cons.1 hb with y | y
    · rw [y]; exact Nat.le_succ _
    · rw [List.mem_singleton.mp y]; exact Nat.le_refl _
  exact I1.fpOk hle (L2.HOk.fresh I1.hok hle)
end EN
/-! DL20: for .. in enumerate(x). -/
namespace DL
open PySem PySem.Spec L2 EN
/-- the pairs of enumerate -/
def enD (ds : List PyData) : List PyData := ds.zipIdx.map fun p => .tuple [.int p.2, p.1]
theorem enD_get {ds : List PyData} {i : Nat} {d : PyData} (h : ds[i]? = some d) : (enD ds)[i]? = some (.tuple [.int i, d]) := by
  unfold enD
  rw [List.getElem?_map, List.getElem?_zipIdx, h]
  simp
theorem enD_len {ds : List PyData} : (enD ds).length = ds.length := by simp [enD]
def srcEnumT (t : M VD) : M (List PyData) := do
  let x ← t
  match x with
  | .dat (.tuple ds) => pure (enD ds)
  | _ => M.bad
section
variable {X : Cx} {E : XK} {e : Expr} {p pos tpos : Pos} {elts : List Expr} {kk : Nat}
theorem i_enumT {t : M VD} (hm : X.mg "enumerate" = none) (he : PD X E e t) (hg : Gl X "enumerate" := by rfl) (hs : starEach [e] X.env = [(false, eval e X.env)] := by rfl) : PDI X E (.Tuple elts kk tpos) (.Call (.Name "enumerate" p) [e] [] pos) (srcEnumT t) :=
  PI.weak (pi_enT hg hm (pa_cons he pa_nil (by rw [hs]; rfl)) hs) fun σ H R q => by
  obtain ⟨F, rs, S, G, m, p⟩ := q
  refine ⟨F, rs, S, G, m, (Post.seq p).mono fun v H1 ⟨rs1, S1, G1, x, u1, m1, r1, p1⟩ => ?_⟩
  cases x with
  | dat d =>
    cases d with
    | tuple ds =>
      cases (show Dd X.K G1 v (.tuple ds) from r1) with
      | @tup a xs _ hs ha =>
        refine ⟨a, xs, rfl, (TN.SqN.same m1.sub hs).sqt, p1 (ItT X.K a) H1 G1 rs1 Up.refl m1 ⟨fun H G s1 s2 => ⟨xs, Same.sqt s2 (Same.sqt s1 hs.sqt), by rw [enD_len]; exact DdAll.length ha⟩, fun i H G hi s1 s2 => ?_, fun i H G x H' hi s1 s2 y => ?_⟩⟩
        · rw [enD_len] at hi
          have hi' : i < xs.length := by rw [DdAll.length ha]; exact hi
          exact ⟨xs, xs[i], Same.sqt s2 (Same.sqt s1 hs.sqt), List.getElem?_eq_getElem hi'⟩
        · obtain ⟨T, w, its, rfl, hT, rfl, y⟩ := y
          obtain ⟨d, h1, h2⟩ := DdAll.get ha (y xs (Same.sqt s2 (Same.sqt s1 hs.sqt)))
          have gT := L2.Same.free s2 hT
          exact ⟨_, enD_get h1, .inr ⟨T, _, hT, rfl, .tup (TN.SqN.of upd_same) (.cons (.int _) (.cons (Dd.same (L2.Same.trans s1 (same_upd gT)) _ _ h2) .nil))⟩⟩
    | _ => exact p1.elim
  | _ => exact p1.elim
end
end DL
/-! EX6: such an exception made to be raised. -/
namespace EX
open L2 PyProof.Rows PySem PySem.Spec
def tMkR (C : Addr) (n : Nat) (sp : Sp) (gV : List V → List V → List V) (t : TA) : L2.St → Hp → XK → Prop := fun σ H Q => t σ H fun vs H1 => vs.length = n ∧ n ≤ 1000 ∧ ∀ a, H1 a = none → sp (gV (.ref a :: vs) []) (upd H1 a (exo a C none)) (fun v H2 => v = .non ∧ ∃ (d : Addr) (fs : List (Str × V)), H2 a = some (exo a C (some d)) ∧ H2 d = some (exd d fs) ∧ H1 d = none ∧ Q (.ref C) (some d) (upd (del H2 a) d (.xd fs))) (fun _ _ _ => False)
theorem pmk_X {X : Cx} {e : Expr} {es : List Expr} {t : TA} {p pos : Pos} {CX : CXT} {k n : Nat} {fI C : Addr} {fd : FuncData} {ps : List Str} {sp : Sp} {x : Str} {g : List Value → List Value → List Value} {gV : List V → List V → List V}
    (T : XcE X.K C) (iC : W.findIn X.K (.ref C) "__init__" = some (some (.ref fI))) (tI : W.typeIn X.K (.ref fI) = some (.type "function")) (F1 : FnOk X.prog X.w X.K X.mg X.base CX k fI fd ps sp) (hr : Room (k + 1) X.A) (hb : KBn X.K fd ps (n + 1) [] g gV) (hx : Passes CX X (fun _ _ _ => False))
    (hg : Gl X x) (hm : X.mg x = some (.ref C)) (ha : PA X (e :: es) t) (hdb : (x == ("__debug__" : Str)) = false := by decide) (he : starEach (e :: es) X.env = (false, eval e X.env) :: starEach es X.env := by rfl) (hpl : (backTo pos (starEach es X.env)).any (·.1) = false := by rfl) :
    PMk X (.Call (.Name x p) (e :: es) [] pos) (tMkR C n sp gV t) := by
  intro pins s σ H Q I h
  obtain ⟨B, nI, iI, bmB, b, T⟩ := T
  refine wpAny_Call_Name_kw (ld_glob I hg hm (W.callWith_K (h₀ := X.base) I.ok.mod.kin T.kC (thn (ha.run pos pins s σ H _ I h) fun us s1 z => ?_) he hpl) hdb)
  obtain ⟨vs, H1, I1, r1, l1, ln, q1⟩ := z
  refine ⟨I1.kIn, ?_⟩
  obtain ⟨nm, N', qn, bs, bm, hdct, sn, sub, ab, col, dd, k0, k1, k2, k3, k5, hC, hT⟩ := W.excInit_of I1.kIn T.ini
  obtain ⟨hp, g0, dr, tk, os⟩ := s1
  have q := q1 (hp.objs.size + 1) (I1.hok.fresh (Nat.le_succ _))
  have keep : ∀ c ob, hp.get? c = some ob → ((hp.push (W.kdv_tup us)).push (exO C hp.objs.size)).get? c = some ob := fun c ob z => Heap.get?_push_of_some _ (Heap.get?_push_of_some _ z)
  have there : ((hp.push (W.kdv_tup us)).push (exO C hp.objs.size)).get? (hp.objs.size + 1) = some (exO C hp.objs.size) := by heap_get
  have J := I1.laid (t' := tk) (a := hp.objs.size + 1) (o := exo (hp.objs.size + 1) C none) keep (Nat.le_succ _) (exo_ok there)
  have rs : Vals (V.ref (hp.objs.size + 1) :: vs) (Value.ref (hp.objs.size + 1) :: us) := .cons rfl r1
  have lu : us.length = n := r1.length.symm.trans l1
  have bt := hb.to ⟨(hp.push (W.kdv_tup us)).push (exO C hp.objs.size), g0, dr, tk, os⟩ (Value.ref (hp.objs.size + 1) :: us) [] J.kIn (rs.length.symm.trans (congrArg Nat.succ l1)) rfl; show wpAny _ _ (call (.ref C) us) _ _ _
  refine wpAny_call (callKw b.base hT hC (W.looks_findIn I1.kIn iC) (fun self => W.bind_fn I1.kIn self tI) (by rw [lu, sizeLine_eq]; omega) (codeAny_mono (F1.run _ X.stack _ _ ⟨Value.ref (hp.objs.size + 1) :: us, []⟩ _ _ _ _ (hr.make C us []) (J.env0.make C us []) bt (hb.rel rs .nil) q) fun res s' z => ?_))
  match res, z with
  | .error er, z => exact hx pins σ _ _ er s' J z
  | .ok (.ret u), ⟨v, H2, os2, bare2, un2, hok2, rv, ev, d, fs, ea, ed, hd1, q2⟩ =>
    subst ev; obtain ⟨h2, g2, d2, t2, os'⟩ := s'
    exact ⟨rv, mk_end (raises_own T.exC T.tyC) I1 (Nat.le_succ _) keep un2 hok2 os2 bare2 ea ed hd1 q2⟩
  | .ok .next, z => exact z.elim
  | .ok .brk, z => exact z.elim
  | .ok .cont, z => exact z.elim
end EX
/-! DL21: raise of an own exception with fields. -/
namespace DL
open PySem PySem.Spec L2 EX
/-- raise cls(..): the fields newest first -/
def eRaise (cls : Str) (names : List Str) (t : M (List VD)) : M VD := do
  let xs ← t
  let ds ← toDs xs
  chk (decide (ds.length = names.length))
  fun S => .exc ⟨cls, names.reverse.zip ds.reverse⟩ S
def sRaise (cls : Str) (names : List Str) (t : M (List VD)) : MS := do let _ ← eRaise cls names t; pure .nx
section
variable {K : PySem.W.Frag} {wl : Wd} {F : Hp} {rs : List Addr} {S : DS} {σ : L2.St} {H G : Hp}
theorem Md.noSl {ce : List Cl} {sl : List (Option VD)} (m : Md K wl F rs ⟨sl, ce⟩ σ H G) : Md K wl F rs ⟨[], ce⟩ [] H G := m.cells
theorem raiseNew {mg : Str → Option Value} {E : XK} {cls : Str} {names : List Str} {C : Addr} {vs : List V} {ds : List PyData} (m : Md K wl F rs S σ H G) (hm : mg cls = some (.ref C)) (hd : DdAll K G vs ds) (hl : ds.length = names.length) (hn : names ≠ [])
    (h : ∀ (C dx : Addr) (ws : List V) (H' G' : Hp) (rs' : List Addr), Up rs G rs' G' → Md K wl F rs' ⟨[], S.ce⟩ [] H' G' → mg cls = some (.ref C) → H' dx = some (.xd (((names.reverse.zip ds.reverse).map (·.1)).zip ws)) → DdAll K G' ws ((names.reverse.zip ds.reverse).map (·.2)) → E (.ref C) (some dx) H')
    {a : Addr} (ha : H a = none) : iniSp C names (.ref a :: vs) (upd H a (exo a C none)) (fun v H2 => v = .non ∧ ∃ (d : Addr) (fs : List (Str × V)), H2 a = some (exo a C (some d)) ∧ H2 d = some (exd d fs) ∧ H d = none ∧ E (.ref C) (some d) (upd (del H2 a) d (.xd fs))) (fun _ _ _ => False) := by
  have hvl : vs.length = names.length := (DdAll.length hd).trans hl
  refine ⟨a, vs, rfl, hvl, upd_same, .inr ⟨hn, fun dx hx ne => ?_⟩⟩
  have hx' : H dx = none := by rw [upd_ne ne] at hx; exact hx
  have e1 : mkH (upd H a (exo a C none)) a C dx (names.reverse.zip vs.reverse) a = some (exo a C (some dx)) := upd_same
  have e2 : mkH (upd H a (exo a C none)) a C dx (names.reverse.zip vs.reverse) dx = some (exd dx (names.reverse.zip vs.reverse)) := (upd_ne ne).trans upd_same
  have e3 : upd (del (mkH (upd H a (exo a C none)) a C dx (names.reverse.zip vs.reverse)) a) dx (.xd (names.reverse.zip vs.reverse)) = upd H dx (.xd (names.reverse.zip vs.reverse)) := by
    funext b
    by_cases h1 : b = dx
    · subst h1; rw [upd_same, upd_same]
    · rw [upd_ne h1, upd_ne h1]
      by_cases h2 : b = a
      · subst h2; rw [del_same, ha]
      · unfold mkH
        rw [del_ne h2, upd_ne h2, upd_ne h1, upd_ne h2]
  have l1 : names.reverse.length = ds.reverse.length := by simp [hl]
  have gx := L2.Same.free m.sub hx'
  refine ⟨rfl, dx, _, e1, e2, hx', ?_⟩
  rw [e3]
  have m1 := (m.new (o := .xd (names.reverse.zip vs.reverse)) hx').cells
  refine h C dx vs.reverse _ (upd G dx (.xd (names.reverse.zip vs.reverse))) rs ⟨⟨[], by simp⟩, same_upd gx⟩ m1 hm ?_ ?_
  · rw [show (names.reverse.zip ds.reverse).map (·.1) = names.reverse from List.map_fst_zip (Nat.le_of_eq l1)]
    exact upd_same
  · rw [show (names.reverse.zip ds.reverse).map (·.2) = ds.reverse from List.map_snd_zip (Nat.le_of_eq l1.symm)]
    exact DdAll.same (same_upd gx) _ _ (DdAll.reverse hd)
end
section
variable {X : Cx} {E : XK} {e : Expr} {es : List Expr} {pos pos' p : Pos} {x : Str} {names : List Str}
theorem s_raise {t : M (List VD)} (hc : X.calm = true) (tk : Takes X (fun cls d _ H => E cls d H)) (hh : MkO X.prog X.w X.K X.mg X.base x names) (hr : Room 2 X.A) (hl : names.length ≤ 1000) (hn : names ≠ []) (hg : Gl X x) (ht : PDA X E (e :: es) t) (hdb : (x == ("__debug__" : Str)) = false := by decide)
    (he : starEach (e :: es) X.env = (false, eval e X.env) :: starEach es X.env := by rfl) (hpl : (backTo pos (starEach es X.env)).any (·.1) = false := by rfl) : PDS X E (.Raise (some (.Call (.Name x p) (e :: es) [] pos)) none pos') (sRaise x names t) := by
  obtain ⟨C, fI, fd, hm, T, h1, h2, h3, h4, _, _⟩ := hh.ex
  refine PS.weak (ps_raise hc tk (pmk_X (n := names.length) T h1 h2 h3 hr h4 (fun _ _ _ _ _ _ _ z => z.elim) hg hm ht hdb he hpl)) fun D σ H q => ?_
  obtain ⟨F, rs, S, G, m, p⟩ := q
  have p0 := PostS.expr (σ := σ) (Rel := RdV X.K X.wd) p
  refine ⟨F, rs, S, G, m, (Post.seq p0).mono fun vs H1 ⟨rs1, S1, G1, xs, u1, m1, r1, p1⟩ => ?_⟩
  obtain ⟨ds, S2, G2, sg, m2, rd, p2⟩ := m1.toDs r1 p1
  obtain ⟨hz, p3⟩ := Post.chk p2
  have hz' := of_decide_eq_true hz
  exact ⟨(DdAll.length rd).trans hz', hl, fun a ha => raiseNew m2 hm rd hz' hn p3 ha⟩
/-- a constant of the module, a number -/
theorem d_globI {i : Int} {n : Str} {pn : Pos} (h : ∃ t, X.mg n = some (.int i t)) (hg : Gl X n := by rfl) (hd : (n == ("__debug__" : Str)) = false := by decide) : PD X E (.Name n pn) (eC (.int i)) := by
  obtain ⟨t, h⟩ := h
  exact d_c (pe_glob (v := .int i) hg h ⟨t, rfl⟩ hd) fun _ => .int i
end
end DL
/-! DL22: {}. -/
namespace DL
open PySem PySem.Spec L2
section
variable {X : Cx} {E : XK} {pos : Pos}
theorem d_dic0 : PD X E (.Dict [] [] pos) (eC (.dict [])) := PE.weak pe_dnewK fun σ H Q q => by
  obtain ⟨F, rs, S, G, m, p⟩ := q
  intro q hq
  have gq := L2.Same.free m.sub hq
  exact p (.ref q) _ (upd G q (.dK [])) rs ⟨⟨[], by simp⟩, same_upd gq⟩ (m.new hq) (.dic upd_same)
end
end DL
/-! DL23: written constants in one step. -/
namespace DL
open PySem PySem.Spec L2
def isStar : Expr → Bool
  | .Starred _ _ => true
  | _ => false
theorem star_cons {e : Expr} {es : List Expr} {env : Env} (h : isStar e = false) : starEach (e :: es) env = (false, eval e env) :: starEach es env := by
  cases e <;> first | rfl | cases h
theorem star_nil {env : Env} : starEach [] env = [] := rfl
theorem star_one {e : Expr} {env : Env} (h : isStar e = false) : starEach [e] env = [(false, eval e env)] := star_cons h
theorem swaps_list {es : List Expr} {p : Pos} {t : Option Expr} {l : Nat} {env : Env} : swapsWith (.List es p) t l env = pure false := rfl
/-- the data of a written constant -/
def constA : Expr → Option PyData
  | .Constant .none _ _ => (some .none)
  | .Constant (.bool b) _ _ => (some (.bool b))
  | .Constant (.int i) _ _ => (some (.int i))
  | .Constant (.str x) _ _ => (some (.str x))
  | .UnaryOp .USub (.Constant (.int i) _ _) _ => (some (.int (-i)))
  | .BinOp (.Constant (.int i) _ _) .Pow (.Constant (.int j) _ _) _ => fPow (.int i) (.int j)
  | .Dict [] [] _ => some (.dict [])
  | _ => none
mutual
def constD : Expr → Option PyData
  | .Tuple es _ _ => match constDs es with
    | some ds => if ds.length ≤ 1000 then some (.tuple ds) else none
    | none => none
  | .List es _ => match constDs es with
    | some ds => if ds.length ≤ 1000 then some (.list ds) else none
    | none => none
  | e => constA e
def constDs : List Expr → Option (List PyData)
  | [] => some []
  | e :: es => match isStar e, constD e, constDs es with
    | false, some d, some ds => some (d :: ds)
    | _, _, _ => none
end
section
variable {X : Cx} {E : XK}
theorem eC_run {d : PyData} {S : DS} : eC d S = .ok (.dat d, S) := rfl
theorem d_constA {e : Expr} {d : PyData} (h : constA e = some d) : PD X E e (eC d) := by
  unfold constA at h
  split at h
  · cases h; exact d_non
  · cases h; exact d_bl
  · cases h; exact d_int
  · cases h; exact d_str
  · cases h
    exact PE.weak (d_neg d_int) fun σ H Q q => q
  · rename_i i a b j c d' p
    exact PE.weak (d_op o_pow d_int d_int) fun σ H Q q => by
      obtain ⟨F, rs, S, G, m, pp⟩ := q
      refine ⟨F, rs, S, G, m, ?_⟩
      have e1 : eOp fPow (eC (.int i)) (eC (.int j)) S = eC d S := by
        show (do let r ← ofO (fPow (.int i) (.int j)); scal r : M VD) S = _
        rw [h]
        show scal d S = eC d S
        have : ∃ k, d = .int k := by
          simp only [fPow, fI] at h
          split at h <;> first | exact ⟨_, (Option.some.inj h).symm⟩ | cases h
        obtain ⟨k, rfl⟩ := this
        rfl
      rw [e1]; exact pp
  · cases h; exact d_dic0
  · cases h
/-- several constants -/
def aCs (ds : List PyData) : M (List VD) := pure (ds.map .dat)
theorem toDs_dat : ∀ (ds : List PyData) (S : DS), toDs (ds.map .dat) S = .ok (ds, S)
  | [], _ => rfl
  | d :: ds, S => by
    show (((pure d : M PyData) >>= fun d => toDs (ds.map .dat) >>= fun ds => pure (d :: ds)) : M (List PyData)) S = _
    rw [M.bind_run]
    show (toDs (ds.map .dat) >>= fun ds => pure (d :: ds)) S = _
    rw [M.bind_run, toDs_dat ds S]
    rfl
theorem rdvs_dat {K : PySem.W.Frag} {wl : Wd} {rs : List Addr} {G : Hp} : ∀ {ds : List PyData} {vs : List V}, RdVs K wl rs G (ds.map .dat) vs → DdAll K G vs ds
  | [], [], _ => .nil
  | [], _ :: _, h => h.elim
  | _ :: _, [], h => h.elim
  | _ :: _, _ :: _, h => .cons h.1 (rdvs_dat h.2)
mutual
theorem d_const : ∀ (e : Expr) {d : PyData}, constD e = some d → PD X E e (eC d)
  | .Tuple es k pos, d, h => by
    unfold constD at h
    split at h
    · rename_i ds hds
      split at h
      · rename_i hl
        cases h
        refine PE.weak (d_tup (d_consts es hds)) fun σ H Q q => ?_
        obtain ⟨F, rs, S, G, m, pp⟩ := q
        refine ⟨F, rs, S, G, m, ?_⟩
        have : eTup (aCs ds) S = eC (.tuple ds) S := by
          show ((do let ds ← toDs (ds.map .dat); chk (decide (ds.length ≤ 1000)); pure (.dat (.tuple ds))) : M VD) S = _
          rw [M.bind_run, toDs_dat]
          show ((do chk (decide (ds.length ≤ 1000)); pure (.dat (.tuple ds))) : M VD) S = _
          simp only [hl, decide_true]
          rfl
        rw [this]; exact pp
      · cases h
    · cases h
  | .List es pos, d, h => by
    unfold constD at h
    split at h
    · rename_i ds hds
      split at h
      · rename_i hl
        cases h
        refine PE.weak (pe_lst (d_consts es hds)) fun σ H Q q => ?_
        obtain ⟨F, rs, S, G, m, pp⟩ := q
        refine ⟨F, rs, S, G, m, fun vs H' G' rs' u m' r => ?_⟩
        have hd : DdAll X.K G' vs ds := rdvs_dat r
        refine ⟨by rw [DdAll.length hd]; exact sz1000 hl, fun p hp => ?_⟩
        have gp := L2.Same.free m'.sub hp
        exact (Post.up u pp) (.ref p) _ (upd G' p (.lst vs)) rs' ⟨⟨[], by simp⟩, same_upd gp⟩ (m'.new hp) (.lst (Rd.of upd_same) (DdAll.same (same_upd gp) _ _ hd))
      · cases h
    · cases h
  | .BoolOp _ _ _, d, h => d_constA (by simpa only [constD] using h)
  | .NamedExpr _ _ _, d, h => d_constA (by simpa only [constD] using h)
  | .BinOp _ _ _ _, d, h => d_constA (by simpa only [constD] using h)
  | .UnaryOp _ _ _, d, h => d_constA (by simpa only [constD] using h)
  | .Lambda _ _ _ _, d, h => d_constA (by simpa only [constD] using h)
  | .IfExp _ _ _ _, d, h => d_constA (by simpa only [constD] using h)
  | .Dict _ _ _, d, h => d_constA (by simpa only [constD] using h)
  | .Set _ _ _, d, h => d_constA (by simpa only [constD] using h)
  | .ListComp _ _ _ _, d, h => d_constA (by simpa only [constD] using h)
  | .SetComp _ _ _ _, d, h => d_constA (by simpa only [constD] using h)
  | .DictComp _ _ _ _ _, d, h => d_constA (by simpa only [constD] using h)
  | .GeneratorExp _ _ _ _, d, h => d_constA (by simpa only [constD] using h)
  | .Await _ _, d, h => d_constA (by simpa only [constD] using h)
  | .Yield _ _, d, h => d_constA (by simpa only [constD] using h)
  | .YieldFrom _ _, d, h => d_constA (by simpa only [constD] using h)
  | .Compare _ _ _ _, d, h => d_constA (by simpa only [constD] using h)
  | .Call _ _ _ _, d, h => d_constA (by simpa only [constD] using h)
  | .FormattedValue _ _ _ _, d, h => d_constA (by simpa only [constD] using h)
  | .JoinedStr _ _, d, h => d_constA (by simpa only [constD] using h)
  | .Constant _ _ _, d, h => d_constA (by simpa only [constD] using h)
  | .Attribute _ _ _, d, h => d_constA (by simpa only [constD] using h)
  | .Subscript _ _ _, d, h => d_constA (by simpa only [constD] using h)
  | .Starred _ _, d, h => d_constA (by simpa only [constD] using h)
  | .Name _ _, d, h => d_constA (by simpa only [constD] using h)
  | .Slice _ _ _ _, d, h => d_constA (by simpa only [constD] using h)
theorem d_consts : ∀ (es : List Expr) {ds : List PyData}, constDs es = some ds → PDA X E es (aCs ds)
  | [], ds, h => by
    unfold constDs at h; cases h; exact d_nil
  | e :: es, ds, h => by
    unfold constDs at h
    split at h
    · rename_i h1 h2 h3
      cases h
      rename_i d ds
      refine PA.weak (d_cons (d_const e h2) (d_consts es h3) (star_cons h1)) fun σ H Q q => ?_
      exact q
    · cases h
end
/-- a display of constants: a new list -/
theorem d_lstC {es : List Expr} {pos : Pos} {ds : List PyData} (h : constDs es = some ds) (hl : ds.length ≤ 1000) : PD X E (.List es pos) (newL ds) :=
  PE.weak (pe_lst (d_consts (E := E) es h)) fun σ H Q q => by
    obtain ⟨F, rs, S, G, m, pp⟩ := q
    refine ⟨F, rs, S, G, m, fun vs H' G' rs' u m' r => ?_⟩
    have hd : DdAll X.K G' vs ds := rdvs_dat r
    exact ⟨by rw [DdAll.length hd]; exact sz1000 hl, fun p hp => newLst m' hd (Post.up u pp) hp⟩
end
end DL
/-! DL24: try .. except X as e, one clause. -/
namespace DL
open PySem PySem.Spec L2 EX
def unsl (i : Nat) : R (Fl × DS) → R (Fl × DS)
  | .ok (f, S) => .ok (f, ⟨S.sl.set i none, S.ce⟩)
  | .exc _ _ => .bad
  | .bad => .bad
def xcS (n i : Nat) (a d : Addr) (cls : Str) (fs : List (Str × PyData)) (ce : List Cl) : DS := ⟨(List.replicate n none).set i (some (.oth (.xc a d cls fs))), ce⟩
def sTry (tb : List (Str × List Str)) (n i : Nat) (cls : Str) (body : MS) (suite : Addr → Addr → MS) : MS := fun S => match body S with
  | .ok p => .ok p
  | .exc x S' => match tb.lookup x.cls with
    | some _ => if x.cls = cls then unsl i (suite 0 0 (xcS n i 0 0 x.cls x.fs S'.ce)) else .exc x S'
    | none => .bad
  | .bad => .bad
/-- the exception in slot i: its fields -/
def isXc (a d : Addr) (cls : Str) (i : Nat) : M (List (Str × PyData)) := fun S => match S.sl[i]? with
  | some (some (.oth (.xc a' d' c fs))) => if a' = a ∧ d' = d ∧ c = cls then .ok (fs, S) else .bad
  | _ => .bad
theorem isXc_run {n i : Nat} {a d : Addr} {cls : Str} {fs : List (Str × PyData)} {ce : List Cl} (h : i < n) : isXc a d cls i (xcS n i a d cls fs ce) = .ok (fs, xcS n i a d cls fs ce) := by
  unfold isXc xcS
  rw [List.getElem?_set_self (by simpa using h)]
  simp
theorem isXc_no {n i : Nat} {a d : Addr} {cls c : Str} {fs : List (Str × PyData)} {ce : List Cl} (h : i < n) (hc : c ≠ cls) : isXc a d cls i (xcS n i a d c fs ce) = .bad := by
  unfold isXc xcS
  rw [List.getElem?_set_self (by simpa using h)]
  simp [hc]
def eXf (a d : Addr) (cls : Str) (i : Nat) (f : Str) : M VD := do let fs ← isXc a d cls i; let y ← ofO (fs.lookup f); pure (.dat y)
def eXis (a d : Addr) (cls : Str) (i : Nat) (b : Bool) : M VD := do let _ ← isXc a d cls i; pure (.dat (.bool b))
/-- which class an except clause takes -/
def IsM (K : PySem.W.Frag) (mg : Str → Option Value) (tb : List (Str × List Str)) (C : Str) (Cc : Addr) : Prop := mg C = some (.ref Cc) ∧ ∀ (c : Str) (ns : List Str) (D : Addr), tb.lookup c = some ns → mg c = some (.ref D) → W.exmOne K (.ref D) (.ref Cc) = some (decide (c = C))
section
variable {K : PySem.W.Frag} {wl : Wd} {F : Hp} {rs : List Addr} {S : DS} {σ : L2.St} {H G : Hp}
theorem Md.know {dx : Addr} {l : List (Str × V)} (m : Md K wl F rs S σ H G) (h : H dx = some (.xd l)) : ∃ G', Same G G' ∧ Md K wl F rs S σ H G' ∧ G' dx = some (.xd l) := by
  have sg : Same G (upd G dx (.xd l)) := fun b u q => by
    by_cases hb : b = dx
    · subst hb; rw [upd_same]; have := m.sub _ _ q; rw [h] at this; exact this
    · rw [upd_ne hb]; exact q
  refine ⟨upd G dx (.xd l), sg, ⟨m.len, fun b u q => ?_, m.frm, m.rl, m.nd, fun i b c h1 h2 => ?_, fun i x h1 => ?_⟩, upd_same⟩
  · by_cases hb : b = dx
    · subst hb; rw [upd_same] at q; cases q; exact h
    · rw [upd_ne hb] at q; exact m.sub b u q
  · have k := m.cel i b c h1 h2
    cases c with
    | ls bb ds' =>
      cases bb with
      | true =>
        obtain ⟨f', g', vs', hv', hd'⟩ := k
        have ne : b ≠ dx := fun z => by rw [z, h] at hv'; cases hv'
        exact ⟨f', by rw [upd_ne ne]; exact g', vs', hv', DdAll.same sg _ _ hd'⟩
      | false =>
        obtain ⟨vs', hv', hd'⟩ := k
        exact ⟨vs', sg _ _ hv', DdAll.same sg _ _ hd'⟩
    | dk kvs =>
      obtain ⟨f', g', hv'⟩ := k
      have ne : b ≠ dx := fun z => by rw [z, h] at hv'; cases hv'
      exact ⟨f', by rw [upd_ne ne]; exact g', hv'⟩
    | si ns =>
      obtain ⟨f', g', hv', hn'⟩ := k
      have ne : b ≠ dx := fun z => by rw [z, h] at hv'; cases hv'
      exact ⟨f', by rw [upd_ne ne]; exact g', hv', hn'⟩
  · obtain ⟨v, h2, h3⟩ := m.slot i x h1
    exact ⟨v, h2, RdV.up ⟨⟨[], by simp⟩, sg⟩ h3⟩
theorem Md.unset (m : Md K wl F rs S σ H G) (i : Nat) : Md K wl F rs ⟨S.sl.set i none, S.ce⟩ (σ.set i none) H G := by
  refine ⟨by simp [m.len], m.sub, m.frm, m.rl, m.nd, m.cel, fun k y h1 => ?_⟩
  by_cases hk : k = i
  · subst hk
    by_cases hl : k < S.sl.length
    · rw [List.getElem?_set_self hl] at h1; cases h1
    · rw [List.getElem?_eq_none (by simp; omega)] at h1; cases h1
  · rw [List.getElem?_set_ne (Ne.symm hk)] at h1
    rw [List.getElem?_set_ne (Ne.symm hk)]
    exact m.slot k y h1
end
section
variable {X : Cx} {W : WX}
/-- what a callee lets out, at any slots of the frame's length -/
abbrev EW (X : Cx) (W : WX) : XK := fun cls d H => ∀ σ : L2.St, σ.length = X.N.length → W cls d σ H
theorem passes_len (tk : Takes X W) : Passes (L2.CX X.prog X.w) X (EW X W) := fun pins σ H s e s' I c =>
  tk e s' (XE.of_call I (fun cls d H' h => h σ I.len) c)
end
section
variable {X : Cx} {E : XK} {x n : Str} {i : Nat} {body suite : List Stmt} {b₀ : Stmt} {np pos pos' : Pos} {tb : List (Str × List Str)} {tbody : MS} {tsuite : Addr → Addr → MS} {Cc : Addr}
theorem s_try (hs : X.stack = X.env :: X.outer) (hf : X.env.frame = some X.env.locals) (hN : X.N.Nodup) (hin : i < X.N.length) (hi : X.N[i]? = some n) (hln : X.env.kindOf n = some .local) (hg : Gl X x) (hd : (x == ("__debug__" : Str)) = false) (hM : IsM X.K X.mg tb x Cc) (tk : Takes X (fun cls d _ H => E cls d H))
    (hb : ∀ (W : WX) (pn : List (Addr × Obj)) (xe : Value → Shared → Prop), Passes (L2.CX X.prog X.w) (X.tr pn xe) (EW X W) → PassesOwn (model X.prog X.w) X.A X.env xe → PDSs (X.tr pn xe) (EW X W) body tbody)
    (hsu : ∀ (a : Addr) (oe : Obj) (dx : Addr) (pn : List (Addr × Obj)), Zc (.ref Cc) (some dx) oe → (∃ vs, oe.data = .fields vs) → PDSs (X.suite a ((a, oe) :: pn)) (fun _ _ _ => False) (b₀ :: suite) (tsuite a dx))
    (hfree : ∀ (a d : Addr) (cls : Str) (fs : List (Str × PyData)) (ce : List Cl), unsl i (tsuite a d (xcS X.N.length i a d cls fs ce)) = unsl i (tsuite 0 0 (xcS X.N.length i 0 0 cls fs ce))) :
    PDS X E (.Try body [.ExceptHandler (some (.Name x np)) (some n) (b₀ :: suite) pos'] [] [] pos) (sTry tb X.N.length i x tbody tsuite) := by
  refine PS.weak (ps_try_as (i := i) (tb := fun W => liftS X.K X.wd X.mg (EW X W) tbody) (ts := fun a cls d => fun D σ H => ∃ (dx : Addr), cls = .ref Cc ∧ d = some dx ∧ liftS X.K X.wd X.mg (fun _ _ _ => False) (tsuite a dx) D σ H) hs hf hN hi hln ⟨hg, hd, .inl hM.1⟩ tk
    (fun W pn xe tk' po => hb W pn xe (passes_len (X := X.tr pn xe) tk') po)
    (fun a oe cls d pn hz hf' => ⟨fun pins s σ H D I q => by
      obtain ⟨dx, e1, e2, q⟩ := q
      subst e1 e2
      exact (hsu a oe dx pn hz hf').run pins s σ H D I q⟩)) fun D σ H q => ?_
  obtain ⟨F, rs, S, G, m, p⟩ := q
  refine ⟨F, rs, S, G, m, ?_⟩
  unfold sTry at p
  cases e : tbody S with
  | ok r => rw [e] at p; exact p
  | bad => rw [e] at p; exact p
  | exc y S' =>
    rw [e] at p
    dsimp only at p
    intro C dx vs H' G' rs' u m' hm hx hv σ' hl
    cases et : tb.lookup y.cls with
    | none => rw [et] at p; exact p.elim
    | some ns =>
      rw [et] at p
      dsimp only at p
      refine ⟨decide (y.cls = x), hM.2 _ _ _ et hm, fun hb1 a ha => ?_, fun hb0 => ?_⟩
      · have hc : y.cls = x := of_decide_eq_true hb1
        rw [if_pos hc] at p
        have eC : C = Cc := by
          have z := hM.1
          rw [← hc, hm] at z
          injection z with z; injection z
        subst eC
        obtain ⟨G2, sg, m2, g2⟩ := m'.know hx
        refine ⟨dx, rfl, rfl, F, rs', xcS X.N.length i a dx y.cls y.fs S'.ce, G2, ?_, ?_⟩
        · refine m2.slots (by simp [xcS, hl]) fun k z hk => ?_
          by_cases hki : k = i
          · subst hki
            have hk' : ((List.replicate X.N.length (none : Option VD)).set k (some (.oth (.xc a dx y.cls y.fs))))[k]? = some (some z) := hk
            rw [List.getElem?_set_self (by simpa using hin)] at hk'
            injection hk' with hk'; injection hk' with hk'
            subst hk'
            refine ⟨.ref a, by rw [List.getElem?_set_self (by rw [hl]; exact hin)], rfl, C, vs, hm, g2, DdAll.same sg _ _ hv⟩
          · have hk' : ((List.replicate X.N.length (none : Option VD)).set i (some (.oth (.xc a dx y.cls y.fs))))[k]? = some (some z) := hk
            rw [List.getElem?_set_ne (Ne.symm hki), List.getElem?_replicate] at hk'
            split at hk' <;> cases hk'
        · rw [← hfree a dx] at p
          have p2 := PostS.up (u.trans (show Up rs' G' rs' G2 from ⟨⟨[], by simp⟩, sg⟩)) p
          cases es : tsuite a dx (xcS X.N.length i a dx y.cls y.fs S'.ce) with
          | bad => rw [es] at p2; exact p2
          | exc _ _ => rw [es] at p2; exact p2.elim
          | ok r =>
            rw [es] at p2
            obtain ⟨f, S3⟩ := r
            intro σ3 H3 G3 rs3 u3 m3
            have p3 := p2 (σ3.set i none) H3 G3 rs3 u3 (m3.unset i)
            cases f with
            | nx => exact p3
            | bk => exact p3
            | ct => exact p3
            | rt z => exact p3
      · have hc : ¬ y.cls = x := of_decide_eq_false hb0
        rw [if_neg hc] at p
        exact p C dx vs H' G' rs' u m' hm hx hv
end
/-! ### the caught exception in its suite -/
section
variable {X : Cx} {a dx Cc : Addr} {oe : Obj} {pn : List (Addr × Obj)} {E : XK} {i : Nat} {x n f : Str} {np pos p pt : Pos} {tb : List (Str × List Str)} {ns : List Str}
theorem isXc_of {S : DS} {fs : List (Str × PyData)} {S' : DS} (h : isXc a dx x i S = .ok (fs, S')) : S' = S ∧ S.sl[i]? = some (some (.oth (.xc a dx x fs))) := by
  unfold isXc at h
  split at h
  · rename_i a' d' c fs' e
    split at h
    · rename_i hc
      obtain ⟨rfl, rfl, rfl⟩ := hc
      cases h
      exact ⟨rfl, e⟩
    · cases h
  · cases h
theorem d_xf (hT : ClsTb X.K X.mg tb) (ht : tb.lookup x = some ns) (hf1 : f ∈ ns) (hm : X.mg x = some (.ref Cc)) (hz : Zc (.ref Cc) (some dx) oe) (hf : ∃ vs, oe.data = .fields vs) (hv : PE (X.suite a ((a, oe) :: pn)) (.Name n np) (tVar i)) (hb : attributeBase (.Name n np) f (X.suite a ((a, oe) :: pn)).env (eval (.Name n np) (X.suite a ((a, oe) :: pn)).env) = eval (.Name n np) (X.suite a ((a, oe) :: pn)).env := by rfl) :
    PD (X.suite a ((a, oe) :: pn)) E (.Attribute (.Name n np) f pos) (eXf a dx x i f) := by
  obtain ⟨⟨B, nI, iI, bmB, b, T⟩, hT'⟩ := hT.ok x ns Cc ht hm
  refine PE.weak (pe_xf (X := X) (cls := .ref Cc) (d := some dx) (C := Cc) ⟨T.ga, T.gg, T.exC, T.dct⟩ (hT' f hf1) hz hf hv hb) fun σ H Q q => ?_
  obtain ⟨F, rs, S, G, m, pp⟩ := q
  unfold eXf at pp
  rw [M.bind_run] at pp
  cases e : isXc a dx x i S with
  | bad => rw [e] at pp; exact pp.elim
  | exc _ _ =>
    exfalso
    unfold isXc at e
    split at e
    · split at e <;> cases e
    · cases e
  | ok r =>
    obtain ⟨fs, S'⟩ := r
    rw [e] at pp
    obtain ⟨rfl, hsl⟩ := isXc_of e
    obtain ⟨v, hv1, hv2⟩ := m.slot i _ hsl
    obtain ⟨rfl, C, vs, h2, h3, h4⟩ := hv2
    obtain ⟨y, hy, p2⟩ := Post.ofO (show Post _ _ _ E F σ (RdV _ _) rs G ((ofO (fs.lookup f) >>= fun y => pure (.dat y)) S') Q from pp)
    obtain ⟨w, hw, rw'⟩ := zip_lookup h4 hy
    exact ⟨.ref a, hv1, rfl, rfl, dx, (fs.map (·.1)).zip vs, w, rfl, m.sub _ _ h3, hw, Post.ret m p2 rw'⟩
theorem call_isEX {T : Value} {cv : V} {b : Bool} {B newId initId : String} {bmB : List Value} (Tx : Xc X.K Cc newId bmB) (hz : Zc (.ref Cc) (some dx) oe) (hf : ∃ vs, oe.data = .fields vs) (hc : ClsV cv T) (ek : W.kitOne X.K (.ref Cc) T = some b) : CallR (X.suite a ((a, oe) :: pn)) (.builtin "isinstance") (fun xs H Q => ∃ l, xs = [.ref a, cv] ∧ H dx = some (.xd l) ∧ Q (.bl b) H) := by
  rintro pins s σ H xs us Q I r ⟨l, rfl, hx, q⟩
  obtain ⟨u1, u2, rfl, r1, r2⟩ := vals2 r; cases hc.eq r2
  cases r1
  obtain ⟨ha, _⟩ := I.pin (a, oe) (List.mem_append_left _ List.mem_cons_self)
  obtain ⟨vs, hd⟩ := hf
  have hx' : ObjOk X.prog X.w H s.heap dx (.xd l) := I.hok dx _ hx
  obtain ⟨mA, hns, hr⟩ := hx'; obtain ⟨od, ho, hl⟩ := lookIn_ns hns
  have J : W.InstAt s.heap a oe Cc (some od) := ⟨ha, hz.1, by unfold W.notCls; rw [hd] <;> rfl, by rw [hz.2]; exact ho⟩
  have cl : (W.clsIn X.K Cc).isSome = true := by
    obtain ⟨cd, z, _⟩ := W.any_some Tx.dct
    rw [z]; rfl
  exact W.kia_one (W.kitx_exc cl Tx.ga Tx.gg Tx.exC Tx.ca Tx.cn Tx.ct Tx.cm) I.kIn J ek (fun z => nomatch z) fun tk => ⟨.bl b, H, I.tok tk, rfl, q⟩
theorem d_xis {t : Expr} {cv : V} {u : Value} {b : Bool} (hT : ClsTb X.K X.mg tb) (ht : tb.lookup x = some ns) (hm : X.mg x = some (.ref Cc)) (hz : Zc (.ref Cc) (some dx) oe) (hf : ∃ vs, oe.data = .fields vs) (hv : PE (X.suite a ((a, oe) :: pn)) (.Name n np) (tVar i))
    (hc : ClsV cv u) (ek : W.kitOne X.K (.ref Cc) u = some b) (htp : PE (X.suite a ((a, oe) :: pn)) t (tC cv)) (hmi : X.mg "isinstance" = none) (hg : Gl (X.suite a ((a, oe) :: pn)) "isinstance" := by rfl)
    (hs : starEach [.Name n np, t] X.env = (false, eval (.Name n np) X.env) :: starEach [t] X.env := by rfl) (hs2 : starEach [t] X.env = (false, eval t X.env) :: starEach [] X.env := by rfl) (hpl : (backTo pos (starEach [t] X.env)).any (·.1) = false := by rfl) :
    PD (X.suite a ((a, oe) :: pn)) E (.Call (.Name "isinstance" p) [.Name n np, t] [] pos) (eXis a dx x i b) := by
  obtain ⟨⟨B, nI, iI, bmB, eb, T⟩, hT'⟩ := hT.ok x ns Cc ht hm
  refine PE.weak (pe_callB (call_isEX (B := B) (initId := iI) T hz hf hc ek) hg hmi (by decide +kernel) (pa_cons hv (pa_cons htp pa_nil hs2) hs) (he := hs) (hpl := hpl)) fun σ H Q q => ?_
  obtain ⟨F, rs, S, G, m, pp⟩ := q
  unfold eXis at pp
  rw [M.bind_run] at pp
  cases e : isXc a dx x i S with
  | bad => rw [e] at pp; exact pp.elim
  | exc _ _ =>
    exfalso
    unfold isXc at e
    split at e
    · split at e <;> cases e
    · cases e
  | ok r =>
    obtain ⟨fs, S'⟩ := r
    rw [e] at pp
    obtain ⟨rfl, hsl⟩ := isXc_of e
    obtain ⟨v, hv1, hv2⟩ := m.slot i _ hsl
    obtain ⟨rfl, C, vs, h2, h3, h4⟩ := hv2
    exact ⟨.ref a, hv1, _, rfl, m.sub _ _ h3, Post.ret m pp (.bl b)⟩
theorem d_xisB {T : Str} {T' : String} {isA : Str → Bool} (hT : ClsTb X.K X.mg tb) (ht : tb.lookup x = some ns) (hm : X.mg x = some (.ref Cc)) (hz : Zc (.ref Cc) (some dx) oe) (hf : ∃ vs, oe.data = .fields vs) (hv : PE (X.suite a ((a, oe) :: pn)) (.Name n np) (tVar i))
    (hB : IsB X.K X.mg tb isA T') (hbv : bootBuiltins T = some (.type T')) (hmT : X.mg T = none) (hmi : X.mg "isinstance" = none) (hg : Gl (X.suite a ((a, oe) :: pn)) "isinstance" := by rfl) (hgC : Gl (X.suite a ((a, oe) :: pn)) T := by rfl) (hn : T ≠ "__name__" := by decide) (hdC : (T == ("__debug__" : Str)) = false := by decide)
    (hs : starEach [.Name n np, .Name T pt] X.env = (false, eval (.Name n np) X.env) :: starEach [.Name T pt] X.env := by rfl) (hs2 : starEach [.Name T pt] X.env = (false, eval (.Name T pt) X.env) :: starEach [] X.env := by rfl) (hpl : (backTo pos (starEach [.Name T pt] X.env)).any (·.1) = false := by rfl) :
    PD (X.suite a ((a, oe) :: pn)) E (.Call (.Name "isinstance" p) [.Name n np, .Name T pt] [] pos) (eXis a dx x i (isA x)) :=
  d_xis hT ht hm hz hf hv (.ty T') (hB x ns Cc ht hm) (pe_bltn hgC hmT hbv rfl hn hdC) hmi hg hs hs2 hpl
end
end DL
/-! RP1: repr of every datum, {} among them. -/
namespace DL
open PySem PySem.Spec L2
section
variable {s : Shared} {X : Cx} {pins : List (Addr × Obj)} {σ : L2.St} {H : Hp}
/-- shows: the addresses read, and the text at the depth -/
def Shows (X : Cx) (s : Shared) (d : PyData) (u : Value) : Prop := ∃ bs, ReadAtMost s.heap d.depth bs ∧ ReprK X.prog X.w bs s.heap d.depth u d.shown
mutual
theorem Dd.shows (I : Inv X pins σ H s) : ∀ (d : PyData) (v : V) (u : Value), Dd X.K H v d → RelV v u → d.showable = true → d.shown.length ≤ sizeLine → Shows X s d u
  | .none, _, _, h, r, _, _ => by cases h; cases r; exact ⟨[], (fun _ z => nomatch z), by simp only [PyData.shown]; exact .of_is ReprIs.none _ _ _⟩
  | .bool b, _, _, h, r, _, _ => by cases h; cases r; exact ⟨[], (fun _ z => nomatch z), by simp only [PyData.shown]; exact .of_is (ReprIs.bool b) _ _ _⟩
  | .int i, _, _, h, r, hs, _ => by cases h; obtain ⟨t, rfl⟩ := r; exact ⟨[], (fun _ z => nomatch z), by simp only [PyData.shown]; exact .of_is (ReprIs.int t (by simpa [PyData.showable] using hs)) _ _ _⟩
  | .str x, _, _, h, r, _, hz => by cases h; obtain ⟨t, rfl⟩ := r; exact ⟨[], (fun _ z => nomatch z), by simp only [PyData.shown]; exact .of_is (ReprIs.str x t (by simpa only [PyData.shown] using hz)) _ _ _⟩
  | .list ds, v, u, h, r, hs, hz => by
    obtain ⟨as, rd⟩ := Dd.reads I _ _ _ h r
    cases h with
    | lst hl ha =>
      cases r
      obtain ⟨its, rv, ⟨o, n, ho, hc, _, hd⟩, _⟩ := I.list (.inl hl)
      have lim : (listText (PyData.shownAll ds)).length ≤ sizeLine := by simpa only [PyData.shown] using hz
      obtain ⟨bs, hb, hk⟩ := DdAll.shows I ds _ its ha rv (by simpa [PyData.showable] using hs) fun t ht => Nat.le_trans (listText_mem_le ht) lim
      have out := not_mem_of_deeper rd (by simp only [PyData.depth]; omega) hb
      refine ⟨_ :: bs, ReadAtMost.cons rd (by simp only [PyData.depth]; omega) hb, ?_⟩; simp only [PyData.depth, PyData.shown]
      cases its with
      | nil =>
        cases rv; cases ha; simp only [PyData.shownAll, listText_nil]
        exact ReprK.listEmpty ho hc hd
      | cons y l => exact ReprK.list ho hc hd out (by simpa using hk.length_eq) fun i y e => hk.item i y (by simpa using e)
  | .tuple ds, v, u, h, r, hs, hz => by
    obtain ⟨as, rd⟩ := Dd.reads I _ _ _ h r
    cases h with
    | tup hl ha =>
      cases r
      obtain ⟨its, rv, ⟨o, ho, hc, n, hd⟩, _⟩ := I.tuple (hl.sqt (K := X.K))
      have lim : (tupleText (PyData.shownAll ds)).length ≤ sizeLine := by simpa only [PyData.shown] using hz
      obtain ⟨bs, hb, hk⟩ := DdAll.shows I ds _ its ha rv (by simpa [PyData.showable] using hs) fun t ht => Nat.le_trans (tupleText_mem_le ht) lim
      have out := not_mem_of_deeper rd (by simp only [PyData.depth]; omega) hb
      refine ⟨_ :: bs, ReadAtMost.cons rd (by simp only [PyData.depth]; omega) hb, ?_⟩; simp only [PyData.depth, PyData.shown]
      exact ReprK.tuple ho hc hd out hk
  | .dict kvs, v, u, h, r, hs, hz => by
    obtain ⟨as, rd⟩ := Dd.reads I _ _ _ h r
    cases h with
    | dic hl =>
      cases r
      obtain ⟨_, hsys, vs, rk, o, es, ep, ho, ⟨hx, _⟩, hd, _, hes, _⟩ := I.hok _ _ hl
      cases rk
      have e0 : es.toList = [] := by
        revert hes
        generalize es.toList = l
        intro hes
        cases hes
        rfl
      have none : ReadAtMost s.heap 0 [] := fun _ z => nomatch z
      refine ⟨_ :: [], ReadAtMost.cons rd (Nat.zero_le _) none, ?_⟩
      simp only [PyData.depth, PyData.shown, PyData.depthKv, PyData.shownKv]
      exact ReprK.dict ho hx hd hsys (by simp) (by rw [e0]; exact ReprEntriesK.of_two [] [] [] .nil .nil)
theorem DdAll.shows (I : Inv X pins σ H s) : ∀ (ds : List PyData) (vs : List V) (us : List Value), DdAll X.K H vs ds → Vals vs us → PyData.showableAll ds = true → (∀ t ∈ PyData.shownAll ds, t.length ≤ sizeLine) →
    ∃ bs, ReadAtMost s.heap (PyData.depthAll ds) bs ∧ ReprAllK X.prog X.w bs s.heap (PyData.depthAll ds) us (PyData.shownAll ds)
  | [], _, _, h, r, _, _ => by cases h; cases r; exact ⟨[], (fun _ z => nomatch z), by simp only [PyData.shownAll]; exact .nil⟩
  | d :: ds, _, _, h, r, hs, hz => by
    cases h with
    | cons h1 h2 =>
      cases r with
      | cons r1 r2 =>
        obtain ⟨hs1, hs2⟩ : d.showable = true ∧ PyData.showableAll ds = true := by simpa [PyData.showableAll] using hs
        obtain ⟨b1, m1, k1⟩ := Dd.shows I d _ _ h1 r1 hs1 (hz _ (by simp only [PyData.shownAll]; exact List.mem_cons_self ..))
        obtain ⟨b2, m2, k2⟩ := DdAll.shows I ds _ _ h2 r2 hs2 fun t ht => hz t (by simp only [PyData.shownAll]; exact List.mem_cons_of_mem _ ht)
        refine ⟨b1 ++ b2, fun b hm => ?_, ?_⟩
        · simp only [PyData.depthAll]
          rcases (List.mem_append.mp hm) with hm | hm
          · obtain ⟨e, as, q, hq⟩ := m1 b hm; exact ⟨e, as, q, by omega⟩
          · obtain ⟨e, as, q, hq⟩ := m2 b hm; exact ⟨e, as, q, by omega⟩
        · (simp only [PyData.depthAll, PyData.shownAll])
          (exact .cons ((k1.more fun b hb => List.mem_append_left _ hb).level_le (Nat.le_max_left _ _)) (k2.more_le (fun b hb => List.mem_append_right _ hb) (Nat.le_max_right _ _)))
end
end
/-- repr, of every datum -/
def reprA (d : PyData) : Option Str := if d.showable && decide (d.depth ≤ 100) && decide (d.shown.length ≤ 16777216) then some d.shown else none
def rReprA (K : PySem.W.Frag) : List V → Hp → VK → Prop := fun xs H Q => ∃ (x : V) (d : PyData) (y : Str), xs = [x] ∧ Dd K H x d ∧ reprA d = some y ∧ Q (.str y) H
theorem c_reprA {X : Cx} (hgd : X.A.guards = some []) (hu : X.A.units + 200 < cLine) : CallR X (.builtin "repr") (rReprA X.K) := by
  rintro pins s σ H xs us Q I r ⟨x, d, y, rfl, hd, hy, q⟩
  obtain ⟨u, rfl, ru⟩ := vals1 r; unfold reprA at hy
  split at hy
  · rename_i c
    simp only [Bool.and_eq_true, decide_eq_true_eq] at c
    cases hy
    have hz : d.shown.length ≤ sizeLine := by rw [sizeLine_eq]; omega
    have fin : ∀ (h' : Heap) (t : Tok) (tk : Nat), (∀ b o, s.heap.get? b = some o → h'.get? b = some o) → EP X pins σ Q (.str d.shown t) { s with heap := h', toks := tk } := fun h' t tk hk => ⟨.str d.shown, H, I.kept (t' := tk) fun b o z => hk b o z, ⟨t, rfl⟩, q⟩
    cases d with
    | none => cases hd; cases ru; exact P.repr_of_none (fin s.heap _ _ fun _ _ z => z)
    | bool b => cases hd; cases ru; exact P.repr_of_bool (fin s.heap _ _ fun _ _ z => z)
    | int i =>
      cases hd; obtain ⟨t, rfl⟩ := ru
      exact P.repr_of_int (by have := c.1.1; simpa [PyData.showable] using this) (fin s.heap _ _ fun _ _ z => z)
    | str x =>
      cases hd; obtain ⟨t, rfl⟩ := ru
      exact P.repr_of_str (fin s.heap _ _ fun _ _ z => z) (by simpa only [PyData.shown] using hz)
    | list ds =>
      obtain ⟨as, rd⟩ := Dd.reads I _ _ _ hd ru
      cases hd with
      | lst hl ha =>
        cases ru
        obtain ⟨its, rv, ⟨o, n, ho, hc, _, hdt⟩, _⟩ := I.list (.inl hl)
        have lim : (listText (PyData.shownAll ds)).length ≤ sizeLine := by simpa only [PyData.shown] using hz
        obtain ⟨bs, hb, hk⟩ := DdAll.shows I ds _ its ha rv (by simpa [PyData.showable] using c.1.1) fun t ht => Nat.le_trans (listText_mem_le ht) lim
        have out := not_mem_of_deeper rd (by simp only [PyData.depth]; omega) hb
        have dd := c.1.2
        simp only [PyData.depth] at dd
        refine call_repr_slot (by omega) ⟨o, ho, hc⟩ F.slot_list_repr.toG ?_
        cases its with
        | nil =>
          cases rv; cases ha
          exact call_list_repr_empty ⟨o, ho, hc⟩ ho hdt ⟨_, _, rfl, fin s.heap _ _ fun _ _ z => z⟩
        | cons y l =>
          exact call_list_reprK ho hc hdt out (by simpa using hk.length_eq) (fun i y e => hk.item i y (by simpa using e)) (A := X.A.in1) hgd (fun b _ => Clear.nil b) (by show X.A.units + 1 + _ < cLine; omega) (fun _ _ z => z) (fun h' t tk k => ⟨_, _, rfl, fin h' t tk k⟩) lim
    | tuple ds =>
      obtain ⟨as, rd⟩ := Dd.reads I _ _ _ hd ru
      cases hd with
      | tup hl ha =>
        cases ru
        obtain ⟨its, rv, ⟨o, ho, hc, n, hdt⟩, _⟩ := I.tuple (hl.sqt (K := X.K))
        have lim : (tupleText (PyData.shownAll ds)).length ≤ sizeLine := by simpa only [PyData.shown] using hz
        obtain ⟨bs, hb, hk⟩ := DdAll.shows I ds _ its ha rv (by simpa [PyData.showable] using c.1.1) fun t ht => Nat.le_trans (tupleText_mem_le ht) lim
        have out := not_mem_of_deeper rd (by simp only [PyData.depth]; omega) hb
        have dd := c.1.2
        simp only [PyData.depth] at dd
        refine call_repr_slot (by omega) ⟨o, ho, hc⟩ F.slot_tuple_repr ?_
        exact call_tuple_reprK ho hc hdt out hk (A := X.A.in1) hgd (fun b _ => Clear.nil b) (by show X.A.units + 1 + _ < cLine; omega) (fun _ _ z => z) (fun h' t tk k => ⟨_, _, rfl, fin h' t tk k⟩) lim
    | dict kvs =>
      obtain ⟨as, rd⟩ := Dd.reads I _ _ _ hd ru
      cases hd with
      | dic hl =>
        cases ru
        obtain ⟨_, hsys, vs, rk, o, es, ep, ho, ⟨hx, _⟩, hdt, _, hes, _⟩ := I.hok _ _ hl
        cases rk
        have e0 : es.toList = [] := by
          revert hes
          generalize es.toList = l
          intro hes
          cases hes
          rfl
        refine call_repr_slot (by omega) ⟨o, ho, hx⟩ F.slot_dict_repr ?_
        exact call_dict_reprK (as := []) (d := 0) (ps := []) ho hx hdt hsys (by simp) (by rw [e0]; exact ReprEntriesK.of_two [] [] [] .nil .nil) (A := X.A.in1) hgd (fun b _ => Clear.nil b) (by show X.A.units + 1 + _ < cLine; omega) (fun _ _ z => z) (fun h' t tk k => ⟨_, _, rfl, fin h' t tk k⟩) (by decide +kernel)
  · cases hy
def eReprA (t : M VD) : M VD := do let x ← t; let d ← peek x; let y ← ofO (reprA d); pure (.dat (.str y))
theorem d_reprA {X : Cx} {E : XK} {a : Expr} {pos p : Pos} {ta : M VD} (hgd : X.A.guards = some []) (hu : X.A.units + 200 < cLine) (ha : PD X E a ta) (hm : X.mg "repr" = none) (hg : Gl X "repr" := by rfl)
    (hs : starEach [a] X.env = (false, eval a X.env) :: starEach [] X.env := by rfl) (hpl : (backTo pos (starEach [] X.env)).any (·.1) = false := by rfl) : PD X E (.Call (.Name "repr" p) [a] [] pos) (eReprA ta) := PE.weak (pe_callB (c_reprA hgd hu) hg hm (by decide +kernel) (pa_cons ha pa_nil hs) (he := hs) (hpl := hpl)) fun σ H Q q => by
  obtain ⟨F, rs, S, G, m, p⟩ := q
  refine ⟨F, rs, S, G, m, (Post.seq p).mono fun v H1 ⟨rs1, S1, G1, x, u1, m1, r1, p1⟩ => ?_⟩
  obtain ⟨d, hd, p2⟩ := Post.peek p1
  obtain ⟨y, hy, p3⟩ := Post.ofO p2
  exact ⟨v, d, y, rfl, m1.peek r1 hd, hy, Post.ret m1 p3 (.str y)⟩
end DL
/-! DL25: xs.extend(ys), ys a list. -/
namespace DL
open PySem PySem.Spec L2
def extC (x y : VD) : M VD := match x, y with
  | .rf j, .rf k => fun S => match S.ce[j]?, S.ce[k]? with
    | some (.ls true ds), some (.ls _ es) => if ds.length + es.length ≤ 16777216 then .ok (.dat .none, { S with ce := S.ce.set j (.ls true (ds ++ es)) }) else .bad
    | _, _ => .bad
  | _, _ => M.bad
def eExt (to te : M VD) : M VD := do let x ← to; isRf x; let y ← te; extC x y
section
variable {X : Cx} {E : XK} {e : Expr} {pos apos : Pos}
theorem d_ext {o : Expr} {to te : M VD} (ho : PD X E o to) (he : PD X E e te) (hs : starEach [e] X.env = (false, eval e X.env) :: starEach [] X.env := by rfl)
    (hbase : attributeBase o "extend" X.env (eval o X.env) = eval o X.env := by rfl)
    (hfew : ((backTo pos (starEach [e] X.env)).all (fun x => !x.1) && (backToKw pos (keywordEach [] X.env)).all (fun x => x.1.isSome)
      && decide ([e].length + ([] : List Keyword).length + (if ([] : List Keyword).isEmpty then 0 else 1) < 30)) = true := by rfl)
    (hline : (apos.endLine == pos.line) = true := by rfl) (hplain : (backTo pos (starEach [] X.env)).any (·.1) = false := by rfl) : PD X E (.Call (.Attribute o "extend" apos) [e] [] pos) (eExt to te) :=
  PE.weak (pe_bm PySem.F.plainAttrs_list PySem.F.slot_list_extend PySem.F.type_list_extend mt_extend ho (pa_cons he pa_nil hs) hbase hfew hline hs hplain) fun σ H Q q => by
  obtain ⟨F, rs, S, G, m, p⟩ := q
  refine ⟨F, rs, S, G, m, (Post.seq p).mono fun v H1 ⟨rs1, S1, G1, x, u1, m1, r1, p1⟩ => ?_⟩
  match x, r1, p1 with
  | .dat _, _, p1 => exact p1.elim
  | .bag _, _, p1 => exact p1.elim
  | .st _, _, p1 => exact p1.elim
  | .ex _, _, p1 => exact p1.elim
  | .exs _, _, p1 => exact p1.elim
  | .oth _, _, p1 => exact p1.elim
  | .rf j, r1, p1 =>
    obtain ⟨a, ha, rfl⟩ := r1
    obtain ⟨⟨bl, dl, ec⟩, p1⟩ := Post.isRf p1
    refine ⟨.inl ⟨rfl, ?_⟩, ?_⟩
    · obtain ⟨vs, h1, _⟩ := CellOk.list m1.sub (m1.cel j a _ ha ec)
      exact ⟨vs, .inl h1⟩
    · refine ⟨F, rs1, S1, G1, m1, (Post.seq p1).mono fun w H2 ⟨rs2, S2, G2, y, u2, m2, r2, p2⟩ => ?_⟩
      have ha2 : rs2[j]? = some a := by
        obtain ⟨⟨more, rfl⟩, _⟩ := u2
        rw [List.getElem?_append_left (List.getElem?_eq_some_iff.mp ha).1]
        exact ha
      match y, r2, p2 with
      | .dat _, _, p2 => exact p2.elim
      | .bag _, _, p2 => exact p2.elim
      | .st _, _, p2 => exact p2.elim
      | .ex _, _, p2 => exact p2.elim
      | .exs _, _, p2 => exact p2.elim
      | .oth _, _, p2 => exact p2.elim
      | .rf k, r2, p2 =>
        obtain ⟨b, hb, rfl⟩ := r2
        unfold extC at p2
        dsimp only at p2
        cases e : S2.ce[j]? with
        | none => rw [e] at p2; exact p2.elim
        | some c =>
          cases c with
          | dk _ => rw [e] at p2; exact p2.elim
          | si _ => rw [e] at p2; exact p2.elim
          | ls live ds =>
          rw [e] at p2
          cases live with
          | false => exact p2.elim
          | true =>
            cases e2 : S2.ce[k]? with
            | none => rw [e2] at p2; exact p2.elim
            | some c2 =>
              cases c2 with
              | dk _ => rw [e2] at p2; exact p2.elim
              | si _ => rw [e2] at p2; exact p2.elim
              | ls l2 es =>
              rw [e2] at p2
              dsimp only at p2
              split at p2
              · rename_i hz
                obtain ⟨vs, hv, hd⟩ := Rd.lst_tracked m2 ha2 e
                obtain ⟨ws, hw, hdw⟩ : ∃ ws, H2 b = some (.lst ws) ∧ DdAll X.K G2 ws es := by
                  have k2 := m2.cel k b _ hb e2
                  cases l2 with
                  | true => obtain ⟨_, _, ws, h1, h2⟩ := k2; exact ⟨ws, h1, h2⟩
                  | false => obtain ⟨ws, h1, h2⟩ := k2; exact ⟨ws, m2.sub _ _ h1, h2⟩
                refine ⟨a, b, vs, ws, rfl, rfl, hv, hw, by rw [DdAll.length hd, DdAll.length hdw, sizeLine_eq]; exact hz, ?_⟩
                exact p2 .non _ G2 rs2 Up.refl (m2.write ha2 e (DdAll.append hd hdw)) .non
              · exact p2.elim
end
end DL
/-! DL26: defs that call themselves: the promise at depth nought. -/
namespace DL
open PySem PySem.Spec L2
theorem fn_bad {P : Program} {w : World} {K : PySem.W.Frag} {mg : Str → Option Value} {base : Heap} {k n : Nat} {f : Addr} {fd : FuncData} {ps : List Str} (hn : n = ps.length := by rfl) : DG.FnG P w K mg base k f fd ps (spD K w mg n (fun _ => M.bad)) := by
  subst hn
  refine ⟨fun xs H Q E h => h.1, fun A outer s H us vs Q E _ _ _ _ _ h => ?_⟩
  obtain ⟨_, F, rs, ce, G, xs, m, r, p⟩ := h
  exact p.elim
end DL
/-! DL27: an except suite's den speaks of no address. -/
namespace DL
open PySem PySem.Spec L2
section
variable {α β : Type} {n i : Nat} {a d : Addr} {cls : Str} {fs : List (Str × PyData)}
/-- the same from both states -/
def Fr (n i : Nat) (a d : Addr) (cls : Str) (fs : List (Str × PyData)) (t t' : M α) : Prop := ∀ ce, (∃ x ce', t (xcS n i a d cls fs ce) = .ok (x, xcS n i a d cls fs ce') ∧ t' (xcS n i 0 0 cls fs ce) = .ok (x, xcS n i 0 0 cls fs ce')) ∨ (t (xcS n i a d cls fs ce) = .bad ∧ t' (xcS n i 0 0 cls fs ce) = .bad)
theorem fr_bind {t t' : M α} {g g' : α → M β} (h : Fr n i a d cls fs t t') (k : ∀ x, Fr n i a d cls fs (g x) (g' x)) : Fr n i a d cls fs (t >>= g) (t' >>= g') := fun ce => by
  rw [M.bind_run, M.bind_run]
  rcases h ce with ⟨x, ce', e1, e2⟩ | ⟨e1, e2⟩
  · rw [e1, e2]; exact k x ce'
  · rw [e1, e2]; exact .inr ⟨rfl, rfl⟩
theorem fr_pure {x : α} : Fr n i a d cls fs (pure x) (pure x) := fun ce => .inl ⟨x, ce, rfl, rfl⟩
theorem fr_bad : Fr n i a d cls fs (M.bad : M α) M.bad := fun ce => .inr ⟨rfl, rfl⟩
theorem fr_ofO {o : Option α} : Fr n i a d cls fs (ofO o) (ofO o) := by
  cases o with
  | none => exact fr_bad
  | some x => exact fr_pure
theorem fr_chk {b : Bool} : Fr n i a d cls fs (chk b) (chk b) := by
  cases b with
  | false => exact fr_bad
  | true => exact fr_pure
theorem fr_newL {ds : List PyData} : Fr n i a d cls fs (newL ds) (newL ds) := fun ce => .inl ⟨_, _, rfl, rfl⟩
theorem fr_toD : ∀ {x : VD}, Fr n i a d cls fs (toD x) (toD x)
  | .dat _ => fr_pure
  | .rf j => fun ce => by
    unfold toD
    cases e : ce[j]? with
    | none => right; simp [xcS, e]
    | some c =>
      cases c with
      | dk _ => right; simp [xcS, e]
      | si _ => right; simp [xcS, e]
      | ls b ds =>
      cases b with
      | true => left; exact ⟨.list ds, ce.set j (.ls false ds), by simp [xcS, e], by simp [xcS, e]⟩
      | false => left; exact ⟨.list ds, ce, by simp [xcS, e], by simp [xcS, e]⟩
  | .bag _ => fr_bad
  | .st _ => fr_bad
  | .ex _ => fr_bad
  | .exs _ => fr_bad
  | .oth _ => fr_bad
theorem fr_toDs : ∀ {xs : List VD}, Fr n i a d cls fs (toDs xs) (toDs xs)
  | [] => fr_pure
  | x :: xs => fr_bind fr_toD fun _ => fr_bind fr_toDs fun _ => fr_pure
theorem fr_isXc {c : Str} (h : i < n) : Fr n i a d cls fs (isXc a d c i) (isXc 0 0 c i) := fun ce => by
  by_cases hc : cls = c
  · subst hc; left; exact ⟨fs, ce, isXc_run h, isXc_run h⟩
  · right; exact ⟨isXc_no h hc, isXc_no h hc⟩
theorem fr_xf {c f : Str} (h : i < n) : Fr n i a d cls fs (eXf a d c i f) (eXf 0 0 c i f) := fr_bind (fr_isXc h) fun _ => fr_bind fr_ofO fun _ => fr_pure
theorem fr_xis {c : Str} {b : Bool} (h : i < n) : Fr n i a d cls fs (eXis a d c i b) (eXis 0 0 c i b) := fr_bind (fr_isXc h) fun _ => fr_pure
theorem fr_cons {t t' : M VD} {u u' : M (List VD)} (h : Fr n i a d cls fs t t') (k : Fr n i a d cls fs u u') : Fr n i a d cls fs (aCons t u) (aCons t' u') := fr_bind h fun _ => fr_bind k fun _ => fr_pure
theorem fr_lst {u u' : M (List VD)} (k : Fr n i a d cls fs u u') : Fr n i a d cls fs (eLst u) (eLst u') := fr_bind k fun _ => fr_bind fr_toDs fun _ => fr_bind fr_chk fun _ => fr_newL
theorem fr_tup {u u' : M (List VD)} (k : Fr n i a d cls fs u u') : Fr n i a d cls fs (eTup u) (eTup u') := fr_bind k fun _ => fr_bind fr_toDs fun _ => fr_bind fr_chk fun _ => fr_pure
theorem fr_test {c : Str} {b : Bool} (h : i < n) : Fr n i a d cls fs (tOf (eXis a d c i b)) (tOf (eXis 0 0 c i b)) := fr_bind (fr_xis h) fun x => by
  cases x with
  | dat y => cases y with
    | bool _ => exact fr_pure
    | _ => exact fr_bad
  | _ => exact fr_bad
theorem fr_if {c c' : M Bool} {t t' u u' : M VD} (hc : Fr n i a d cls fs c c') (ht : Fr n i a d cls fs t t') (hu : Fr n i a d cls fs u u') : Fr n i a d cls fs (eIf c t u) (eIf c' t' u') := fr_bind hc fun b => by
  cases b with
  | true => exact ht
  | false => exact hu
theorem fr_ret {t t' : M VD} {ce : List Cl} (h : Fr n i a d cls fs t t') : unsl i (sRet t (xcS n i a d cls fs ce)) = unsl i (sRet t' (xcS n i 0 0 cls fs ce)) := by
  unfold sRet
  rw [M.bind_run, M.bind_run]
  rcases h ce with ⟨x, ce', e1, e2⟩ | ⟨e1, e2⟩
  · rw [e1, e2]
    show R.ok (Fl.rt x, (⟨(xcS n i a d cls fs ce').sl.set i none, ce'⟩ : DS)) = R.ok (Fl.rt x, ⟨(xcS n i 0 0 cls fs ce').sl.set i none, ce'⟩)
    simp [xcS]
  · rw [e1, e2]
end
end DL
/-! DL28: except clauses of own classes, by the table. -/
namespace DL
open PySem PySem.Spec L2 EX
def exmOwn (K : PySem.W.Frag) (cs : List ClsE) : Bool := cs.all fun p => cs.all fun q => decide (W.exmOne K (.ref p.2.2.2) (.ref q.2.2.2) = some (decide (p.1 = q.1)))
theorem isM {K : PySem.W.Frag} {mg : Str → Option Value} {cs : List ClsE} (h : exmOwn K cs = true) (hm : ∀ p ∈ cs, mg p.1 = some (.ref p.2.2.2)) {q : ClsE} (hq : q ∈ cs) : ∃ Cc, IsM K mg (tbOf cs) q.1 Cc := ⟨q.2.2.2, hm q hq, fun c ns D h1 h2 => by
  obtain ⟨p, hp, rfl, rfl, rfl⟩ := tb_in hm h1 h2
  exact of_decide_eq_true (List.all_eq_true.mp (List.all_eq_true.mp h p hp) q hq)⟩
end DL
/-! DM1: x * y for lists and tuples, min and max of two, extend by a tuple, displays with stars. -/
namespace DL
open PySem PySem.Spec L2
/-! ### x * y, whatever they are -/
def rRepL : R2 := fun x y H Q => ∃ l k xs, x = .ref l ∧ y = .int k ∧ Rd H l (.lst xs) ∧ 0 ≤ k ∧ k ≤ 1000 ∧ xs.length * k.toNat ≤ sizeLine ∧ ∀ p, H p = none → Q (.ref p) (upd H p (.lst (List.replicate k.toNat xs).flatten))
theorem flat_fold (its : List Value) (m : Nat) : List.foldl (fun a b => a ++ b) #[] (List.replicate m its.toArray) = (List.replicate m its).flatten.toArray := by
  simpa using foldl_rep its m []
theorem op_repL {X : Cx} : OpR X (binaryOp .Mult) rRepL := by
  rintro pins s σ H x y v u Q I rx ry ⟨l, k, xs, rfl, rfl, hH, h1, h2, hz, q⟩
  cases rx
  obtain ⟨t, rfl⟩ := ry
  obtain ⟨_, its, n, r, e⟩ := hH.ok I.hok
  have el : xs.length = its.length := r.length
  have sz : its.toArray.size * k.toNat ≤ sizeLine := by rw [List.size_toArray, ← el]; exact hz
  have big : (sizeLine : Nat) ≤ (2 ^ 63 - 1) / 8 := by decide
  have few : ¬ its.toArray.size * k.toNat > (2 ^ 63 - 1) / 8 := by omega
  have fit : ¬ (!Builtin.List.listFitsIndex k) = true := by rw [fitsIndex_both (by omega) (by omega)]; exact Bool.false_ne_true
  have long : ¬ Builtin.List.listTooLong (its.toArray.size * k.toNat) = true := by rw [notLongL sz]; exact Bool.false_ne_true
  have new : List.foldl (fun a b => a ++ b) #[] (List.replicate (if its.toArray.isEmpty = true then 0 else k.toNat) its.toArray) = (List.replicate k.toNat its).flatten.toArray := by
    rw [flat_fold]
    cases its with
    | nil => simp
    | cons a r' => (rw [if_neg (by simp)])
  refine wpAny_binaryOp_repeat_ref (T := "list") (U := "int") (by decide) ⟨_, e, rfl⟩ (fun s' => typeIs_int s' k t) noFill_list_mul PySem.F.fills_int_mul PySem.F.slot_int_rmul repeat_list PySem.F.slot_int_index.lookup (call_meets PySem.F.slot_int_rmul (typeIs_int s k t) PySem.F.entry_int_rmul (PySem.F.args_int_rmul_2 _ _) (int___rmul___int_list k t l its.toArray n) ⟨e, rfl, ⟨_, e, rfl⟩, call_meets PySem.F.slot_list_mul ⟨_, e, rfl⟩ PySem.F.entry_list_mul (PySem.F.args_list_mul_2 _ _) (AutoListH.list___mul___list_int_3 l its.toArray n k t fit few long) ⟨e, ?_⟩⟩)
  rw [new]; exact ⟨.ref _, _, I.lnew (t' := s.toks) (r.rep k.toNat) (by rw [PyProof.Rows.lm_len_rep_flat, Nat.mul_comm]; exact hz), rfl, q _ I.fresh⟩
def repD (n : Nat) (ds : List PyData) : List PyData := (List.replicate n ds).flatten
theorem rep_dd {K : PySem.W.Frag} {G : Hp} {vs : List V} {ds : List PyData} (h : DdAll K G vs ds) : ∀ n : Nat, DdAll K G (List.replicate n vs).flatten (repD n ds)
  | 0 => .nil
  | n + 1 => DdAll.append h (rep_dd h n)
def mulD (d e : PyData) : M VD := match d, e with
  | .int i, .int j => do let r ← ofO (fMul (.int i) (.int j)); pure (.dat r)
  | .list xs, .int k => do chk (decide (0 ≤ k ∧ k ≤ 1000 ∧ xs.length ≤ 1000)); newL (repD k.toNat xs)
  | .tuple xs, .int k => do chk (decide (2 ≤ k ∧ k ≤ 1000 ∧ xs.length ≤ 1000 ∧ xs ≠ [])); pure (.dat (.tuple (repD k.toNat xs)))
  | _, _ => M.bad
def eMul (ta tb : M VD) : M VD := do let x ← ta; let y ← tb; let d ← peek x; let e ← peek y; mulD d e
section
variable {X : Cx} {E : XK} {a b : Expr} {pos : Pos}
theorem d_mul {ta tb : M VD} (ha : PD X E a ta) (hb : PD X E b tb) : PD X E (.BinOp a .Mult b pos) (eMul ta tb) :=
  PE.weak (pe_op (OpR.or o_mul (OpR.or op_repL TN.op_repN)) ha hb) fun σ H Q q => by
  obtain ⟨F, rs, S, G, m, p⟩ := q
  refine ⟨F, rs, S, G, m, (Post.seq p).mono fun v H1 ⟨rs1, S1, G1, x, u1, m1, r1, p1⟩ => ?_⟩
  refine ⟨F, rs1, S1, G1, m1, (Post.seq p1).mono fun w H2 ⟨rs2, S2, G2, y, u2, m2, r2, p2⟩ => ?_⟩
  obtain ⟨d, hd, p3⟩ := Post.peek p2
  obtain ⟨e, he, p4⟩ := Post.peek p3
  have hx := m2.peek (RdV.up u2 r1) hd
  have hy := m2.peek r2 he
  unfold mulD at p4
  split at p4
  · obtain ⟨r, hr, p5⟩ := Post.ofO p4
    obtain ⟨k, rfl⟩ : ∃ k, r = .int k := by
      simp only [fMul, fI] at hr
      split at hr <;> first | exact ⟨_, (Option.some.inj hr).symm⟩ | cases hr
    exact .inl ⟨_, _, _, _, hx, hy, hr, rfl, Post.ret m2 p5 (.int k)⟩
  · rename_i xs k
    obtain ⟨hc, p5⟩ := Post.chk p4
    have hc' := of_decide_eq_true hc
    obtain ⟨l, vs, rfl, h1, h2⟩ := m2.peekL (RdV.up u2 r1) hd
    cases hy
    refine .inr (.inl ⟨l, k, vs, rfl, rfl, h1, hc'.1, hc'.2.1, ?_, fun q hq => newLst m2 (rep_dd h2 _) p5 hq⟩)
    rw [DdAll.length h2, sizeLine_eq]
    have : k.toNat ≤ 1000 := by omega
    exact Nat.le_trans (Nat.mul_le_mul hc'.2.2 this) (by decide)
  · rename_i xs k
    obtain ⟨hc, p5⟩ := Post.chk p4
    have hc' := of_decide_eq_true hc
    obtain ⟨l, vs, rfl, h1, h2, w1⟩ := m2.peekT (RdV.up u2 r1) hd
    cases hy
    refine .inr (.inr ⟨l, k, vs, rfl, rfl, h1, ?_, hc'.1, hc'.2.1, by rw [DdAll.length h2]; exact hc'.2.2.1, fun q its hq => newTup m2 (rep_dd h2 _) p5 hq⟩)
    intro e0
    subst e0
    cases h2
    exact hc'.2.2.2 rfl
  · exact p4.elim
/-! ### min(x, y), max(x, y) of numbers -/
def fMin2 (d e : PyData) : Option PyData := match d, e with
  | .int i, .int j => some (.int (if j < i then j else i))
  | _, _ => none
def fMax2 (d e : PyData) : Option PyData := match d, e with
  | .int i, .int j => some (.int (if j > i then j else i))
  | _, _ => none
def eFn2 (f : PyData → PyData → Option PyData) (t : M (List VD)) : M VD := do
  let xs ← t
  match xs with
  | [x, y] => do let d ← peek x; let e ← peek y; let r ← ofO (f d e); scal r
  | _ => M.bad
theorem d_fn2 {x : Str} {id : String} {f : PyData → PyData → Option PyData} {t : M (List VD)} {p : Pos} {rr : List V → Hp → VK → Prop} (hc : CallR X (.builtin id) rr) (hf : ∀ (v w : V) (d e r : PyData) (z : V) (H : Hp) (Q : VK), Dd X.K H v d → Dd X.K H w e → f d e = some r → scalV r = some z → Q z H → rr [v, w] H Q)
    (ht : PDA X E [a, b] t) (hg : Gl X x) (hm : X.mg x = none) (hv : bootBuiltins x = some (.builtin id)) (hn : x ≠ "__name__" := by decide) (hd : (x == ("__debug__" : Str)) = false := by decide)
    (he : starEach [a, b] X.env = (false, eval a X.env) :: starEach [b] X.env := by rfl) (hpl : (backTo pos (starEach [b] X.env)).any (·.1) = false := by rfl) : PD X E (.Call (.Name x p) [a, b] [] pos) (eFn2 f t) :=
  PE.weak (pe_callB hc hg hm hv ht (hn := hn) (hdb := hd) (he := he) (hpl := hpl)) fun σ H Q q => by
  obtain ⟨F, rs, S, G, m, p⟩ := q
  refine ⟨F, rs, S, G, m, (Post.seq p).mono fun vs H1 ⟨rs1, S1, G1, xs, u1, m1, r1, p1⟩ => ?_⟩
  match xs, vs, r1, p1 with
  | [x, y], [v, w], r1, p1 =>
    obtain ⟨d, hd, p2⟩ := Post.peek p1
    obtain ⟨e, he, p3⟩ := Post.peek p2
    obtain ⟨r, hr, p4⟩ := Post.ofO p3
    obtain ⟨z, hz, p5⟩ := Post.scal m1 p4
    exact hf _ _ _ _ _ _ _ _ (m1.peek r1.1 hd) (m1.peek r1.2.1 he) hr hz p5
  | [], _, _, p1 => exact p1.elim
  | [_], _, _, p1 => exact p1.elim
  | _ :: _ :: _ :: _, _, _, p1 => exact p1.elim
  | [_, _], [], r1, _ => exact r1.elim
  | [_, _], [_], r1, _ => exact r1.2.elim
  | [_, _], _ :: _ :: _ :: _, r1, _ => exact r1.2.2.elim
theorem d_min2 {t : M (List VD)} {p : Pos} (hc : X.calm = true) (ht : PDA X E [a, b] t) (hm : X.mg "min" = none) (hg : Gl X "min" := by rfl) (he : starEach [a, b] X.env = (false, eval a X.env) :: starEach [b] X.env := by rfl) (hpl : (backTo pos (starEach [b] X.env)).any (·.1) = false := by rfl) : PD X E (.Call (.Name "min" p) [a, b] [] pos) (eFn2 fMin2 t) :=
  d_fn2 (call_min2 hc) (fun v w d e r z H Q h1 h2 h3 h4 q => by
    cases d <;> cases e <;> cases h3
    cases h1; cases h2; cases h4
    exact ⟨_, _, rfl, q⟩) ht hg hm (by decide +kernel) (he := he) (hpl := hpl)
theorem d_max2 {t : M (List VD)} {p : Pos} (hc : X.calm = true) (ht : PDA X E [a, b] t) (hm : X.mg "max" = none) (hg : Gl X "max" := by rfl) (he : starEach [a, b] X.env = (false, eval a X.env) :: starEach [b] X.env := by rfl) (hpl : (backTo pos (starEach [b] X.env)).any (·.1) = false := by rfl) : PD X E (.Call (.Name "max" p) [a, b] [] pos) (eFn2 fMax2 t) :=
  d_fn2 (call_max2 hc) (fun v w d e r z H Q h1 h2 h3 h4 q => by
    cases d <;> cases e <;> cases h3
    cases h1; cases h2; cases h4
    exact ⟨_, _, rfl, q⟩) ht hg hm (by decide +kernel) (he := he) (hpl := hpl)
end
end DL
/-! SI1: set(x), x a list of ints. -/
namespace NS
open L2 PyProof.Rows PySem PySem.Spec
section
variable {P : Program} {w : World} {A : Around} {E : Value → Shared → Prop} {st : Shared}

set_option maxHeartbeats 3200007 in
/-- set(x), x a list of whole numbers -/
theorem set_of_ints {l : Addr} {items : Array Value} (ns : List Int) {Q : Value → Shared → Prop} (hh : A.handled = none) (hl : st.heap.IsList l items) (hit : IntsAre items.toList ns) (few : ns.length + 1 < scanBound)
    (fin : ∀ (h' : Heap) (tk c : Nat), SetR w h' st.heap.objs.size (fun j => decide (j ∈ ns)) c → c ≤ ns.length → (∀ b o, st.heap.get? b = some o → h'.get? b = some o) → Q (.ref st.heap.objs.size) { st with heap := h', toks := tk }) :
    wpAny (model P w) A (call (.type "set") [.ref l]) Q E st := by
  have cnt : items.size = ns.length := by
    have q := IntsAre.length hit
    rw [Array.length_toList] at q
    exact q
  obtain ⟨c0, tl0, mro0⟩ := F.called_set.mro
  have f_made := F.called_set.made
  have f_sub := F.called_set.sub
  have f_not := F.called_set.notType
  have f_can := F.called_set.canCreate
  have f_call := F.typeCall_set_1 (.ref l); refine wpAny_call (codeAny_of_tree ?_)
  show wpAny _ _ (callAny (.type "set") _) _ _ _; refine wpAny_pure ⟨Code.quiet_builtin _ (by decide +kernel), codeAny_builtin F.entry_type_call ?_⟩; rw [Around.under_plain (weight_type_call_type "set" [.ref l] []) rfl]; repeat (any_goals (first | assumption | wp_step))
  -- the new set
  have laid : (st.heap.push (emptySet w)).get? st.heap.objs.size = some (emptySet w) := Heap.get?_push_size _ rfl
  refine codeAny_mono (code_set_led1 (.ref l) (E := E) (Q₁ := fun u s1 => u = .ref st.heap.objs.size ∧ s1 = { st with heap := st.heap.push (emptySet w) }) ⟨rfl, rfl⟩) fun r s1 hr => ?_
  match r, hr with
  | .error e, hr => exact hr
  | .ok (.ret u), hr =>
    obtain ⟨rfl, rfl⟩ := hr
    have isSet : Shared.TypeIs { st with heap := st.heap.push (emptySet w) } (.ref st.heap.objs.size) "set" := ⟨_, laid, rfl⟩
    have f_il := F.called_set.init.lookup
    have f_ib := F.called_set.init.bind (.ref st.heap.objs.size); repeat (any_goals (first | assumption | wp_step))
    refine codeAny_mono (codeAny_call_builtin (R := wants (fun r s2 => r = .none ∧ ∃ h' tk c, s2 = { st with heap := h', toks := tk } ∧ SetR w h' st.heap.objs.size (fun j => decide (j ∈ ns)) c ∧ c ≤ ns.length ∧
        (∀ b o, st.heap.get? b = some o → h'.get? b = some o)) E) F.called_set.init.plain F.entry_set_init (check_set_init_1 isSet ?_)) fun r2 s2 hr2 => ?_
    · obtain ⟨⟨cl, dc, dt, sl⟩, at_l, cls_l, nl, dat_l⟩ := id hl
      simp only at cls_l dat_l
      subst cls_l
      subst dat_l
      have lt_l : l < st.heap.objs.size := Heap.lt_size at_l
      have at_l1 : (st.heap.push (emptySet w)).get? l = some { cls := .type "list", dict := dc, data := .seq items nl, slots := sl } := Heap.get?_push_of_some _ at_l
      have f_s1 := F.sub_list_set
      have f_s2 := F.sub_list_frozenset
      have f_nd : (Value.type "list" == Value.type "dict") = false := by decide
      have seq1 : (st.heap.push (emptySet w)).IsList l items := ⟨_, at_l1, rfl, nl, rfl⟩
      have cool : A.in1.in1.in1.handled = none := by simp [hh]
      unfold Builtin.«set.__init__» noKeywords Builtin.Frozenset.updateFrom; generalize epi : pyIter = PI
      wp_walk
      subst epi
      refine wpAny_pyIter_list seq1 ?_; refine wpAny_bind (wpAny_runValue ?_)
      have ne_it : l ≠ (st.heap.push (emptySet w)).objs.size := by
        rw [Heap.size_push]
        exact Nat.ne_of_lt (Nat.lt_succ_of_lt lt_l)
      have off_it : st.heap.objs.size ∉ [(st.heap.push (emptySet w)).objs.size, l] := by
        rw [Heap.size_push]
        simp only [List.mem_cons, List.not_mem_nil, or_false, not_or]
        exact ⟨Nat.ne_of_lt (Nat.lt_succ_self _), Nat.ne_of_gt lt_l⟩
      have val : ∀ (i : Nat) (v : Value), items[i]? = some v → ∃ k t, ns[i]? = some k ∧ v = .int k t := fun i v hv => by
        have hi : i < ns.length := by rw [← cnt]; exact (Array.getElem?_eq_some_iff.mp hv).1
        obtain ⟨t, e⟩ := IntsAre.int_at hit i v (by rw [Array.getElem?_toList]; exact hv)
        exact ⟨ns[i], t, List.getElem?_eq_getElem hi, by rw [e, List.getD_eq_getElem?_getD, List.getElem?_eq_getElem hi]; rfl⟩
      refine set_update_ints ((Walks.list cool _ l ne_it items).toS) st.heap.objs.size off_it ns cnt few val (items.size - 0) 0 _ (by omega) (Nat.zero_le _)
        ⟨⟨_, Heap.get?_push_size _ rfl, rfl, rfl⟩, (seq1.push _)⟩ ⟨0, Nat.le_refl 0, setR_new_at (Heap.get?_push_of_some _ laid)⟩ ?_
      intro s' c' mv hc' hS'
      obtain ⟨h', g2, d2, t2, o2⟩ := s'
      have eg : g2 = st.gens := mv.gens
      have ed : d2 = st.drawn := mv.drawn
      have eo : o2 = st.os := mv.os
      subst eg
      subst ed
      subst eo
      refine wpAny_pure ?_
      rw [cnt] at hc'
      refine wpAny_pure ⟨rfl, h', t2, c', rfl, hS', hc', fun b o e => ?_⟩
      have lt := Heap.lt_size e
      refine mv.heap b o (fun z => ?_) (Heap.get?_push_of_some _ (Heap.get?_push_of_some _ e))
      rw [Heap.size_push] at z; rcases List.mem_cons.mp z with z | z
      · exact absurd lt (by rw [z]; exact Nat.lt_irrefl _)
      · exact absurd lt (by rw [List.mem_singleton.mp z]; exact Nat.not_lt.mpr (Nat.le_succ _))
    · match r2, hr2 with
      | .error e, hr2 => exact hr2
      | .ok (.ret r), hr2 =>
        obtain ⟨rfl, h', tk, c, rfl, Z, g, k1⟩ := hr2; repeat (any_goals (first | assumption | wp_step))
        exact fin _ _ _ Z g k1
      | .ok .next, hr2 => exact hr2.elim
      | .ok .brk, hr2 => exact hr2.elim
      | .ok .cont, hr2 => exact hr2.elim
  | .ok .next, hr => exact hr.elim
  | .ok .brk, hr => exact hr.elim
  | .ok .cont, hr => exact hr.elim
end
end NS
/-! SI2: sets of whole numbers as cells. -/
namespace DL
open PySem PySem.Spec L2
/-- each number once -/
def onceI : List Int → List Int
  | [] => []
  | k :: ks => if k ∈ onceI ks then onceI ks else k :: onceI ks
theorem mem_onceI {x : Int} : ∀ {ks : List Int}, x ∈ onceI ks ↔ x ∈ ks
  | [] => Iff.rfl
  | k :: ks => by
    unfold onceI
    split
    · rename_i h
      rw [List.mem_cons, mem_onceI]
      exact ⟨.inr, fun z => z.elim (fun e => e ▸ mem_onceI.mp h) id⟩
    · rw [List.mem_cons, List.mem_cons, mem_onceI]
theorem onceI_nodup : ∀ ks : List Int, (onceI ks).Nodup
  | [] => List.nodup_nil
  | k :: ks => by
    unfold onceI
    split
    · exact onceI_nodup ks
    · rename_i h
      exact List.nodup_cons.mpr ⟨h, onceI_nodup ks⟩
/-- ascending, each once -/
def insI (k : Int) : List Int → List Int
  | [] => [k]
  | x :: xs => if k < x then k :: x :: xs else if k = x then x :: xs else x :: insI k xs
def sortI (ks : List Int) : List Int := ks.foldr insI []
theorem mem_insI {k y : Int} : ∀ {xs : List Int}, y ∈ insI k xs ↔ y = k ∨ y ∈ xs
  | [] => by simp [insI]
  | x :: xs => by
    unfold insI
    split
    · simp
    · split
      · rename_i h; subst h; simp
      · rw [List.mem_cons, mem_insI, List.mem_cons]
        constructor
        · rintro (h | h | h)
          · exact .inr (.inl h)
          · exact .inl h
          · exact .inr (.inr h)
        · rintro (h | h | h)
          · exact .inr (.inl h)
          · exact .inl h
          · exact .inr (.inr h)
theorem mem_sortI {y : Int} : ∀ {ns : List Int}, y ∈ sortI ns ↔ y ∈ ns
  | [] => Iff.rfl
  | k :: ns => by
    show y ∈ insI k (sortI ns) ↔ _
    rw [mem_insI, mem_sortI, List.mem_cons]
theorem insI_up {k : Int} : ∀ {xs : List Int}, xs.Pairwise (· < ·) → (insI k xs).Pairwise (· < ·)
  | [], _ => by simp [insI]
  | x :: xs, h => by
    obtain ⟨h1, h2⟩ := List.pairwise_cons.mp h; unfold insI
    split
    · rename_i hk
      refine List.pairwise_cons.mpr ⟨fun y hy => ?_, h⟩
      rcases List.mem_cons.mp hy with rfl | z
      · exact hk
      · have := h1 y z; omega
    · split
      · exact h
      · refine List.pairwise_cons.mpr ⟨fun y hy => ?_, insI_up h2⟩
        rcases mem_insI.mp hy with rfl | z
        · omega
        · exact h1 y z
theorem sortI_up : ∀ ns : List Int, (sortI ns).Pairwise (· < ·)
  | [] => List.Pairwise.nil
  | k :: ns => insI_up (sortI_up ns)
theorem up_uniq : ∀ {xs ys : List Int}, xs.Pairwise (· < ·) → ys.Pairwise (· < ·) → (∀ k, k ∈ xs ↔ k ∈ ys) → xs = ys
  | [], [], _, _, _ => rfl
  | [], y :: ys, _, _, h => absurd ((h y).mpr List.mem_cons_self) (by simp)
  | x :: xs, [], _, _, h => absurd ((h x).mp List.mem_cons_self) (by simp)
  | x :: xs, y :: ys, hx, hy, h => by
    obtain ⟨x1, x2⟩ := List.pairwise_cons.mp hx
    obtain ⟨y1, y2⟩ := List.pairwise_cons.mp hy
    have e : x = y := by
      rcases List.mem_cons.mp ((h x).mp List.mem_cons_self) with e | z
      · exact e
      · rcases List.mem_cons.mp ((h y).mpr List.mem_cons_self) with e | z'
        · exact e.symm
        · have a := y1 x z; have b := x1 y z'; omega
    subst e
    rw [up_uniq x2 y2 fun k => ?_]
    constructor
    · intro hk
      rcases List.mem_cons.mp ((h k).mp (List.mem_cons_of_mem _ hk)) with e | z
      · have := x1 k hk; omega
      · exact z
    · intro hk
      rcases List.mem_cons.mp ((h k).mpr (List.mem_cons_of_mem _ hk)) with e | z
      · have := y1 k hk; omega
      · exact z
theorem up_nodup {xs : List Int} (h : xs.Pairwise (· < ·)) : xs.Nodup := h.imp fun a e => by omega

/-! ### set(x) -/
def intsOf : List PyData → Option (List Int)
  | [] => some []
  | .int k :: ds => (intsOf ds).map (k :: ·)
  | _ :: _ => none
theorem intsOf_vs {K : PySem.W.Frag} {G : Hp} : ∀ {ds : List PyData} {vs : List V} {ns : List Int}, intsOf ds = some ns → DdAll K G vs ds → vs = ns.map V.int ∧ ds = ns.map PyData.int
  | [], _, _, h, .nil => by cases h; exact ⟨rfl, rfl⟩
  | .int k :: ds, _, _, h, .cons r t => by
    unfold intsOf at h
    cases e : intsOf ds with
    | none => (rw [e] at h; cases h)
    | some ms =>
      rw [e] at h
      cases h
      cases r
      obtain ⟨h1, h2⟩ := intsOf_vs e t
      exact ⟨by rw [h1]; rfl, by rw [h2]; rfl⟩
theorem dd_ints {K : PySem.W.Frag} {G : Hp} : ∀ ns : List Int, DdAll K G (ns.map V.int) (ns.map PyData.int)
  | [] => .nil
  | k :: ns => .cons (.int k) (dd_ints ns)
theorem ints_vals : ∀ {ns : List Int} {us : List Value}, Vals (ns.map V.int) us → PyProof.Rows.IntsAre us ns
  | [], _, .nil => .nil
  | k :: ns, _, .cons r t => by
    obtain ⟨tk, rfl⟩ := r
    exact .cons k tk (ints_vals t)
theorem setR_once {w : World} {h : Heap} {a : Addr} {ns : List Int} {n : Nat} (R : SetR w h a (fun j => decide (j ∈ ns)) n) : SetR w h a (fun j => decide (j ∈ onceI ns)) (onceI ns).length := by
  have R' : SetR w h a (fun j => decide (j ∈ onceI ns)) n := R.congr fun k => by rw [decide_eq_decide]; exact mem_onceI
  have e : n = (onceI ns).length := by
    obtain ⟨o, es, ep, t, ho, hx, hd, g, nd, hm, hb, hf, hn, _⟩ := R'
    have p : (es.toList.map L2.keyOf).Perm (onceI ns) := (List.perm_ext_iff_of_nodup nd (onceI_nodup ns)).mpr fun k => by
      rw [← hm k, decide_eq_true_eq]
    rw [← p.length_eq, List.length_map, Array.length_toList]
    exact hn.symm
  rw [← e]
  exact R'
section
variable {X : Cx} {E : XK} {e a b : Expr} {es : List Expr} {pos p p1 p2 : Pos}
def rSetI (K : PySem.W.Frag) (w : World) : List V → Hp → VK → Prop := fun xs H Q => ∃ a ns, xs = [V.ref a] ∧ (Rd H a (.lst (ns.map V.int)) ∨ SqT K H a (ns.map V.int)) ∧ ns.length ≤ 1000 ∧
  ∀ q, H q = none → Q (.ref q) (upd H q (SetO w q (fun k => decide (k ∈ onceI ns)) (onceI ns).length))
theorem c_setI (hc : X.calm = true) : CallR X (.type "set") (rSetI X.K X.w) := by
  intro pins s σ H xs us Q I r h; obtain ⟨a, ns, rfl, ha, hl, q⟩ := h; obtain ⟨u, rfl, ru⟩ := vals1 r
  cases ru
  have few : ns.length + 1 < scanBound := by unfold scanBound; omega
  have done : ∀ (h' : Heap) (tk c : Nat), SetR X.w h' s.heap.objs.size (fun j => decide (j ∈ ns)) c → c ≤ ns.length → (∀ b o, s.heap.get? b = some o → h'.get? b = some o) → EP X pins σ Q (.ref s.heap.objs.size) { s with heap := h', toks := tk } := fun h' tk c R _ k =>
    ⟨.ref s.heap.objs.size, _, I.laid (t' := tk) k (Nat.le_refl _) (setO_new (setR_once R)), rfl, q _ (I.hok.fresh (Nat.le_refl _))⟩
  rcases ha with ha | ha
  · obtain ⟨its, rv, pl, hz⟩ := I.list (.inl ha)
    exact NS.set_of_ints ns (I.ok.hd hc) pl.isList (by simpa using ints_vals rv) few done
  · obtain ⟨its, rv, pl, hz⟩ := I.tuple ha
    exact call_set_tupI ns (I.ok.hd hc) pl (by simpa using ints_vals rv) few done
def newS (ns : List Int) : M VD := fun S => .ok (.rf S.ce.length, { S with ce := S.ce ++ [.si ns] })
theorem newSt {F : Hp} {rs : List Addr} {S : DS} {σ : L2.St} {H G : Hp} {ns : List Int} {Q : VK} (m : Md X.K X.wd F rs S σ H G) (hn : ns.Nodup) (h : Post X.K X.wd X.mg E F σ (RdV X.K X.wd) rs G (newS ns S) Q) {p : Addr} (hp : H p = none) :
    Q (.ref p) (upd H p (SetO X.w p (fun k => decide (k ∈ ns)) ns.length)) :=
  h (.ref p) _ G (rs ++ [p]) ⟨⟨[p], rfl⟩, L2.Same.refl G⟩ (m.cellS hp hn) ⟨p, by rw [← m.rl]; simp, rfl⟩
def setAD (ds : List PyData) : M VD := match intsOf ds with
  | some ns => do chk (decide (ns.length ≤ 1000)); newS (onceI ns)
  | none => do chk (ds.all DL.setEl && decide (ds.length < 64)); pure (.st ds)
def eSetA (ta : M VD) : M VD := do let x ← ta; let c ← peek x; let ds ← ofO (asSeq c); setAD ds
theorem c_setA (hc : X.calm = true) (hu : X.A.units + 200 < cLine) : CallR X (.type "set") (fun xs H Q => rSetI X.K X.w xs H Q ∨ rSet X.K X.w xs H Q) := fun pins s σ H xs us Q I r h => h.elim (c_setI hc pins s σ H xs us Q I r) (c_set hc hu pins s σ H xs us Q I r)
theorem d_setA {ta : M VD} (hc : X.calm = true) (hu : X.A.units + 200 < cLine) (ha : PD X E a ta) (hm : X.mg "set" = none) (hg : Gl X "set" := by rfl) (na : starEach [a] X.env = (false, eval a X.env) :: starEach [] X.env := by rfl) (hpl : (backTo pos (starEach [] X.env)).any (·.1) = false := by rfl) :
    PD X E (.Call (.Name "set" p) [a] [] pos) (eSetA ta) := PE.weak (pe_callTy (c_setA hc hu) hg hm (by decide +kernel) (pa_cons ha pa_nil na) (he := na) (hpl := hpl)) fun σ H Q q => by
  obtain ⟨F, rs, S, G, m, p⟩ := q
  refine ⟨F, rs, S, G, m, (Post.seq p).mono fun v H1 ⟨rs1, S1, G1, x, u1, m1, r1, p1⟩ => ?_⟩
  obtain ⟨d, hd, p2⟩ := Post.peek p1
  obtain ⟨ds, hs, p3⟩ := Post.ofO p2
  obtain ⟨b, vs, rfl, hda, hk⟩ := m1.seq r1 hd hs
  have at_ : Rd H1 b (.lst vs) ∨ SqT X.K H1 b vs := hk.elim (fun y => .inl y.2) (fun y => .inr y.2.1.sqt)
  unfold setAD at p3
  cases ei : intsOf ds with
  | some ns =>
    rw [ei] at p3
    obtain ⟨hz, p4⟩ := Post.chk p3
    obtain ⟨rfl, _⟩ := intsOf_vs ei hda
    exact .inl ⟨b, ns, rfl, at_, of_decide_eq_true hz, fun q hq => newSt m1 (onceI_nodup ns) p4 hq⟩
  | none =>
    rw [ei] at p3
    obtain ⟨hz, p4⟩ := Post.chk p3
    rw [Bool.and_eq_true, decide_eq_true_eq] at hz
    refine .inr ⟨b, vs, ds, rfl, at_, DdAll.same m1.sub _ _ hda, hz.1, hz.2, fun q B hq h1 h2 => ?_⟩
    have gq := L2.Same.free m1.sub hq
    refine p4 (.ref q) _ (upd G1 q (NS.setHO X.w q B)) rs1 ⟨⟨[], by simp⟩, same_upd gq⟩ (m1.new hq) ⟨q, B, rfl, upd_same, fun p hp => ?_, h2⟩
    obtain ⟨d, y1, y2, y3, y4⟩ := (h1 p hp).dd hda
    exact ⟨d, y1, y2, y3, Dd.same (same_upd gq) _ _ y4⟩

/-! ### sorted(set) -/
def eSortA (ta : M VD) : M VD := do
  let x ← ta
  match x with
  | .st ds => do chk (sortB ds); newL (sortSD ds)
  | .rf j => fun S => match S.ce[j]? with
    | some (.si ns) => if ns.length < 64 then newL ((sortI ns).map .int) S else .bad
    | _ => .bad
  | _ => M.bad
theorem c_sortA (hc : X.calm = true) (hu : X.A.units + 200 < cLine) : CallR X (.builtin "sorted") (fun xs H Q => rSortedSet X.w xs H Q ∨ rSortS X.K X.w xs H Q) := fun pins s σ H xs us Q I r h => h.elim (cr_sortedSet hc pins s σ H xs us Q I r) (c_sortS hc hu pins s σ H xs us Q I r)
theorem sortS_post {F : Hp} {rs : List Addr} {S : DS} {σ : L2.St} {H G : Hp} {Q : VK} {ds : List PyData} {v : V} (m1 : Md X.K X.wd F rs S σ H G) (r1 : RdV X.K X.wd rs G (.st ds) v) (p1 : Post X.K X.wd X.mg E F σ (RdV X.K X.wd) rs G ((do chk (sortB ds); newL (sortSD ds) : M VD) S) Q) : rSortS X.K X.w [v] H Q := by
  obtain ⟨hb, p2⟩ := Post.chk p1
  obtain ⟨a, B, rfl, h1, h2, h3⟩ := r1
  refine ⟨a, B, ds, rfl, m1.sub _ _ h1, fun p hp => ?_, hb, fun q L hq pL hn => ?_⟩
  · obtain ⟨d, q1, q2, q3, q4⟩ := h2 p hp
    exact ⟨d, q1, q2, q3, Dd.same m1.sub _ _ q4⟩
  · have enc : ∀ p ∈ B, NS.dataOf p.2 ∈ ds ∧ Dd X.K G (.ref p.1) (NS.dataOf p.2) ∧ NS.keyOf (NS.dataOf p.2) = some p.2 := fun p hp => by
      obtain ⟨d, q1, q2, q3, q4⟩ := h2 p hp
      rw [NS.data_key d p.2 q2]
      exact ⟨q1, q4, q2⟩
    have big : (L.mergeSort (W.dataLe false encE)).map encE = sortSD ds := by
      rw [W.sort_maps (r := W.dataLe false encE) (s := NS.leD) encE fun _ _ _ _ => rfl]
      have pm : (L.map encE).Perm ((NS.once (keysD ds)).map NS.dataOf) := by
        have y := (once_perm hn (fun p hp => let ⟨d, q1, q2, _⟩ := h2 p hp; ⟨d, q1, q2⟩) h3).map NS.dataOf
        rw [List.map_map] at y
        exact (pL.map encE).trans y
      have inB : ∀ d ∈ L.map encE, d ∈ ds ∧ ∃ k, NS.keyOf d = some k := fun d hd => by
        obtain ⟨p, hp, rfl⟩ := List.mem_map.mp hd
        exact ⟨(enc p (pL.mem_iff.mp hp)).1, _, (enc p (pL.mem_iff.mp hp)).2.2⟩
      have nd : (L.map encE).Nodup := by
        have y : L.Pairwise fun p q => p.2 ≠ q.2 := List.pairwise_map.mp ((pL.map (fun p : NS.El => p.2)).nodup_iff.mpr hn)
        refine List.pairwise_map.mpr (y.imp_of_mem fun {p q} hp hq ne e => ne ?_)
        have z1 : NS.keyOf (encE p) = some p.2 := (enc p (pL.mem_iff.mp hp)).2.2
        rw [e] at z1
        have z2 : NS.keyOf (encE q) = some q.2 := (enc q (pL.mem_iff.mp hq)).2.2
        rw [z2] at z1
        exact (Option.some.inj z1).symm
      have hb' := hb
      unfold sortB at hb'
      simp only [Bool.and_eq_true, List.all_eq_true] at hb'
      exact NS.sort_same pm nd (fun d hd => (inB d hd).2) fun d hd d' hd' => hb'.1 _ (inB d hd).1 _ (inB d' hd').1
    rw [← big] at p2
    exact newLst m1 (dd_sorted fun p hp => (enc p (pL.mem_iff.mp (List.mem_mergeSort.mp hp))).2.1) p2 hq
theorem d_sortA {ta : M VD} (hc : X.calm = true) (hu : X.A.units + 200 < cLine) (ha : PD X E a ta) (hm : X.mg "sorted" = none) (hg : Gl X "sorted" := by rfl) (na : starEach [a] X.env = (false, eval a X.env) :: starEach [] X.env := by rfl) (hpl : (backTo pos (starEach [] X.env)).any (·.1) = false := by rfl) :
    PD X E (.Call (.Name "sorted" p) [a] [] pos) (eSortA ta) := PE.weak (pe_callB (c_sortA hc hu) hg hm (by decide +kernel) (pa_cons ha pa_nil na) (he := na) (hpl := hpl)) fun σ H Q q => by
  obtain ⟨F, rs, S, G, m, p⟩ := q
  refine ⟨F, rs, S, G, m, (Post.seq p).mono fun v H1 ⟨rs1, S1, G1, x, u1, m1, r1, p1⟩ => ?_⟩
  cases x with
  | st ds => exact .inr (sortS_post m1 r1 p1)
  | rf j =>
    obtain ⟨a, ha, rfl⟩ := r1
    dsimp only at p1
    cases e : S1.ce[j]? with
    | none => rw [e] at p1; exact p1.elim
    | some c =>
      cases c with
      | dk _ => rw [e] at p1; exact p1.elim
      | ls _ _ => rw [e] at p1; exact p1.elim
      | si ns =>
        rw [e] at p1
        dsimp only at p1
        split at p1
        · rename_i h64
          obtain ⟨_, _, hs, hn⟩ := m1.cel j a _ ha e
          refine .inl ⟨a, _, _, rfl, hs, h64, fun ks q up mem _ hq => ?_⟩
          have ek : ks = sortI ns := up_uniq up (sortI_up ns) fun k => by rw [mem k, decide_eq_true_eq, mem_sortI]
          subst ek
          exact newLst m1 (dd_ints _) p1 hq
        · exact p1.elim
  | _ => exact p1.elim
end
end DL
/-! SC2: a clause of any comprehension, walked once for all; {elt for .. for ..} of whole numbers. -/
namespace SC
open L2 PyProof.Rows PySem PySem.Spec
abbrev okTests (ifs : List Expr) (env : Env) : Sem Bool := forIn ifs true fun c r => if r = true then do let ok ← isTrue c env (eval c env); pure (ForInStep.yield ok) else pure (ForInStep.yield r)
/-- a turn of a clause; act: what follows where the tests hold -/
def turnOf (tg : Expr) (ifs : List Expr) (p : Pos) (it : Value) (env : Env) (act : Sem PySem.Fin) (back : Code) : Sem PySem.Fin := do
  standAt p
  match ← pyNext it with
  | none => pure (.done .next)
  | some v =>
    letOwnedTupleGo tg it v
    assign tg env v
    let ok ← okTests ifs env
    if ok then act else again back
abbrev NoE : Value → Shared → Prop := fun _ _ => False
section
variable {prog : Program} {w : World} {A : Around} {R : Result → Shared → Prop} {s : Shared} {ex tg : Expr} {ifs : List Expr} {d : Nat} {p : Pos} {it acc : Value} {env : Env} {act : Sem PySem.Fin}
/-- what a code of a comprehension's loop is, the World aside -/
structure Plain (c : Code) (t : Sem PySem.Fin) : Prop where
  wt : c.weight = 0
  un : c.cUnits = 0
  den : ∀ prog w, (model prog w).den c = t
theorem clause_loop (hP : Plain (.compLoop ex d it acc env) ((compTurn ex d it acc env).onRaise (fun x => do noteFrame x env; theTreesLotGoes x))) (ht : compTurn ex d it acc env = turnOf tg ifs p it env act (.compLoop ex d it acc env)) (I : Nat → Shared → Prop)
    (turn : ∀ n s, I n s → wpAny (model prog w) A (pyNext it) (fun r s1 => match r with
      | none => R (.ok .next) s1
      | some v => wpAny (model prog w) A (letOwnedTupleGo tg it v) (fun _ s2 => wpAny (model prog w) A (assign tg env v) (fun _ s3 => wpAny (model prog w) A (okTests ifs env) (fun ok s4 =>
          if ok = true then wpAny (model prog w) A act (fun fin s' => fin = .again (.compLoop ex d it acc env) ∧ ∃ m, m < n ∧ I m s') NoE s4 else ∃ m, m < n ∧ I m s4) NoE s3) NoE s2) NoE s1) NoE s)
    (n : Nat) (h : I n s) : codeAny (model prog w) A (.compLoop ex d it acc env) R s := by
  refine codeAny_loop rfl I (fun n s hI => ?_) n h; rw [Around.under_of_weight hP.wt hP.un, hP.den]
  refine wpAny_noted ?_
  rw [ht]
  unfold turnOf
  refine wpAny_bind (wpAny_standAt (wpAny_bind (thnF (turn n s hI) fun r s1 h1 => ?_)))
  cases r with
  | none => exact wpAny_pure h1
  | some v =>
    refine wpAny_bind (thnF h1 fun _ s2 h2 => wpAny_bind (thnF h2 fun _ s3 h3 => wpAny_bind (thnF h3 fun ok s4 h4 => ?_)))
    cases ok with
    | false => exact wpAny_pure ⟨rfl, h4⟩
    | true =>
      refine thnF h4 fun fin s' ⟨e, q⟩ => ?_
      subst e
      exact ⟨rfl, q⟩
end
theorem clause_ok {Xb : Cx} (hc : Xb.calm = true) (hxe : Xb.xe = NoE) {pins : List (Addr × Obj)} {σ0 : L2.St} {H0 : Hp} {s0 : Shared} {ex tg : Expr} {ifs : List Expr} {d : Nat} {p : Pos} {it : Addr} {acc : Value} {act : Sem PySem.Fin} {J : It} {fp : List Addr} {tn : Nat → Heap → Prop} {g : TG} {tt : TT} {R : Result → Shared → Prop}
    (hP : Plain (.compLoop ex d (.ref it) acc Xb.env) ((compTurn ex d (.ref it) acc Xb.env).onRaise (fun x => do noteFrame x Xb.env; theTreesLotGoes x))) (ht : compTurn ex d (.ref it) acc Xb.env = turnOf tg ifs p (.ref it) Xb.env act (.compLoop ex d (.ref it) acc Xb.env))
    (T : Turn Xb.prog Xb.w Xb.K tg J fp it tn) (pg : PG Xb tg g) (pt : PTs Xb ifs tt) (I0 : Inv Xb pins σ0 H0 s0) (st0 : tn 0 s0.heap) (f0 : ∀ b ∈ fp, FpOk Xb pins H0 b)
    {W : Nat → Nat → Hp → Prop} {m0 : Nat} (w0 : W 0 m0 H0) {Qd : Hp → Prop} {Body : L2.St → Hp → (Hp → Prop) → Prop} {Keep : L2.St → Prop}
    (step : ∀ i m H, W i m H → (J.stop i H ∧ Qd H) ∨ (J.go i H ∧ ∃ Nx : Hp → Prop, (∀ H', Nx H' → ∃ m', m' < m ∧ W (i + 1) m' H') ∧ ∀ x H', J.yld i H x H' → g x σ0 H' fun σ2 H2 => Keep σ2 ∧ tt σ2 H2 fun b H3 => if b = true then Body σ2 H3 Nx else Nx H3))
    (keep : ∀ σ2, Keep σ2 → σ0.length = σ2.length ∧ ∀ (j : Nat) v, σ0[j]? = some (some v) → σ2[j]? = some (some v))
    (inner : ∀ (pins' : List (Addr × Obj)) (σ2 : L2.St) (H3 : Hp) (s : Shared) (Nx : Hp → Prop) (Q : PySem.Fin → Shared → Prop), Keep σ2 → Inv Xb (pins ++ pins') σ2 H3 s → Body σ2 H3 Nx →
      (∀ s' σ' H', Inv Xb (pins ++ pins') σ' H' s' → σ0.length = σ'.length → (∀ (j : Nat) v, σ0[j]? = some (some v) → σ'[j]? = some (some v)) → Nx H' → Q (.again (.compLoop ex d (.ref it) acc Xb.env)) s') → wpAny (model Xb.prog Xb.w) Xb.A act Q NoE s)
    (fin : ∀ s' H', Inv Xb pins σ0 H' s' → Qd H' → R (.ok .next) s') : codeAny (model Xb.prog Xb.w) Xb.A (.compLoop ex d (.ref it) acc Xb.env) R s0 := by
  have own : ∀ {H' : Hp}, (∀ b ∈ fp, H' b = none) → ∀ b ∈ fp, FpOk Xb pins H' b := fun hn b hb => ⟨hn b hb, (f0 b hb).2⟩
  refine clause_loop hP ht (fun n s' => ∃ i H', Inv Xb pins σ0 H' s' ∧ tn i s'.heap ∧ (∀ b ∈ fp, H' b = none) ∧ W i n H') ?_ m0 ⟨0, H0, I0, st0, fun b hb => (f0 b hb).1, w0⟩
  (rintro n s5 ⟨i, H5, I5, st5, n5, w5⟩)
  rcases step i n H5 w5 with ⟨stop, qq⟩ | ⟨go, Nx, hNx, hst⟩
  · refine thnF (T.done Xb rfl rfl rfl hc i pins s5 σ0 H5 NoE I5 (own n5) st5 stop) fun r s6 ⟨hr, I6⟩ => ?_
    subst hr
    exact fin s6 H5 I6 qq
  · refine thnF (T.item Xb rfl rfl rfl hc i pins s5 σ0 H5 NoE I5 (own n5) st5 go) fun r s6 ⟨u, hr, h6⟩ => ?_
    subst hr; refine thnF h6 fun _ s7 ⟨x, H7, I7, r7, y7, st7, n7⟩ => ?_
    have I7' := I7.pinned (own n7) (T.obj _ _ st7)
    have a1 := pg.run _ s7 σ0 H7 x u _ I7' r7 (hst x H7 y7)
    rw [hxe] at a1
    refine thnF a1 fun _ s8 ⟨σ8, H8, I8, hk8, q8⟩ => ?_
    have a2 := pt.run _ s8 σ8 H8 _ I8 q8
    rw [hxe] at a2
    refine thnF a2 fun b s9 ⟨H9, I9, q9⟩ => ?_
    have back : ∀ {s' : Shared} {σ' : L2.St} {H' : Hp}, Inv Xb (pins ++ pinsAt fp s7.heap) σ' H' s' → σ0.length = σ'.length → (∀ (j : Nat) v, σ0[j]? = some (some v) → σ'[j]? = some (some v)) → Nx H' →
        ∃ m, m < n ∧ ∃ i H', Inv Xb pins σ0 H' s' ∧ tn i s'.heap ∧ (∀ b ∈ fp, H' b = none) ∧ W i m H' := fun {s' σ' H'} I' hl hv nx => by
      obtain ⟨m', hm, w'⟩ := hNx H' nx; have held : ∀ b ∈ fp, ∀ o, s7.heap.get? b = some o → s'.heap.get? b = some o ∧ H' b = none := fun b hb o e => let z := I'.pin (b, o) (List.mem_append_right _ (List.mem_append_right _ (mem_pinsAt hb e)))
        ⟨z.1, z.2.1⟩
      refine ⟨m', hm, i + 1, H', (I'.unpinned (pins := pins)).weak hl hv, T.keep _ _ _ st7 fun b hb o e => (held b hb o e).1, fun b hb => ?_, w'⟩; obtain ⟨o, e, _⟩ := T.obj _ _ st7 b hb
      exact (held b hb o e).2
    have k8 := keep σ8 hk8
    cases b with
    | false => exact back I9 k8.1 k8.2 q9
    | true => exact inner (pinsAt fp s7.heap) σ8 H9 s9 Nx _ hk8 I9 q9 fun s' σ' H' I' hl hv nx => ⟨rfl, back I' hl hv nx⟩

/-! ### {elt for tg in iter if .. for tg1 in iter1 if ..} -/
/-- a whole number goes into the set at D -/
def AddI (w : World) (D : Addr) (y : V) (H : Hp) (Nx : Hp → Prop) : Prop := ∃ (k : Int) (S : Int → Bool) (n : Nat), y = .int k ∧ H D = some (SetO w D S n) ∧ n + 1 < scanBound ∧ Nx (upd H D (SetO w D (fun j => S j || decide (j = k)) (if S k = true then n else n + 1)))
def tIn2 (Add : V → Hp → (Hp → Prop) → Prop) (wi1 : TI) (g1 : TG) (tt1 : TT) (te : TE) (vs1 : List Nat) (σ2 : L2.St) (H3 : Hp) (Nx : Hp → Prop) : Prop :=
  wi1 σ2 H3 fun J1 H4 => ∃ W1 : Nat → Nat → Hp → Prop, (∃ m, W1 0 m H4) ∧ ∀ j k H, W1 j k H → (J1.stop j H ∧ Nx H) ∨ (J1.go j H ∧ ∃ Nx1 : Hp → Prop, (∀ H', Nx1 H' → ∃ k', k' < k ∧ W1 (j + 1) k' H') ∧ ∀ x H', J1.yld j H x H' → g1 x (wipe σ2 vs1) H' fun σ3 H5 => wipe σ3 vs1 = wipe σ2 vs1 ∧ tt1 σ3 H5 fun b H6 =>
      if b = true then te σ3 H6 fun y H7 => Add y H7 Nx1 else Nx1 H6)
def tC2 (start : Addr → HO) (Add : Addr → V → Hp → (Hp → Prop) → Prop) (wi : TI) (g : TG) (tt : TT) (wi1 : TI) (g1 : TG) (tt1 : TT) (te : TE) (vs vs1 : List Nat) : TE := fun σ H Q => wi σ H fun J H1 => ∀ D, H1 D = none → ∃ W : Nat → Nat → Hp → Prop, (∃ m, W 0 m (upd H1 D (start D))) ∧ ∀ i m H, W i m H → (J.stop i H ∧ Q (.ref D) H) ∨ (J.go i H ∧ ∃ Nx : Hp → Prop, (∀ H', Nx H' → ∃ m', m' < m ∧ W (i + 1) m' H') ∧ ∀ x H', J.yld i H x H' → g x (wipe σ vs) H' fun σ2 H2 => wipe σ2 vs = wipe σ vs ∧ tt σ2 H2 fun b H3 =>
    if b = true then tIn2 (Add D) wi1 g1 tt1 te vs1 σ2 H3 Nx else Nx H3)
theorem keep_of {σa σb : L2.St} {vs : List Nat} (h : wipe σb vs = wipe σa vs) : (wipe σa vs).length = σb.length ∧ ∀ (j : Nat) v, (wipe σa vs)[j]? = some (some v) → σb[j]? = some (some v) :=
  ⟨by rw [← h, wipe_length], fun j v e => by rw [← h] at e; exact (wipe_some e).1⟩
section
variable {s : Shared} {X : Cx} {pins : List (Addr × Obj)} {σ : L2.St} {H : Hp}
theorem addI_ok (I : Inv X pins σ H s) {D : Addr} {y : V} {u : Value} {E : Value → Shared → Prop} {Nx : Hp → Prop} {Q : Value → Shared → Prop} (r : RelV y u) (a : AddI X.w D y H Nx) (h : ∀ s' H', Inv X pins σ H' s' → Nx H' → Q .none s') :
    wpAny (model X.prog X.w) X.A (call (.builtin "set.add") [.ref D, u]) Q E s := by
  obtain ⟨k, S, n, rfl, ha, room, nx⟩ := a
  obtain ⟨tk, rfl⟩ := r
  refine setR_add (setO_get I ha) room fun h' sb new => ?_; have he : ∃ u, h'.get? D = some u := by
    have ⟨o, _, _, _, ho, _⟩ := new; exact ⟨o, ho⟩
  exact h _ _ (I.write (e := D) (t' := s.toks + 1) (by rw [ha]; trivial) (.inl rfl) (fun b u hb hu => (sb.2 b hb).trans hu) he (setO_new new)) nx
variable {elt tg iter tg1 iter1 : Expr} {ifs ifs1 : List Expr} {scope : Scope} {own : List (Str × Nat)} {vs1 : List Nat} {pos : Pos} {wi wi1 : TI} {g g1 : TG} {tt tt1 : TT} {te : TE}
theorem sturn_out (it acc : Value) (env : Env) : compTurn (.SetComp elt [⟨tg, iter, ifs, 0⟩, ⟨tg1, iter1, ifs1, 0⟩] scope pos) 0 it acc env =
    turnOf tg ifs iter.pos it env (do
      let x ← eval iter1 env
      standAt iter1.pos
      let x ← foldedSetIterable iter1 env x
      let _ ← runOwn (.compStart (.SetComp elt [⟨tg, iter, ifs, 0⟩, ⟨tg1, iter1, ifs1, 0⟩] scope pos) 1 (← holding [x] (pyIter x)) acc env) env
      again (.compLoop (.SetComp elt [⟨tg, iter, ifs, 0⟩, ⟨tg1, iter1, ifs1, 0⟩] scope pos) 0 it acc env)) (.compLoop (.SetComp elt [⟨tg, iter, ifs, 0⟩, ⟨tg1, iter1, ifs1, 0⟩] scope pos) 0 it acc env) := by rfl
theorem sturn_in (it acc : Value) (env : Env) : compTurn (.SetComp elt [⟨tg, iter, ifs, 0⟩, ⟨tg1, iter1, ifs1, 0⟩] scope pos) 1 it acc env =
    turnOf tg1 ifs1 iter1.pos it env (do
      (do let v0 ← eval elt env; standAt elt.pos; let _ ← call (.builtin "set.add") [acc, v0])
      again (.compLoop (.SetComp elt [⟨tg, iter, ifs, 0⟩, ⟨tg1, iter1, ifs1, 0⟩] scope pos) 1 it acc env)) (.compLoop (.SetComp elt [⟨tg, iter, ifs, 0⟩, ⟨tg1, iter1, ifs1, 0⟩] scope pos) 1 it acc env) := by rfl
theorem sstart1 {A : Around} {R : Result → Shared → Prop} {it acc : Value} {env : Env} {ex : Expr} {cl : Comprehension} (hcl : (clausesOf ex)[1]? = some cl) (hz : (cl.is_async != 0) = false) (hP : Plain (.compStart ex 1 it acc env) ((compStart ex 1 it acc env).onRaise (fun x => do noteFrame x env; standAt theWindowsPlace))) (h0 : codeAny (model X.prog X.w) A (.compLoop ex 1 it acc env) R s)
    (h : wpAny (model X.prog X.w) A (pyIter it) (fun it' s' => codeAny (model X.prog X.w) A (.compLoop ex 1 it' acc env) R s') NoE s) : codeAny (model X.prog X.w) A (.compStart ex 1 it acc env) R s := by
  refine codeAny_of_tree ?_
  rw [Around.under_of_weight hP.wt hP.un, hP.den]
  refine wpAny_notedAt ?_
  unfold compStart
  rw [hcl]
  simp only [Option.elim, hz]; refine wpAny_bind (wpAny_askSetting (wpAny_ite ?_))
  split
  · first | exact wpAny_bind (wpAny_pure (wpAny_pure ⟨rfl, h0⟩)) | exact wpAny_pure ⟨rfl, h0⟩
  · (refine wpAny_bind (wpAny_rule ?_))
    refine wpAny_bind (wpAny_standAt (wpAny_bind (thnF h fun it' s' h' => wpAny_pure (And.intro rfl h'))))
end
end SC
/-! SC3: {elt for .. for ..}, elt a whole number. -/
namespace SC
open L2 PyProof.Rows PySem PySem.Spec
section
variable {s : Shared} {X : Cx} {pins : List (Addr × Obj)} {σ : L2.St} {H : Hp}
variable {elt tg iter tg1 iter1 : Expr} {ifs ifs1 : List Expr} {scope : Scope} {own : List (Str × Nat)} {vs1 : List Nat} {pos : Pos} {wi wi1 : TI} {g g1 : TG} {tt tt1 : TT} {te : TE}
/-- the second clause's loop, behind the first one's tests -/
theorem second_ok {Xb : Cx} (hc : Xb.calm = true) (hxe : Xb.xe = NoE) {ps : List (Addr × Obj)} {σ0 σ2 : L2.St} {H3 : Hp} {s : Shared} {Nx : Hp → Prop} {D : Addr} {back : Code} {Q : PySem.Fin → Shared → Prop}
    (pi1 : PI Xb tg1 iter1 wi1) (pg1 : PG Xb tg1 g1) (pt1 : PTs Xb ifs1 tt1) (pe : PE Xb elt te) (hs1 : ∀ env x, foldedSetIterable iter1 env x = pure x) (hz : ∀ it env, Plain (.compStart (.SetComp elt [⟨tg, iter, ifs, 0⟩, ⟨tg1, iter1, ifs1, 0⟩] scope pos) 1 it (.ref D) env) ((compStart (.SetComp elt [⟨tg, iter, ifs, 0⟩, ⟨tg1, iter1, ifs1, 0⟩] scope pos) 1 it (.ref D) env).onRaise (fun x => do noteFrame x env; standAt theWindowsPlace)))
    (hl2 : σ0.length = σ2.length) (hk2 : ∀ (j : Nat) v, σ0[j]? = some (some v) → (wipe σ2 vs1)[j]? = some (some v)) (I : Inv Xb ps σ2 H3 s) (body : tIn2 (AddI Xb.w D) wi1 g1 tt1 te vs1 σ2 H3 Nx)
    (cont : ∀ s' σ' H', Inv Xb ps σ' H' s' → σ0.length = σ'.length → (∀ (j : Nat) v, σ0[j]? = some (some v) → σ'[j]? = some (some v)) → Nx H' → Q (.again back) s') :
    wpAny (model Xb.prog Xb.w) Xb.A (do
      let x ← eval iter1 Xb.env
      standAt iter1.pos
      let x ← foldedSetIterable iter1 Xb.env x
      let _ ← runOwn (.compStart (.SetComp elt [⟨tg, iter, ifs, 0⟩, ⟨tg1, iter1, ifs1, 0⟩] scope pos) 1 (← holding [x] (pyIter x)) (.ref D) Xb.env) Xb.env
      again back) Q NoE s := by
  have a0 := pi1.run ps s σ2 H3 _ I body
  rw [hxe] at a0
  refine wpAny_bind (thnF a0 fun xv sa ha => wpAny_bind (wpAny_standAt (wpAny_bind (wpAny_of_eq (hs1 _ xv) (wpAny_bind (wpAny_holding (thnF ha fun itv sb hb => ?_)))))))
  obtain ⟨it1, fp1, tn1, J1, H4, rfl, I1, T1, st1, f1, W1, ⟨m1, w1⟩, turn1⟩ := hb; refine wpAny_bind (wpAny_runOwn ?_)
  rw [Around.mark_none]
  have loop : codeAny (model Xb.prog Xb.w) Xb.A (.compLoop (.SetComp elt [⟨tg, iter, ifs, 0⟩, ⟨tg1, iter1, ifs1, 0⟩] scope pos) 1 (.ref it1) (.ref D) Xb.env)
      (fun r s' => match r with
        | .ok _ => Q (.again back) s'
        | .error _ => False) sb := by
    refine clause_ok (W := W1) (m0 := m1) (Qd := Nx) (Body := fun σ3 H5 Nx1 => te σ3 H5 fun y H6 => AddI Xb.w D y H6 Nx1) (Keep := fun σ3 => wipe σ3 vs1 = wipe σ2 vs1) hc hxe ⟨rfl, rfl, fun _ _ => rfl⟩ (sturn_in _ _ _) T1 pg1 pt1 (I1.weak (wipe_length _ _) (fun j v e => (wipe_some e).1)) st1 f1 w1 turn1 (fun σ3 h => keep_of h) ?_ ?_
    · intro ps' σ3 H5 s5 Nx1 Q1 hk3 I5 b5 cont1
      have k3 := keep_of hk3
      have a1 := pe.run _ s5 σ3 H5 _ I5 b5
      rw [hxe] at a1
      refine wpAny_bind (wpAny_bind (thnF a1 fun z sz ⟨yv, H6, I6, r6, add⟩ => wpAny_bind (wpAny_standAt (wpAny_bind (addI_ok I6 r6 add fun s' H' I' nx => wpAny_pure (wpAny_pure (cont1 s' σ3 H' I' k3.1 k3.2 nx)))))))
    · intro s' H' I' nx
      exact cont s' _ H' I' (hl2.trans (wipe_length _ _).symm) hk2 nx
  refine codeAny_mono (sstart1 (X := Xb) (cl := ⟨tg1, iter1, ifs1, 0⟩) rfl rfl (hz _ _) loop (T1.self Xb.A 0 _ _ _ st1 loop)) fun r s' hr => ?_
  cases r with
  | ok f => first | exact wpAny_pure hr | exact wpAny_bind (wpAny_pure (wpAny_pure hr))
  | error e => exact hr.elim
theorem pe_sc2 (hc : X.calm = true) (hN : X.N.Nodup) (hi : PI X tg iter wi) (ok : BlkOk X.N X.env.scope scope own) (hv : ∀ i ∈ vs1, i ∈ own.map (·.2)) (hg : ∀ (s : Shared) (H : Hp) (C : Addr) (cl : List (Str × Addr)) (fp : List Addr), PG (X.blk s H scope (compEnvC scope cl C X.env) fp) tg g) (ht : ∀ (s : Shared) (H : Hp) (C : Addr) (cl : List (Str × Addr)) (fp : List Addr), PTs (X.blk s H scope (compEnvC scope cl C X.env) fp) ifs tt) (hi1 : ∀ (s : Shared) (H : Hp) (C : Addr) (cl : List (Str × Addr)) (fp : List Addr), PI (X.blk s H scope (compEnvC scope cl C X.env) fp) tg1 iter1 wi1) (hg1 : ∀ (s : Shared) (H : Hp) (C : Addr) (cl : List (Str × Addr)) (fp : List Addr), PG (X.blk s H scope (compEnvC scope cl C X.env) fp) tg1 g1) (ht1 : ∀ (s : Shared) (H : Hp) (C : Addr) (cl : List (Str × Addr)) (fp : List Addr), PTs (X.blk s H scope (compEnvC scope cl C X.env) fp) ifs1 tt1) (he : ∀ (s : Shared) (H : Hp) (C : Addr) (cl : List (Str × Addr)) (fp : List Addr), PE (X.blk s H scope (compEnvC scope cl C X.env) fp) elt te) (hs : ∀ x, foldedSetIterable iter X.env x = pure x := by intro _; rfl) (hs1 : ∀ env x, foldedSetIterable iter1 env x = pure x := by intro _ _; rfl) :
    PE X (.SetComp elt [⟨tg, iter, ifs, 0⟩, ⟨tg1, iter1, ifs1, 0⟩] scope pos) (tC2 (fun D => SetO X.w D (fun _ => false) 0) (AddI X.w) wi g tt wi1 g1 tt1 te (own.map (·.2)) vs1) := by
  refine ⟨fun pins s σ H Q I h => ?_⟩; rw [PpSet.eval_SetComp]
  have hfree : ∀ y ∈ scope.names, y.2 = .free → ∃ c, X.env.cells.lookup y.1 = some c := fun y hy e => (ok.free y hy e).elim (fun k => I.ok.has _ (.inl k)) fun k => I.ok.has _ (.inr k)
  refine wpAny_comprehension_free (use := none) rfl hs (closure_ok hfree) ok.kind (fun y hy e => by rw [ok.uniq y hy, e]) (thn (hi.run pins s σ H _ I h) fun xv s1 hx => thn hx fun itv s2 h2 => ?_)
  obtain ⟨it, fp, tn, J, H2, rfl, I2, T, st2, f2, q⟩ := h2
  refine PpSet.newSet_ok (newEnv_comp ?_)
  obtain ⟨W, ⟨m0, w0⟩, turn⟩ := q s2.heap.objs.size (I2.hok.fresh (Nat.le_refl _))
  have I3 := I2.laid (t' := s2.toks) (h' := s2.heap.push { cls := .type "set", dict := none, data := .set #[] 0 (.fresh 0 0 (!X.w.params.followText "set-order")) }) (o := SetO X.w s2.heap.objs.size (fun _ => false) 0) (fun b o e => Heap.get?_push_of_some _ e) (Nat.le_refl _) (setO_new (setR_fresh X.w))
  have old : ∀ b ∈ fp, b < s2.heap.objs.size := fun b hb => by
    obtain ⟨o, e, _⟩ := T.obj _ _ st2 b hb; exact Heap.lt_size e
  have st3 := T.keep _ _ (s2.heap.push { cls := .type "set", dict := none, data := .set #[] 0 (.fresh 0 0 (!X.w.params.followText "set-order")) }) st2 fun b _ o e => Heap.get?_push_of_some _ e
  have f3 : ∀ b ∈ fp, FpOk X pins (upd H2 s2.heap.objs.size (SetO X.w s2.heap.objs.size (fun _ => false) 0)) b ∧ b < (s2.heap.push { cls := .type "set", dict := none, data := .set #[] 0 (.fresh 0 0 (!X.w.params.followText "set-order")) }).objs.size := fun b hb =>
    ⟨⟨by rw [upd_ne (Nat.ne_of_lt (old b hb))]; exact (f2 b hb).1, (f2 b hb).2⟩, by rw [Heap.size_push]; exact Nat.lt_succ_of_lt (old b hb)⟩
  generalize hD : s2.heap.objs.size = D at w0 turn I3 f3 ⊢
  generalize hs3 : ({ s2 with heap := s2.heap.push { cls := .type "set", dict := none, data := .set #[] 0 (.fresh 0 0 (!X.w.params.followText "set-order")) } } : Shared) = s3 at I3 ⊢
  have h3 : s2.heap.push { cls := .type "set", dict := none, data := .set #[] 0 (.fresh 0 0 (!X.w.params.followText "set-order")) } = s3.heap := by rw [← hs3]
  rw [h3] at st3 f3; have I4 := block_start I3 ok hN f3
  generalize hH3 : upd H2 D (SetO X.w D (fun _ => false) 0) = H3 at I3 I4 w0 f3
  have pg := hg s3 H3 s3.heap.objs.size (cellsFrom (s3.heap.objs.size + 1) scope.names (cloFrom X.env.cells scope.names [])) fp
  have pt := ht s3 H3 s3.heap.objs.size (cellsFrom (s3.heap.objs.size + 1) scope.names (cloFrom X.env.cells scope.names [])) fp
  have pi1 := hi1 s3 H3 s3.heap.objs.size (cellsFrom (s3.heap.objs.size + 1) scope.names (cloFrom X.env.cells scope.names [])) fp
  have pg1 := hg1 s3 H3 s3.heap.objs.size (cellsFrom (s3.heap.objs.size + 1) scope.names (cloFrom X.env.cells scope.names [])) fp
  have pt1 := ht1 s3 H3 s3.heap.objs.size (cellsFrom (s3.heap.objs.size + 1) scope.names (cloFrom X.env.cells scope.names [])) fp
  have pe := he s3 H3 s3.heap.objs.size (cellsFrom (s3.heap.objs.size + 1) scope.names (cloFrom X.env.cells scope.names [])) fp
  show codeAny _ _ (.compStart _ 0 (.ref it) (.ref D) (compEnvC scope (cellsFrom (s3.heap.objs.size + 1) scope.names (cloFrom X.env.cells scope.names [])) s3.heap.objs.size X.env)) (compPost (model X.prog X.w) X.A X.xe none _ (.ref D) s3.heap.objs.size) { s3 with heap := pushCells (s3.heap.push { cls := .type "dict", data := .dict #[] }) scope.names }; generalize hce : compEnvC scope (cellsFrom (s3.heap.objs.size + 1) scope.names (cloFrom X.env.cells scope.names [])) s3.heap.objs.size X.env = ce at I4 pg pt pe pi1 pg1 pt1 ⊢; have cL : ce.locals = s3.heap.objs.size := by subst hce; rfl
  have st4 := T.keep _ _ (pushCells (s3.heap.push { cls := .type "dict", data := .dict #[] }) scope.names) st3 fun b _ o e => pushCells_keeps _ _ _ _ (Heap.get?_push_of_some _ e); generalize hs4 : ({ s3 with heap := pushCells (s3.heap.push { cls := .type "dict", data := .dict #[] }) scope.names } : Shared) = s4 at I4 ⊢
  have h4 : pushCells (s3.heap.push { cls := .type "dict", data := .dict #[] }) scope.names = s4.heap := by rw [← hs4]
  rw [h4] at st4
  have f4 : ∀ b ∈ fp, FpOk (X.blk s3 H3 scope ce fp) [] H3 b := fun b hb =>
    ⟨(f3 b hb).1.1, (I4.ok.exf b hb).1, I4.ok.exfs b hb, .inl hb, fun x c e => (I4.ok.exf b hb).2 x c e, fun p hp => absurd (show p ∈ ([] : List (Addr × Obj)) ++ [] from hp) (by simp)⟩
  have loop : codeAny (model X.prog X.w) X.A (.compLoop (.SetComp elt [⟨tg, iter, ifs, 0⟩, ⟨tg1, iter1, ifs1, 0⟩] scope pos) 0 (.ref it) (.ref D) ce) (compPost (model X.prog X.w) X.A X.xe none (EP X pins σ Q) (.ref D) s3.heap.objs.size) s4 := by
    refine clause_ok (Xb := X.blk s3 H3 scope ce fp) (W := W) (m0 := m0) (Qd := Q (.ref D)) (Body := tIn2 (AddI X.w D) wi1 g1 tt1 te vs1) (Keep := fun σ2 => wipe σ2 (own.map (·.2)) = wipe σ (own.map (·.2))) hc rfl ⟨rfl, rfl, fun _ _ => rfl⟩ (sturn_out _ _ _) T pg pt I4 st4 f4 w0 turn (fun σ2 h => keep_of h) ?_ ?_
    · intro ps' σ2 H5 s5 Nx Q1 hk I5 body cont
      have k2 := keep_of hk
      refine second_ok (Xb := X.blk s3 H3 scope ce fp) (σ0 := wipe σ (own.map (·.2))) hc rfl pi1 pg1 pt1 pe hs1 (fun _ _ => ⟨rfl, rfl, fun _ _ => rfl⟩) k2.1 (fun j v e => ?_) I5 body cont
      rw [wipe_out fun z => (wipe_some e).2 (hv j z)]
      exact k2.2 j v e
    · intro s6 H5 I6 qq
      have I7 : Inv X pins σ H5 s6 := I3.call' (ch := fp) I6.os I6.base I6.hok I6.bare fun b hb => ⟨(f3 b hb).1.2.2.2.1, (f3 b hb).1.2.1, (f3 b hb).1.2.2.2.2.1, (f3 b hb).1.2.2.2.2.2⟩; have nC : H5 s3.heap.objs.size = none := by
        (have z : H5 ce.locals = none := I6.free)
        rwa [cL] at z
      obtain ⟨m, hn, _⟩ := I6.loc; have hn : s6.heap.Ns ce.locals m := hn
      rw [cL] at hn
      obtain ⟨f0, f1, f2', f3', f4', f5⟩ := I3.fpOk (Nat.le_refl _) nC
      exact ⟨m, hn, fun h'' sb => ⟨.ref D, H5, I7.turned (t' := s6.toks) (fun b o hb e => (sb.2 b hb).trans e) f0 f1 f3' f4' f5, rfl, qq⟩⟩
  exact PpSet.codeAny_compStart_set loop (T.self X.A 0 _ _ _ st4 loop)
end
end SC
/-! DM2: comprehensions with two fors, into a list or into a set of numbers. -/
namespace DL
open PySem PySem.Spec L2
/-- the first clause of a turn: what the second one walks, or nothing -/
def preC (g : VD → M Unit) (tt : M Bool) (src1 : M (List PyData)) (d : PyData) : M (Option (List PyData)) := do
  g (.dat d)
  let b ← tt
  if b then do
    let ds ← src1
    pure (some ds)
  else pure none
def goA (acc : Cl → PyData → Option Cl) (step : PyData → M (Option PyData)) (n0 n1 : Nat) (sl0 : List (Option VD)) : List PyData → Ce → Option Ce
  | [], ce => some ce
  | d :: ds, ce => match step d ⟨sl0, ce⟩ with
    | .ok (o, S') => match S'.ce[n0]? with
      | some c => match o with
        | some e => match acc c e with
          | some c' => goA acc step n0 n1 sl0 ds ((S'.ce.take n1).set n0 c')
          | none => none
        | none => goA acc step n0 n1 sl0 ds (S'.ce.take n1)
      | none => none
    | _ => none
def go2 (acc : Cl → PyData → Option Cl) (pre : PyData → M (Option (List PyData))) (step : PyData → M (Option PyData)) (n0 : Nat) (sl0 : List (Option VD)) (vs1 : List Nat) : List PyData → Ce → Option Ce
  | [], ce => some ce
  | d :: ds, ce => match pre d ⟨sl0, ce⟩ with
    | .ok (o, S') => match o with
      | none => go2 acc pre step n0 sl0 vs1 ds (S'.ce.take (n0 + 1))
      | some ds1 => match goA acc step n0 S'.ce.length (wipeD S'.sl vs1) ds1 S'.ce with
        | some ce2 => go2 acc pre step n0 sl0 vs1 ds (ce2.take (n0 + 1))
        | none => none
    | _ => none
def eC2 (c0 : Cl) (acc : Cl → PyData → Option Cl) (vs vs1 : List Nat) (src : M (List PyData)) (pre : PyData → M (Option (List PyData))) (step : PyData → M (Option PyData)) : M VD := do
  let ds ← src
  fun S => match go2 acc pre step S.ce.length (wipeD S.sl vs) vs1 ds (S.ce ++ [c0]) with
    | some ce => .ok (.rf S.ce.length, ⟨S.sl, ce⟩)
    | none => .bad
def accL : Cl → PyData → Option Cl
  | .ls true xs, e => if xs.length < 16777216 then some (.ls true (xs ++ [e])) else none
  | _, _ => none
def addNum (k : Int) (ns : List Int) : List Int := if k ∈ ns then ns else k :: ns
def accS : Cl → PyData → Option Cl
  | .si ns, .int k => if ns.length ≤ 1000 then some (.si (addNum k ns)) else none
  | _, _ => none
/-- what goes into a cell goes into the object -/
structure AccOk (K : PySem.W.Frag) (wl : Wd) (acc : Cl → PyData → Option Cl) (Add : Addr → V → Hp → (Hp → Prop) → Prop) : Prop where
  put : ∀ {F : Hp} {rs : List Addr} {S : DS} {σ : L2.St} {H G : Hp} (m : Md K wl F rs S σ H G) {n0 : Nat} {D : Addr} {c c' : Cl} {e : PyData} {y : V} {Nx : Hp → Prop}, rs[n0]? = some D → S.ce[n0]? = some c → acc c e = some c' → Dd K G y e →
    (∀ H', Md K wl F rs ⟨S.sl, S.ce.set n0 c'⟩ σ H' G → Nx H') → Add D y H Nx
def AddL (D : Addr) (y : V) (H : Hp) (Nx : Hp → Prop) : Prop := ∃ acc, H D = some (.lst acc) ∧ acc.length < sizeLine ∧ Nx (upd H D (.lst (acc ++ [y])))
theorem accL_ok {K : PySem.W.Frag} {wl : Wd} : AccOk K wl accL AddL := ⟨fun {F rs S σ H G} m {n0 D c c' e y Nx} hD hc ha rd fin => by
  unfold accL at ha
  split at ha
  · rename_i xs e
    split at ha
    · rename_i hz
      cases ha
      obtain ⟨f, g, vs, hv, hd⟩ := m.cel _ _ _ hD hc
      exact ⟨vs, hv, by rw [DdAll.length hd, sizeLine_eq]; exact hz, fin _ (m.write hD hc (DdAll.append hd (.cons rd .nil)))⟩
    · cases ha
  · cases ha⟩
theorem accS_ok {K : PySem.W.Frag} {wl : Wd} : AccOk K wl accS (SC.AddI wl.w) := ⟨fun {F rs S σ H G} m {n0 D c c' e y Nx} hD hc ha rd fin => by
  unfold accS at ha
  split at ha
  · rename_i ns k
    split at ha
    · rename_i hz
      cases ha
      cases rd
      obtain ⟨f, g, hv, hn⟩ := m.cel _ _ _ hD hc
      refine ⟨k, _, _, rfl, hv, by unfold scanBound; omega, ?_⟩
      have nd : (addNum k ns).Nodup := by
        unfold addNum
        split
        · exact hn
        · rename_i h; exact List.nodup_cons.mpr ⟨h, hn⟩
      have e1 : (fun j => decide (j ∈ ns) || decide (j = k)) = fun j => decide (j ∈ addNum k ns) := by
        funext j
        unfold addNum
        split
        · rename_i h
          by_cases hj : j = k
          · subst hj; simp [h]
          · simp [hj]
        · rw [← Bool.decide_or, decide_eq_decide, List.mem_cons]
          exact Or.comm
      have e2 : (if decide (k ∈ ns) = true then ns.length else ns.length + 1) = (addNum k ns).length := by
        unfold addNum
        by_cases h : k ∈ ns <;> simp [h]
      rw [e1, e2]
      exact fin _ (m.writeS hD hc nd)
    · cases ha
  · cases ha⟩

section
variable {K : PySem.W.Frag} {wl : Wd} {mg : Str → Option Value} {E : XK} {F : Hp} {rs : List Addr} {sl : List (Option VD)} {ce : Ce} {σb : L2.St} {H G : Hp} {g : VD → M Unit} {tt : M Bool} {te : M VD} {is vs : List Nat} {acc : Cl → PyData → Option Cl} {Add : Addr → V → Hp → (Hp → Prop) → Prop}
/-- back to the turn's own slots -/
theorem Md.cut {σ0 : L2.St} (m : Md K wl F rs ⟨sl, ce⟩ σ0 H G) {H9 G9 : Hp} {rs9 : List Addr} {S9 : DS} {σ9 : L2.St} (u : Up rs G rs9 G9) (m9 : Md K wl F rs9 S9 σ9 H9 G9) : Md K wl F rs ⟨sl, S9.ce.take rs.length⟩ σ0 H9 G9 := by
  obtain ⟨⟨more, e9⟩, sg⟩ := u
  rw [e9] at m9
  refine (m9.pre rfl).slots m.len fun k y hk => ?_
  obtain ⟨v, h1, h2⟩ := m.slot k y hk
  exact ⟨v, h1, RdV.up ⟨⟨[], by simp⟩, sg⟩ h2⟩
/-- a value becomes data -/
theorem toD_ok {x : VD} {S S' : DS} {σ : L2.St} {v : V} {e : PyData} (m : Md K wl F rs S σ H G) (r : RdV K wl rs G x v) (h : toD x S = .ok (e, S')) : ∃ G', Same G G' ∧ Md K wl F rs S' σ H G' ∧ Dd K G' v e := by
  cases x with
  | dat d => cases h; exact ⟨G, L2.Same.refl _, m, r⟩
  | bag _ => cases h
  | st _ => cases h
  | ex _ => cases h
  | exs _ => cases h
  | oth _ => cases h
  | rf j =>
    obtain ⟨a, ha, rfl⟩ := r
    unfold toD at h
    dsimp only at h
    cases ej : S.ce[j]? with
    | none => rw [ej] at h; cases h
    | some c =>
      cases c with
      | dk _ => rw [ej] at h; cases h
      | si _ => rw [ej] at h; cases h
      | ls b ds =>
        rw [ej] at h
        cases b with
        | true =>
          cases h
          obtain ⟨G', sg, m', rd⟩ := m.freeze ha ej
          exact ⟨G', sg, m', rd⟩
        | false =>
          cases h
          obtain ⟨vs', hv, hd⟩ := m.cel j a _ ha ej
          exact ⟨G, L2.Same.refl _, m, .lst (Rd.of hv) hd⟩
theorem turn_ok (ha : AccOk K wl acc Add) (his : ∀ i ∈ is, i ∈ vs) (m : Md K wl F rs ⟨sl, ce⟩ (L2.wipe σb vs) H G) {n0 : Nat} {D : Addr} (hD : rs[n0]? = some D) {d : PyData} {o : Option PyData} {S' : DS} {c : Cl} (es : stepC g tt te d ⟨sl, ce⟩ = .ok (o, S')) (ec : S'.ce[n0]? = some c) {Nx : Hp → Prop}
    (hacc : ∀ e, o = some e → ∃ c', acc c e = some c')
    (fin : ∀ H' G' ce', Same G G' → Md K wl F rs ⟨sl, ce'⟩ (L2.wipe σb vs) H' G' → (match o with | some e => ∃ c', acc c e = some c' ∧ ce' = (S'.ce.take rs.length).set n0 c' | none => ce' = S'.ce.take rs.length) → Nx H')
    {x : V} (rd : Dd K G x d) : liftG K wl is g x (L2.wipe σb vs) H fun σ2 H2 => L2.wipe σ2 vs = L2.wipe σb vs ∧ liftT K wl mg E0 tt σ2 H2 fun b H3 => if b = true then liftE K wl mg E0 te σ2 H3 fun y H4 => Add D y H4 Nx else Nx H3 := by
  refine ⟨F, rs, ⟨sl, ce⟩, G, .dat d, m, rd, ?_⟩
  unfold stepC at es
  rw [M.bind_run] at es
  cases eg : g (.dat d) ⟨sl, ce⟩ with
  | exc _ _ => rw [eg] at es; cases es
  | bad => rw [eg] at es; cases es
  | ok q =>
    rw [eg] at es
    simp only [R.bind] at es
    intro σ2 H2 G4 rs4 u4 m5 off
    refine ⟨wipe_off off his, ?_⟩
    rw [M.bind_run] at es
    cases et : tt q.2 with
    | exc _ _ => rw [et] at es; cases es
    | bad => rw [et] at es; cases es
    | ok q2 =>
      rw [et] at es
      simp only [R.bind] at es
      refine ⟨F, rs4, q.2, G4, m5, Post.okE (E' := E0) (Q' := fun _ _ => True) et fun b H3 G5 rs5 u5 m6 eb => ?_⟩
      have hb : q2.1 = b := eb
      subst hb
      have upA : Up rs G rs5 G5 := u4.trans u5
      cases hq2 : q2.1 with
      | false =>
        rw [hq2] at es
        simp only [Bool.false_eq_true, if_false] at es ⊢
        have es' : (none, q2.2) = (o, S') := R.ok.inj es
        cases es'
        exact fin H3 G5 _ upA.2 (m.cut upA m6) rfl
      | true =>
        rw [hq2] at es
        simp only [if_true] at es ⊢
        rw [M.bind_run] at es
        cases ee : te q2.2 with
        | exc _ _ => rw [ee] at es; cases es
        | bad => rw [ee] at es; cases es
        | ok q3 =>
          rw [ee] at es
          simp only [R.bind] at es
          refine ⟨F, rs5, q2.2, G5, m6, Post.okE (E' := E0) (Q' := fun _ _ => True) ee fun yv H4 G6 rs6 u6 m7 ry => ?_⟩
          rw [M.bind_run] at es
          cases ed : toD q3.1 q3.2 with
          | exc _ _ => rw [ed] at es; cases es
          | bad => rw [ed] at es; cases es
          | ok q4 =>
            rw [ed] at es
            have es' : (some q4.1, q4.2) = (o, S') := R.ok.inj es
            cases es'
            obtain ⟨G9, sg9, m9, rd9⟩ := toD_ok m7 ry ed
            have upB : Up rs G rs6 G9 := upA.trans (u6.trans ⟨⟨[], by simp⟩, sg9⟩)
            obtain ⟨c', hc'⟩ := hacc _ rfl
            have hn0 : n0 < rs.length := (List.getElem?_eq_some_iff.mp hD).1
            refine ha.put (m.cut upB m9) hD ?_ hc' rd9 fun H' m' => fin H' G9 _ upB.2 m' ⟨c', hc', rfl⟩
            show (q4.2.ce.take rs.length)[n0]? = some c
            rw [List.getElem?_take, if_pos hn0]
            exact ec
theorem pre_ok {src1 : M (List PyData)} (his : ∀ i ∈ is, i ∈ vs) (m : Md K wl F rs ⟨sl, ce⟩ (L2.wipe σb vs) H G) {d : PyData} {o : Option (List PyData)} {S' : DS} (es : preC g tt src1 d ⟨sl, ce⟩ = .ok (o, S')) {Nx : Hp → Prop} {Inn : L2.St → It → Hp → Prop}
    (fin0 : o = none → ∀ H' G', Same G G' → Md K wl F rs ⟨sl, S'.ce.take rs.length⟩ (L2.wipe σb vs) H' G' → Nx H')
    (fin1 : ∀ ds1, o = some ds1 → ∀ σ2 H4 G' rs' J1, Up rs G rs' G' → Md K wl F rs' S' σ2 H4 G' → SrcOk K J1 G' ds1 → Inn σ2 J1 H4)
    {x : V} (rd : Dd K G x d) : liftG K wl is g x (L2.wipe σb vs) H fun σ2 H2 => L2.wipe σ2 vs = L2.wipe σb vs ∧ liftT K wl mg E0 tt σ2 H2 fun b H3 => if b = true then lift K wl mg E0 (fun _ G ds J => SrcOk K J G ds) src1 σ2 H3 (Inn σ2) else Nx H3 := by
  refine ⟨F, rs, ⟨sl, ce⟩, G, .dat d, m, rd, ?_⟩
  unfold preC at es
  rw [M.bind_run] at es
  cases eg : g (.dat d) ⟨sl, ce⟩ with
  | exc _ _ => rw [eg] at es; cases es
  | bad => rw [eg] at es; cases es
  | ok q =>
    rw [eg] at es
    simp only [R.bind] at es
    intro σ2 H2 G4 rs4 u4 m5 off
    refine ⟨wipe_off off his, ?_⟩
    rw [M.bind_run] at es
    cases et : tt q.2 with
    | exc _ _ => rw [et] at es; cases es
    | bad => rw [et] at es; cases es
    | ok q2 =>
      rw [et] at es
      simp only [R.bind] at es
      refine ⟨F, rs4, q.2, G4, m5, Post.okE (E' := E0) (Q' := fun _ _ => True) et fun b H3 G5 rs5 u5 m6 eb => ?_⟩
      have hb : q2.1 = b := eb
      subst hb
      have upA : Up rs G rs5 G5 := u4.trans u5
      cases hq2 : q2.1 with
      | false =>
        rw [hq2] at es
        simp only [Bool.false_eq_true, if_false] at es ⊢
        have es' : (none, q2.2) = (o, S') := R.ok.inj es
        cases es'
        exact fin0 rfl H3 G5 upA.2 (m.cut upA m6)
      | true =>
        rw [hq2] at es
        simp only [if_true] at es ⊢
        rw [M.bind_run] at es
        cases ee : src1 q2.2 with
        | exc _ _ => rw [ee] at es; cases es
        | bad => rw [ee] at es; cases es
        | ok q3 =>
          rw [ee] at es
          have es' : (some q3.1, q3.2) = (o, S') := R.ok.inj es
          cases es'
          exact ⟨F, rs5, q2.2, G5, m6, Post.okE (E' := E0) (Q' := fun _ _ => True) ee fun J1 H4 G6 rs6 u6 m7 rj => fin1 _ rfl σ2 H4 G6 rs6 J1 (upA.trans u6) m7 rj⟩
/-- the second clause's loop -/
theorem loop_ok (ha : AccOk K wl acc Add) (his : ∀ i ∈ is, i ∈ vs) {J : It} {ds : List PyData} (hs : SrcOk K J G ds) (m : Md K wl F rs ⟨sl, ce⟩ (L2.wipe σb vs) H G) {n0 : Nat} {D : Addr} (hD : rs[n0]? = some D) {cf : Ce} (run : goA acc (stepC g tt te) n0 rs.length sl ds ce = some cf) {Nx : Hp → Prop}
    (fin : ∀ H' G', Same G G' → Md K wl F rs ⟨sl, cf⟩ (L2.wipe σb vs) H' G' → Nx H') :
    ∃ W1 : Nat → Nat → Hp → Prop, (∃ m, W1 0 m H) ∧ ∀ j k H, W1 j k H → (J.stop j H ∧ Nx H) ∨ (J.go j H ∧ ∃ Nx1 : Hp → Prop, (∀ H', Nx1 H' → ∃ k', k' < k ∧ W1 (j + 1) k' H') ∧ ∀ x H', J.yld j H x H' → liftG K wl is g x (L2.wipe σb vs) H' fun σ3 H5 => L2.wipe σ3 vs = L2.wipe σb vs ∧
      liftT K wl mg E0 tt σ3 H5 fun b H6 => if b = true then liftE K wl mg E0 te σ3 H6 fun y H7 => Add D y H7 Nx1 else Nx1 H6) := by
  refine ⟨fun j k H' => k = ds.length - j ∧ j ≤ ds.length ∧ ∃ ce2 G2, Same G G2 ∧ Md K wl F rs ⟨sl, ce2⟩ (L2.wipe σb vs) H' G2 ∧ goA acc (stepC g tt te) n0 rs.length sl (ds.drop j) ce2 = some cf, ⟨ds.length, by simp, by simp, ce, G, L2.Same.refl _, m, by simpa using run⟩, ?_⟩
  rintro j k H' ⟨rfl, hj, ce2, G2, s2, m2, r2⟩
  by_cases hlt : j < ds.length
  · refine .inr ⟨hs.go j H' G2 hlt s2 m2.sub, fun H'' => ∃ ce3 G3, Same G G3 ∧ Md K wl F rs ⟨sl, ce3⟩ (L2.wipe σb vs) H'' G3 ∧ goA acc (stepC g tt te) n0 rs.length sl (ds.drop (j + 1)) ce3 = some cf, fun H'' ⟨ce3, G3, s3, m3, p3⟩ => ⟨ds.length - (j + 1), by omega, rfl, hlt, ce3, G3, s3, m3, p3⟩, fun x H'' y => ?_⟩
    obtain ⟨d, hd, hy⟩ := hs.yld j H' G2 x H'' hlt s2 m2.sub y
    have hdrop : ds.drop j = d :: ds.drop (j + 1) := by
      rw [List.drop_eq_getElem_cons hlt]; congr 1
      have := List.getElem?_eq_getElem hlt
      rw [hd] at this; exact (Option.some.inj this).symm
    rw [hdrop] at r2
    unfold goA at r2
    cases es : stepC g tt te d ⟨sl, ce2⟩ with
    | exc _ _ => rw [es] at r2; cases r2
    | bad => rw [es] at r2; cases r2
    | ok w =>
      obtain ⟨o, S'⟩ := w
      rw [es] at r2
      dsimp only at r2
      cases ea : S'.ce[n0]? with
      | none => rw [ea] at r2; cases r2
      | some c =>
        rw [ea] at r2
        dsimp only at r2
        have step : ∀ G3, Same G G3 → Md K wl F rs ⟨sl, ce2⟩ (L2.wipe σb vs) H'' G3 → Dd K G3 x d → _ := fun G3 s3 m3 rd => turn_ok (mg := mg) (Nx := fun H'' => ∃ ce3 G3, Same G G3 ∧ Md K wl F rs ⟨sl, ce3⟩ (L2.wipe σb vs) H'' G3 ∧ goA acc (stepC g tt te) n0 rs.length sl (ds.drop (j + 1)) ce3 = some cf) ha his m3 hD es ea (fun e he => by
          subst he
          dsimp only at r2
          cases hacc : acc c e with
          | none => rw [hacc] at r2; cases r2
          | some c' => exact ⟨c', rfl⟩) (fun H9 G9 ce9 sg9 m9 he => by
          refine ⟨ce9, G9, L2.Same.trans s3 sg9, m9, ?_⟩
          cases o with
          | none =>
            dsimp only at he r2
            subst he
            exact r2
          | some e =>
            dsimp only at he r2
            obtain ⟨c', hc', rfl⟩ := he
            rw [hc'] at r2
            exact r2) rd
        rcases hy with ⟨rfl, rd⟩ | ⟨T, oo, hT, rfl, rd⟩
        · exact step G2 s2 m2 rd
        · have gT := L2.Same.free m2.sub hT
          exact step (upd G2 T oo) (L2.Same.trans s2 (same_upd gT)) (m2.new hT) rd
  · have e : j = ds.length := by omega
    subst e
    rw [List.drop_length] at r2
    cases r2
    exact .inl ⟨hs.stop H' G2 s2 m2.sub, fin H' G2 s2 m2⟩
end
end DL
/-! DM3: [.. for .. for ..] and {.. for .. for ..} read over data. -/
namespace DL
open PySem PySem.Spec L2
section
variable {X : Cx} {E : XK} {elt tg iter tg1 iter1 : Expr} {ifs ifs1 : List Expr} {scope : Scope} {own : List (Str × Nat)} {pos : Pos} {src src1 : M (List PyData)} {g g1 : VD → M Unit} {tt tt1 : M Bool} {te : M VD} {is js vs1 : List Nat} {c0 : Cl} {acc : Cl → PyData → Option Cl} {Add : Addr → V → Hp → (Hp → Prop) → Prop} {start : Addr → HO}
theorem c2_lift (ha : AccOk X.K X.wd acc Add) (hst : ∀ {F : Hp} {rs : List Addr} {S : DS} {σ : L2.St} {H G : Hp} (m : Md X.K X.wd F rs S σ H G) {D : Addr}, H D = none → Md X.K X.wd F (rs ++ [D]) ⟨S.sl, S.ce ++ [c0]⟩ σ (upd H D (start D)) G)
    {vs : List Nat} (his : ∀ i ∈ is, i ∈ vs) (hjs : ∀ i ∈ js, i ∈ vs1) {σ : L2.St} {H : Hp} {Q : VK} (q : liftE X.K X.wd X.mg E (eC2 c0 acc vs vs1 src (preC g tt src1) (stepC g1 tt1 te)) σ H Q) :
    SC.tC2 start Add (lift X.K X.wd X.mg E (fun _ G ds J => SrcOk X.K J G ds) src) (liftG X.K X.wd is g) (liftT X.K X.wd X.mg E0 tt) (lift X.K X.wd X.mg E0 (fun _ G ds J => SrcOk X.K J G ds) src1) (liftG X.K X.wd js g1) (liftT X.K X.wd X.mg E0 tt1) (liftE X.K X.wd X.mg E0 te) vs vs1 σ H Q := by
  obtain ⟨F, rs, S, G, m, p⟩ := q
  refine ⟨F, rs, S, G, m, (Post.seq p).mono fun J H1 ⟨rs1, S1, G1, ds, u1, m1, r1, p1⟩ => fun D hD => ?_⟩
  have m2 := hst m1 hD
  have hn0 : rs1.length = S1.ce.length := m1.rl
  have hDn : ∀ more : List Addr, ((rs1 ++ [D]) ++ more)[S1.ce.length]? = some D := fun more => by
    rw [List.append_assoc, List.getElem?_append_right (by omega)]; simp [hn0]
  refine ⟨fun i n H' => n = ds.length - i ∧ i ≤ ds.length ∧ ∃ ce2 G2, Same G1 G2 ∧ Md X.K X.wd F (rs1 ++ [D]) ⟨S1.sl, ce2⟩ σ H' G2 ∧
      Post X.K X.wd X.mg E F σ (RdV X.K X.wd) rs1 G1 (match go2 acc (preC g tt src1) (stepC g1 tt1 te) S1.ce.length (wipeD S1.sl vs) vs1 (ds.drop i) ce2 with
        | some ce => .ok (.rf S1.ce.length, ⟨S1.sl, ce⟩)
        | none => .bad) Q, ⟨ds.length, by simp, by simp, _, G1, L2.Same.refl _, m2, by rw [List.drop_zero]; exact p1⟩, ?_⟩
  rintro i n H' ⟨rfl, hi, ce2, G2, s2, m3, p2⟩
  by_cases hlt : i < ds.length
  · refine .inr ⟨r1.go i H' G2 hlt s2 m3.sub, fun H'' => ∃ ce3 G3, Same G1 G3 ∧ Md X.K X.wd F (rs1 ++ [D]) ⟨S1.sl, ce3⟩ σ H'' G3 ∧
      Post X.K X.wd X.mg E F σ (RdV X.K X.wd) rs1 G1 (match go2 acc (preC g tt src1) (stepC g1 tt1 te) S1.ce.length (wipeD S1.sl vs) vs1 (ds.drop (i + 1)) ce3 with
        | some ce => .ok (.rf S1.ce.length, ⟨S1.sl, ce⟩)
        | none => .bad) Q, fun H'' ⟨ce3, G3, s3, m4, p3⟩ => ⟨ds.length - (i + 1), by omega, rfl, hlt, ce3, G3, s3, m4, p3⟩, fun x H'' y => ?_⟩
    obtain ⟨d, hd, hy⟩ := r1.yld i H' G2 x H'' hlt s2 m3.sub y
    have hdrop : ds.drop i = d :: ds.drop (i + 1) := by
      rw [List.drop_eq_getElem_cons hlt]; congr 1
      have := List.getElem?_eq_getElem hlt
      rw [hd] at this; exact (Option.some.inj this).symm
    rw [hdrop] at p2
    unfold go2 at p2
    cases es : preC g tt src1 d ⟨wipeD S1.sl vs, ce2⟩ with
    | exc _ _ => rw [es] at p2; exact p2.elim
    | bad => rw [es] at p2; exact p2.elim
    | ok w =>
      obtain ⟨o, S'⟩ := w
      rw [es] at p2
      dsimp only at p2
      have hl1 : (rs1 ++ [D]).length = S1.ce.length + 1 := by simp [hn0]
      have step : ∀ G3, Same G1 G3 → Md X.K X.wd F (rs1 ++ [D]) ⟨S1.sl, ce2⟩ σ H'' G3 → Dd X.K G3 x d → _ := fun G3 s3 m4 rd =>
        pre_ok (mg := X.mg) (sl := wipeD S1.sl vs) (Nx := fun H'' => ∃ ce3 G3, Same G1 G3 ∧ Md X.K X.wd F (rs1 ++ [D]) ⟨S1.sl, ce3⟩ σ H'' G3 ∧
          Post X.K X.wd X.mg E F σ (RdV X.K X.wd) rs1 G1 (match go2 acc (preC g tt src1) (stepC g1 tt1 te) S1.ce.length (wipeD S1.sl vs) vs1 (ds.drop (i + 1)) ce3 with
            | some ce => .ok (.rf S1.ce.length, ⟨S1.sl, ce⟩)
            | none => .bad) Q)
          (Inn := fun σ2 J1 H4 => ∃ W1 : Nat → Nat → Hp → Prop, (∃ m, W1 0 m H4) ∧ ∀ j k H, W1 j k H → (J1.stop j H ∧ (∃ ce3 G3, Same G1 G3 ∧ Md X.K X.wd F (rs1 ++ [D]) ⟨S1.sl, ce3⟩ σ H G3 ∧
            Post X.K X.wd X.mg E F σ (RdV X.K X.wd) rs1 G1 (match go2 acc (preC g tt src1) (stepC g1 tt1 te) S1.ce.length (wipeD S1.sl vs) vs1 (ds.drop (i + 1)) ce3 with
              | some ce => .ok (.rf S1.ce.length, ⟨S1.sl, ce⟩)
              | none => .bad) Q)) ∨ (J1.go j H ∧ ∃ Nx1 : Hp → Prop, (∀ H', Nx1 H' → ∃ k', k' < k ∧ W1 (j + 1) k' H') ∧ ∀ x H', J1.yld j H x H' → liftG X.K X.wd js g1 x (L2.wipe σ2 vs1) H' fun σ3 H5 => L2.wipe σ3 vs1 = L2.wipe σ2 vs1 ∧
              liftT X.K X.wd X.mg E0 tt1 σ3 H5 fun b H6 => if b = true then liftE X.K X.wd X.mg E0 te σ3 H6 fun y H7 => Add D y H7 Nx1 else Nx1 H6))
          his (m4.wipe vs) es
          (fun he H9 G9 sg9 m9 => by
            subst he
            dsimp only at p2
            rw [← hl1] at p2
            have mb := m4.cut (S9 := ⟨wipeD S1.sl vs, S'.ce.take (rs1 ++ [D]).length⟩) ⟨⟨[], by simp⟩, sg9⟩ m9
            simp only [List.take_take, Nat.min_self] at mb
            exact ⟨_, G9, L2.Same.trans s3 sg9, mb, p2⟩)
          (fun ds1 he σ2 H4 G' rs' J1 u' m' rj => by
            subst he
            dsimp only at p2
            have hl' : rs'.length = S'.ce.length := m'.rl
            rw [← hl'] at p2
            cases eg : goA acc (stepC g1 tt1 te) S1.ce.length rs'.length (wipeD S'.sl vs1) ds1 S'.ce with
            | none => rw [eg] at p2; exact p2.elim
            | some cf =>
              rw [eg] at p2
              dsimp only at p2
              obtain ⟨⟨more, er⟩, sg⟩ := id u'
              refine loop_ok (mg := X.mg) (sl := wipeD S'.sl vs1) ha hjs rj (m'.wipe vs1) (n0 := S1.ce.length) (by rw [er]; exact hDn more) eg fun H9 G9 sg9 m9 => ?_
              have mb := m4.cut (u'.trans ⟨⟨[], by simp⟩, sg9⟩) m9
              rw [hl1] at mb
              exact ⟨_, G9, L2.Same.trans s3 (L2.Same.trans sg sg9), mb, p2⟩) rd
      rcases hy with ⟨rfl, rd⟩ | ⟨T, oo, hT, rfl, rd⟩
      · exact step G2 s2 m3 rd
      · have gT := L2.Same.free m3.sub hT
        exact step (upd G2 T oo) (L2.Same.trans s2 (same_upd gT)) (m3.new hT) rd
  · have e : i = ds.length := by omega
    subst e
    refine .inl ⟨r1.stop H' G2 s2 m3.sub, ?_⟩
    rw [List.drop_length] at p2
    exact p2 (.ref D) H' G2 (rs1 ++ [D]) ⟨⟨[D], rfl⟩, s2⟩ m3 ⟨D, by have := hDn []; rwa [List.append_nil] at this, rfl⟩
theorem d_lc2 (hc : X.calm = true) (hN : X.N.Nodup) (ok : BlkOk X.N X.env.scope scope own) (his : ∀ i ∈ is, i ∈ own.map (·.2)) (hjs : ∀ i ∈ js, i ∈ vs1) (hv : ∀ i ∈ vs1, i ∈ own.map (·.2)) (hi : PDI X E tg iter src)
    (hg : ∀ (s : Shared) (H : Hp) (C : Addr) (cl : List (Str × Addr)) (fp : List Addr), PDG (X.blk s H scope (compEnvC scope cl C X.env) fp) is tg g)
    (ht : ∀ (s : Shared) (H : Hp) (C : Addr) (cl : List (Str × Addr)) (fp : List Addr), PTs (X.blk s H scope (compEnvC scope cl C X.env) fp) ifs (liftT X.K X.wd X.mg E0 tt))
    (hi1 : ∀ (s : Shared) (H : Hp) (C : Addr) (cl : List (Str × Addr)) (fp : List Addr), PDI (X.blk s H scope (compEnvC scope cl C X.env) fp) E0 tg1 iter1 src1)
    (hg1 : ∀ (s : Shared) (H : Hp) (C : Addr) (cl : List (Str × Addr)) (fp : List Addr), PDG (X.blk s H scope (compEnvC scope cl C X.env) fp) js tg1 g1)
    (ht1 : ∀ (s : Shared) (H : Hp) (C : Addr) (cl : List (Str × Addr)) (fp : List Addr), PTs (X.blk s H scope (compEnvC scope cl C X.env) fp) ifs1 (liftT X.K X.wd X.mg E0 tt1))
    (he : ∀ (s : Shared) (H : Hp) (C : Addr) (cl : List (Str × Addr)) (fp : List Addr), PD (X.blk s H scope (compEnvC scope cl C X.env) fp) E0 elt te) (hs : ∀ x, foldedSetIterable iter X.env x = pure x := by intro _; rfl) (hs1 : ∀ env x, foldedSetIterable iter1 env x = pure x := by intro _ _; rfl) :
    PD X E (.ListComp elt [⟨tg, iter, ifs, 0⟩, ⟨tg1, iter1, ifs1, 0⟩] scope pos) (eC2 (.ls true []) accL (own.map (·.2)) vs1 src (preC g tt src1) (stepC g1 tt1 te)) :=
  PE.weak (pe_lc2 (g := liftG X.K X.wd is g) (tt := liftT X.K X.wd X.mg E0 tt) (g1 := liftG X.K X.wd js g1) (tt1 := liftT X.K X.wd X.mg E0 tt1) (te := liftE X.K X.wd X.mg E0 te) hc hN hi ok hv hg ht hi1 hg1 ht1 he hs hs1) fun σ H Q q =>
    c2_lift (start := fun _ => .lst []) accL_ok (fun {_ _ _ _ _ _} m {D} hD => m.cell hD .nil) his hjs q
theorem d_sc2 (hc : X.calm = true) (hN : X.N.Nodup) (ok : BlkOk X.N X.env.scope scope own) (his : ∀ i ∈ is, i ∈ own.map (·.2)) (hjs : ∀ i ∈ js, i ∈ vs1) (hv : ∀ i ∈ vs1, i ∈ own.map (·.2)) (hi : PDI X E tg iter src)
    (hg : ∀ (s : Shared) (H : Hp) (C : Addr) (cl : List (Str × Addr)) (fp : List Addr), PDG (X.blk s H scope (compEnvC scope cl C X.env) fp) is tg g)
    (ht : ∀ (s : Shared) (H : Hp) (C : Addr) (cl : List (Str × Addr)) (fp : List Addr), PTs (X.blk s H scope (compEnvC scope cl C X.env) fp) ifs (liftT X.K X.wd X.mg E0 tt))
    (hi1 : ∀ (s : Shared) (H : Hp) (C : Addr) (cl : List (Str × Addr)) (fp : List Addr), PDI (X.blk s H scope (compEnvC scope cl C X.env) fp) E0 tg1 iter1 src1)
    (hg1 : ∀ (s : Shared) (H : Hp) (C : Addr) (cl : List (Str × Addr)) (fp : List Addr), PDG (X.blk s H scope (compEnvC scope cl C X.env) fp) js tg1 g1)
    (ht1 : ∀ (s : Shared) (H : Hp) (C : Addr) (cl : List (Str × Addr)) (fp : List Addr), PTs (X.blk s H scope (compEnvC scope cl C X.env) fp) ifs1 (liftT X.K X.wd X.mg E0 tt1))
    (he : ∀ (s : Shared) (H : Hp) (C : Addr) (cl : List (Str × Addr)) (fp : List Addr), PD (X.blk s H scope (compEnvC scope cl C X.env) fp) E0 elt te) (hs : ∀ x, foldedSetIterable iter X.env x = pure x := by intro _; rfl) (hs1 : ∀ env x, foldedSetIterable iter1 env x = pure x := by intro _ _; rfl) :
    PD X E (.SetComp elt [⟨tg, iter, ifs, 0⟩, ⟨tg1, iter1, ifs1, 0⟩] scope pos) (eC2 (.si []) accS (own.map (·.2)) vs1 src (preC g tt src1) (stepC g1 tt1 te)) :=
  PE.weak (SC.pe_sc2 (g := liftG X.K X.wd is g) (tt := liftT X.K X.wd X.mg E0 tt) (g1 := liftG X.K X.wd js g1) (tt1 := liftT X.K X.wd X.mg E0 tt1) (te := liftE X.K X.wd X.mg E0 te) hc hN hi ok hv hg ht hi1 hg1 ht1 he hs hs1) fun σ H Q q =>
    c2_lift (start := fun D => SetO X.w D (fun _ => false) 0) accS_ok (fun {_ _ _ _ _ _} m {D} hD => by
      have e : (fun _ : Int => false) = fun k => decide (k ∈ ([] : List Int)) := by funext k; simp
      rw [e]
      exact m.cellS hD List.nodup_nil) his hjs q
end
end DL
/-! DM4: xs.extend(t), t a list or a tuple; type(x) is not T. -/
namespace DL
open L2 PyProof.Rows PySem PySem.Spec
/-- a tuple goes behind a list -/
theorem ext_tup (l b : Addr) (od : Option Addr) (xs ys : Array Value) (k j : Nat) (os : Array (Option Value)) (few : ¬(!xs.isEmpty && Builtin.List.listTooLong (xs.size + ys.size)) = true) (h1 : xs.size ≤ sizeLine) (h2 : xs.size + ys.size ≤ sizeLine + 1) :
    Meets (Builtin.«list.extend» ⟨[.ref l, .ref b], []⟩) (fun _ R s => s.heap.get? l = some { cls := .type "list", dict := none, data := .seq xs k, slots := #[] } ∧ s.heap.get? b = some { cls := .type "tuple", dict := od, data := .seq ys j, slots := os } ∧ R (.ok (.ret Value.none)) { s with heap := s.heap.update l (Obj.mapSeq fun x => x ++ ys), toks := s.toks }) := .of_wp fun prog w A R s h => by
    obtain ⟨hp, g, d, tk, os'⟩ := s
    obtain ⟨hl, hb, h⟩ := h
    have f1 := AutoSeq1.idx_int; have f2 := AutoSeq1.sub_tuple_tuple; have f3 := AutoSeq1.sub_list_list
    have f4 := AutoSeq1.sub_tuple_list
    have f5 := AutoSeq1.sub_list_tuple
    have hz' : (xs ++ ys).size ≤ sizeLine + 1 := by rw [Array.size_append]; exact h2
    wp_walk using (wpAny_updateSeq hl rfl (hz := h1) (_hz' := hz')), wpAny_loadPart' hl, wpAny_loadPart' hb
    exact ⟨_, rfl, h⟩
section
variable {X : Cx} {E : XK} {a e : Expr} {pos apos p p1 : Pos}
def rExtT (K : PySem.W.Frag) : V → List V → Hp → VK → Prop := fun x vs H Q => ∃ l b xs zs, x = .ref l ∧ vs = [.ref b] ∧ H l = some (.lst xs) ∧ SqT K H b zs ∧ xs.length + zs.length ≤ sizeLine ∧ Q .non (upd H l (.lst (xs ++ zs)))
theorem mt_extT : MtM X "list.extend" (rExtT X.K) := by
  intro pins s σ H x vs v us Q I rx rv h; obtain ⟨l, b, xs, zs, rfl, rfl, hH, hB, hz, q⟩ := h
  cases rx
  obtain ⟨u, rfl, ru⟩ := rv.one
  cases ru; obtain ⟨z, its, n, r, hl, e⟩ := I.lstM hH
  obtain ⟨its2, r2, ⟨⟨oc, od, odt, os⟩, ho, hc, j, hd⟩, _⟩ := I.tuple hB
  dsimp only at hc hd
  subst hc hd
  have l1 := r.length
  have l2 := r2.length
  have sz : its.toArray.size + its2.toArray.size ≤ sizeLine := by rw [List.size_toArray, List.size_toArray]; omega
  have few : ¬ (!its.toArray.isEmpty && Builtin.List.listTooLong (its.toArray.size + its2.toArray.size)) = true := by
    rw [notLongL sz, Bool.and_false]
    exact Bool.false_ne_true
  refine call_meets F.slot_list_extend ⟨_, e, rfl⟩ F.entry_list_extend (F.args_list_extend_2 _ _) (ext_tup l b od its.toArray its2.toArray n j os few (by rw [List.size_toArray]; omega) (by omega)) ⟨e, ho, ?_⟩
  exact ⟨.non, _, I.lset (its' := its ++ its2) hH e (by simp) (r.append r2) (by rw [List.length_append]; omega), rfl, q⟩
theorem mt_extA : MtM X "list.extend" (fun x vs H Q => rExtend x vs H Q ∨ rExtT X.K x vs H Q) := fun pins s σ H x vs v us Q I rx rv h =>
  h.elim (fun h => mt_extend pins s σ H x vs v us Q I rx rv h) fun h => mt_extT pins s σ H x vs v us Q I rx rv h
def extA (x y : VD) : M VD := match x, y with
  | .rf j, .rf k => fun S => match S.ce[j]?, S.ce[k]? with
    | some (.ls true ds), some (.ls _ es) => if ds.length + es.length ≤ 16777216 then .ok (.dat .none, { S with ce := S.ce.set j (.ls true (ds ++ es)) }) else .bad
    | _, _ => .bad
  | .rf j, .dat (.tuple es) => fun S => match S.ce[j]? with
    | some (.ls true ds) => if ds.length + es.length ≤ 16777216 then .ok (.dat .none, { S with ce := S.ce.set j (.ls true (ds ++ es)) }) else .bad
    | _ => .bad
  | _, _ => M.bad
def eExtA (to te : M VD) : M VD := do let x ← to; isRf x; let y ← te; extA x y
theorem d_extA {o : Expr} {to te : M VD} (ho : PD X E o to) (he : PD X E e te) (hs : starEach [e] X.env = (false, eval e X.env) :: starEach [] X.env := by rfl)
    (hbase : attributeBase o "extend" X.env (eval o X.env) = eval o X.env := by rfl)
    (hfew : ((backTo pos (starEach [e] X.env)).all (fun x => !x.1) && (backToKw pos (keywordEach [] X.env)).all (fun x => x.1.isSome)
      && decide ([e].length + ([] : List Keyword).length + (if ([] : List Keyword).isEmpty then 0 else 1) < 30)) = true := by rfl)
    (hline : (apos.endLine == pos.line) = true := by rfl) (hplain : (backTo pos (starEach [] X.env)).any (·.1) = false := by rfl) : PD X E (.Call (.Attribute o "extend" apos) [e] [] pos) (eExtA to te) :=
  PE.weak (pe_bm PySem.F.plainAttrs_list PySem.F.slot_list_extend PySem.F.type_list_extend mt_extA ho (pa_cons he pa_nil hs) hbase hfew hline hs hplain) fun σ H Q q => by
  obtain ⟨F, rs, S, G, m, p⟩ := q
  refine ⟨F, rs, S, G, m, (Post.seq p).mono fun v H1 ⟨rs1, S1, G1, x, u1, m1, r1, p1⟩ => ?_⟩
  cases x with
  | rf j =>
    obtain ⟨a, ha, rfl⟩ := r1
    obtain ⟨⟨bl, dl, ec⟩, p1⟩ := Post.isRf p1
    refine ⟨.inl ⟨rfl, ?_⟩, ?_⟩
    · obtain ⟨vs, h1, _⟩ := CellOk.list m1.sub (m1.cel j a _ ha ec)
      exact ⟨vs, .inl h1⟩
    · refine ⟨F, rs1, S1, G1, m1, (Post.seq p1).mono fun w H2 ⟨rs2, S2, G2, y, u2, m2, r2, p2⟩ => ?_⟩
      have ha2 : rs2[j]? = some a := by
        obtain ⟨⟨more, rfl⟩, _⟩ := u2
        rw [List.getElem?_append_left (List.getElem?_eq_some_iff.mp ha).1]
        exact ha
      have live : ∀ (ds : List PyData), S2.ce[j]? = some (.ls true ds) → ∃ vs, H2 a = some (.lst vs) ∧ DdAll X.K G2 vs ds := fun ds e => Rd.lst_tracked m2 ha2 e
      cases y with
      | rf k =>
        obtain ⟨b, hb, rfl⟩ := r2
        unfold extA at p2
        dsimp only at p2
        split at p2
        · rename_i ds l2 es e e2
          split at p2
          · rename_i hz
            obtain ⟨vs, hv, hd⟩ := live ds e
            obtain ⟨ws, hw, hdw⟩ : ∃ ws, H2 b = some (.lst ws) ∧ DdAll X.K G2 ws es := by
              have k2 := m2.cel k b _ hb e2
              cases l2 with
              | true => obtain ⟨_, _, ws, h1, h2⟩ := k2; exact ⟨ws, h1, h2⟩
              | false => obtain ⟨ws, h1, h2⟩ := k2; exact ⟨ws, m2.sub _ _ h1, h2⟩
            exact .inl ⟨a, b, vs, ws, rfl, rfl, hv, hw, by rw [DdAll.length hd, DdAll.length hdw, sizeLine_eq]; exact hz, p2 .non _ G2 rs2 Up.refl (m2.write ha2 e (DdAll.append hd hdw)) .non⟩
          · exact p2.elim
        · exact p2.elim
      | dat d =>
        cases d with
        | tuple es =>
          unfold extA at p2
          dsimp only at p2
          split at p2
          · rename_i ds e
            split at p2
            · rename_i hz
              obtain ⟨vs, hv, hd⟩ := live ds e
              cases (show Dd X.K G2 w (.tuple es) from r2) with
              | @tup b ws _ hw hdw =>
                exact .inr ⟨a, b, vs, ws, rfl, rfl, hv, (TN.SqN.same m2.sub hw).sqt, by rw [DdAll.length hd, DdAll.length hdw, sizeLine_eq]; exact hz, p2 .non _ G2 rs2 Up.refl (m2.write ha2 e (DdAll.append hd hdw)) .non⟩
            · exact p2.elim
          · exact p2.elim
        | _ => exact p2.elim
      | _ => exact p2.elim
  | _ => exact p1.elim
/-! ### x = [.. for ..] -/
theorem s_setOf (i : Nat) {t : M VD} {T : TE} {st : Stmt} (h : PS X st (tAsg T (gName i))) (k : ∀ σ H Q, liftE X.K X.wd X.mg E t σ H Q → T σ H Q) : PDS X E st (sSet i t) := PS.weak h fun D σ H q => by
  obtain ⟨F, rs, S, G, m, p⟩ := q
  refine k σ H _ ⟨F, rs, S, G, m, (PostS.expr p).mono fun v H1 ⟨rs1, S1, G1, y, u1, m1, r1, p1⟩ => ?_⟩
  exact p1 _ H1 G1 rs1 Up.refl (m1.store r1)
section
variable {elt tg iter tg1 iter1 : Expr} {ifs ifs1 : List Expr} {scope : Scope} {own : List (Str × Nat)} {spos py : Pos} {y : Str} {src src1 : M (List PyData)} {g g1 : VD → M Unit} {tt tt1 : M Bool} {te : M VD} {is js vs1 : List Nat}
theorem s_setLc (i : Nat) (hc : X.calm = true) (hN : X.N.Nodup) (ok : BlkOk X.N X.env.scope scope own) (his : ∀ i ∈ is, i ∈ own.map (·.2)) (hi : PDI X E tg iter src)
    (hg : ∀ (s : Shared) (H : Hp) (C : Addr) (cl : List (Str × Addr)) (fp : List Addr), PDG (X.blk s H scope (compEnvC scope cl C X.env) fp) is tg g)
    (ht : ∀ (s : Shared) (H : Hp) (C : Addr) (cl : List (Str × Addr)) (fp : List Addr), PTs (X.blk s H scope (compEnvC scope cl C X.env) fp) ifs (liftT X.K X.wd X.mg E0 tt))
    (he : ∀ (s : Shared) (H : Hp) (C : Addr) (cl : List (Str × Addr)) (fp : List Addr), PD (X.blk s H scope (compEnvC scope cl C X.env) fp) E0 elt te)
    (hy : X.N[i]? = some y := by rfl) (hyl : X.env.scope.names.lookup y = some .local := by rfl) (hsw : swapsWith (.ListComp elt [⟨tg, iter, ifs, 0⟩] scope pos) (some (.Name y py)) spos.line X.env = pure true := by exact sw_true rfl rfl rfl rfl) (hs : ∀ x, foldedSetIterable iter X.env x = pure x := by intro _; rfl) :
    PDS X E (.Assign [.Name y py] (.ListComp elt [⟨tg, iter, ifs, 0⟩] scope pos) spos) (sSet i (eLc (own.map (·.2)) src (stepC g tt te))) :=
  s_setOf i (ps_setLc (g := liftG X.K X.wd is g) (tt := liftT X.K X.wd X.mg E0 tt) (te := liftE X.K X.wd X.mg E0 te) hc hN hy hyl hsw hi ok hg ht he hs) fun σ H Q q => lc_lift (fun _ _ _ _ h => h) his q
theorem s_setLc2 (i : Nat) (hc : X.calm = true) (hN : X.N.Nodup) (ok : BlkOk X.N X.env.scope scope own) (his : ∀ i ∈ is, i ∈ own.map (·.2)) (hjs : ∀ i ∈ js, i ∈ vs1) (hv : ∀ i ∈ vs1, i ∈ own.map (·.2)) (hi : PDI X E tg iter src)
    (hg : ∀ (s : Shared) (H : Hp) (C : Addr) (cl : List (Str × Addr)) (fp : List Addr), PDG (X.blk s H scope (compEnvC scope cl C X.env) fp) is tg g)
    (ht : ∀ (s : Shared) (H : Hp) (C : Addr) (cl : List (Str × Addr)) (fp : List Addr), PTs (X.blk s H scope (compEnvC scope cl C X.env) fp) ifs (liftT X.K X.wd X.mg E0 tt))
    (hi1 : ∀ (s : Shared) (H : Hp) (C : Addr) (cl : List (Str × Addr)) (fp : List Addr), PDI (X.blk s H scope (compEnvC scope cl C X.env) fp) E0 tg1 iter1 src1)
    (hg1 : ∀ (s : Shared) (H : Hp) (C : Addr) (cl : List (Str × Addr)) (fp : List Addr), PDG (X.blk s H scope (compEnvC scope cl C X.env) fp) js tg1 g1)
    (ht1 : ∀ (s : Shared) (H : Hp) (C : Addr) (cl : List (Str × Addr)) (fp : List Addr), PTs (X.blk s H scope (compEnvC scope cl C X.env) fp) ifs1 (liftT X.K X.wd X.mg E0 tt1))
    (he : ∀ (s : Shared) (H : Hp) (C : Addr) (cl : List (Str × Addr)) (fp : List Addr), PD (X.blk s H scope (compEnvC scope cl C X.env) fp) E0 elt te)
    (hy : X.N[i]? = some y := by rfl) (hyl : X.env.scope.names.lookup y = some .local := by rfl) (hsw : swapsWith (.ListComp elt [⟨tg, iter, ifs, 0⟩, ⟨tg1, iter1, ifs1, 0⟩] scope pos) (some (.Name y py)) spos.line X.env = pure true := by exact sw_true rfl rfl rfl rfl) (hs : ∀ x, foldedSetIterable iter X.env x = pure x := by intro _; rfl) (hs1 : ∀ env x, foldedSetIterable iter1 env x = pure x := by intro _ _; rfl) :
    PDS X E (.Assign [.Name y py] (.ListComp elt [⟨tg, iter, ifs, 0⟩, ⟨tg1, iter1, ifs1, 0⟩] scope pos) spos) (sSet i (eC2 (.ls true []) accL (own.map (·.2)) vs1 src (preC g tt src1) (stepC g1 tt1 te))) :=
  s_setOf i (ps_setLc2 (g := liftG X.K X.wd is g) (tt := liftT X.K X.wd X.mg E0 tt) (g1 := liftG X.K X.wd js g1) (tt1 := liftT X.K X.wd X.mg E0 tt1) (te := liftE X.K X.wd X.mg E0 te) hc hN hy hyl hsw hi ok hv hg ht hi1 hg1 ht1 he hs hs1) fun σ H Q q =>
    c2_lift (start := fun _ => .lst []) accL_ok (fun {_ _ _ _ _ _} m {D} hD => m.cell hD .nil) his hjs q
end
/-! ### type(x) is not T -/
def eTyNot (T : String) (ta : M VD) : M VD := do let x ← ta; let d ← peek x; pure (.dat (.bool (!decide (tyName d = T))))
theorem d_tyNot {T : String} {t : Expr} {ta : M VD} (ha : PD X E a ta) (ht : PE X t (tC (.ty T))) (hm : X.mg "type" = none) (hg : Gl X "type" := by rfl) (na : starEach [a] X.env = (false, eval a X.env) :: starEach [] X.env := by rfl) (hpl : (backTo p1 (starEach [] X.env)).any (·.1) = false := by rfl) (hb : behindInMarks .IsNot t = false := by rfl) :
    PD X E (.Compare (.Call (.Name "type" p) [a] [] p1) [.IsNot] [t] pos) (eTyNot T ta) := PE.weak (pe_cmpR op_isNotTy (pe_callTy c_type hg hm (by decide +kernel) (pa_cons ha pa_nil na) (he := na) (hpl := hpl)) ht hb) fun σ H Q q => by
  obtain ⟨F, rs, S, G, m, p⟩ := q
  refine ⟨F, rs, S, G, m, (Post.seq p).mono fun v H1 ⟨rs1, S1, G1, x, u1, m1, r1, p1⟩ => ?_⟩
  obtain ⟨d, hd, p2⟩ := Post.peek p1
  exact ⟨v, d, rfl, m1.peek r1 hd, _, _, rfl, rfl, Post.ret m1 p2 (.bl _)⟩
theorem dt_tyNot {T : String} {t : Expr} {ta : M VD} (ha : PD X E a ta) (ht : PE X t (tC (.ty T))) (hm : X.mg "type" = none) (hg : Gl X "type" := by rfl) (na : starEach [a] X.env = (false, eval a X.env) :: starEach [] X.env := by rfl) (hpl : (backTo p1 (starEach [] X.env)).any (·.1) = false := by rfl) (hb : behindInMarks .IsNot t = false := by rfl) :
    PDT X E (.Compare (.Call (.Name "type" p) [a] [] p1) [.IsNot] [t] pos) (tOf (eTyNot T ta)) := PT.weak (pt_cmpR op_isNotTy (pe_callTy c_type hg hm (by decide +kernel) (pa_cons ha pa_nil na) (he := na) (hpl := hpl)) ht hb) fun σ H Q q => by
  obtain ⟨F, rs, S, G, m, p⟩ := tOf_lift q
  refine ⟨F, rs, S, G, m, (Post.seq p).mono fun v H1 ⟨rs1, S1, G1, x, u1, m1, r1, p1⟩ => ?_⟩
  obtain ⟨d, hd, p2⟩ := Post.peek p1
  exact ⟨v, d, rfl, m1.peek r1 hd, _, _, rfl, rfl, Post.ret m1 p2 (.bl _)⟩
end
end DL
/-! ZN1: zip of two lists or tuples (also one of each), the pairs plain. -/
namespace ZN
open PySem PySem.Spec PyProof.Rows L2 TN
def IterK (k : Bool) (h : Heap) (it a : Addr) (i : Nat) : Prop := match k with | true => h.IsListIter it a i | false => h.IsTupleIter it a i
def SeqK (k : Bool) (h : Heap) (a : Addr) (xs : Array Value) : Prop := match k with | true => h.IsList a xs | false => h.IsTuple a xs
def SqK (K : PySem.W.Frag) (k : Bool) (H : Hp) (a : Addr) (xs : List V) : Prop := match k with | true => SqL K H a xs | false => SqT K H a xs
def objK (k : Bool) (a : Addr) : Obj := match k with | true => { cls := .type "list_iterator", data := .fields #[.ref a, .int 0 0] } | false => { cls := .type "tuple_iterator", data := .fields #[.ref a, .int 0 0] }
theorem drawsK (k : Bool) {prog : Program} {w : World} {A : Around} (hh : A.handled = none) (it a : Addr) (hne : a ≠ it) (xs : Array Value) : Draws prog w A it [it, a] xs.size (fun i v => xs[i]? = some v) (fun i h => IterK k h it a i ∧ SeqK k h a xs) := by
  cases k
  · exact Draws.tuple hh it a hne xs
  · exact Draws.list hh it a hne xs
theorem beginsK (k : Bool) (a : Addr) (xs : Array Value) : Begins (.ref a) (objK k a) fun h => SeqK k h a xs := by
  cases k
  · exact begins_tuple a xs
  · exact begins_list a xs
theorem IterK.at {k : Bool} {h h' : Heap} {it a : Addr} {i : Nat} (x : IterK k h it a i) (q : ∀ o, h.get? it = some o → h'.get? it = some o) : IterK k h' it a i := by
  cases k
  · exact Heap.IsTupleIter.at x q
  · exact Heap.IsListIter.at x q
theorem IterK.obj {k : Bool} {h : Heap} {it a : Addr} {i : Nat} (x : IterK k h it a i) : ∃ o, h.get? it = some o ∧ ∀ v, o.data ≠ .cell v := by
  cases k
  · obtain ⟨o, e, _, d⟩ := x; exact ⟨o, e, fun v q => by rw [d] at q; cases q⟩
  · obtain ⟨o, e, _, d⟩ := x; exact ⟨o, e, fun v q => by rw [d] at q; cases q⟩
theorem IterK.new {k : Bool} {h : Heap} {it a : Addr} (x : h.get? it = some (objK k a)) : IterK k h it a 0 := by
  cases k
  · exact ⟨_, x, rfl, rfl⟩
  · exact ⟨_, x, rfl, rfl⟩
section
variable {s : Shared} {X : Cx} {pins : List (Addr × Obj)} {σ : L2.St} {H : Hp}
theorem seqK {k : Bool} {a : Addr} {xs : List V} (I : Inv X pins σ H s) (h : SqK X.K k H a xs) : ∃ its, Vals xs its ∧ SeqK k s.heap a its.toArray ∧ a < s.heap.objs.size ∧ xs.length ≤ sizeLine := by
  cases k
  · obtain ⟨its, r, p, z⟩ := I.tuple h
    obtain ⟨o, ho, _⟩ := id p
    exact ⟨its, r, p, Heap.lt_size ho, z⟩
  · obtain ⟨its, r, p, z⟩ := I.list h
    exact ⟨its, r, p.isList, p.lt, z⟩
theorem injK {k : Bool} {a : Addr} {xs ys : List V} (I : Inv X pins σ H s) (h : SqK X.K k H a xs) (h' : SqK X.K k H a ys) : xs = ys := by
  cases k
  · exact I.tuple_inj h h'
  · exact I.list_inj h h'
end
theorem zsep {z TI TO i1 i2 a b : Addr} (D : ZipApart z TI TO i1 i2 a b) : ZipSep2 z TI TO i1 i2 [i1, a] [i2, b] where
  TIz := D.TIz
  TOz := D.TOz
  TITO := D.TITO
  TIi1 := D.TIi1
  mem1 := by simp
  zf1 := by simp [D.i1z.symm, D.l1z.symm]
  Tf1 := by simp [D.TOi1, D.l1TO.symm]
  TIi2 := D.TIi2
  mem2 := by simp
  zf2 := by simp [D.i2z.symm, D.l2z.symm]
  Tf2 := by simp [D.TOi2, D.l2TO.symm]
  sep1_2 := by simp [D.i12, D.l2i1.symm]
  sep2_1 := by simp [D.i12.symm, D.l1i2.symm]
/-- the things at a and b as they stand at each turn, the items in new pairs -/
def ItzN (K : PySem.W.Frag) (k1 k2 : Bool) (a b : Addr) : It :=
  ⟨fun i H => ∃ (xs ys : List V) (x y : V), SqK K k1 H a xs ∧ SqK K k2 H b ys ∧ xs[i]? = some x ∧ ys[i]? = some y,
    fun i H v H' => ∃ T x y its, v = .ref T ∧ H T = none ∧ H' = upd H T (hT its [x, y]) ∧ (∀ xs, SqK K k1 H a xs → xs[i]? = some x) ∧ ∀ ys, SqK K k2 H b ys → ys[i]? = some y,
    fun i H => ∃ xs ys : List V, SqK K k1 H a xs ∧ SqK K k2 H b ys ∧ i ≤ xs.length ∧ i ≤ ys.length ∧ (i = xs.length ∨ i = ys.length)⟩
def ZipAt (k1 k2 : Bool) (z TI TO i1 i2 a b : Addr) (i : Nat) (h : Heap) : Prop := IsZip h z TI TO .none ∧ IsTupOf2 h TI (.ref i1) (.ref i2) ∧ (∃ x y, IsTupOf2 h TO x y) ∧ IterK k1 h i1 a i ∧ IterK k2 h i2 b i
theorem mem5 {c z TI TO i1 i2 : Addr} (hc : c ∈ [z, TI, TO, i1, i2]) : c = z ∨ c = TI ∨ c = TO ∨ c = i1 ∨ c = i2 := by simpa using hc
theorem ZipAt.obj {k1 k2 : Bool} {z TI TO i1 i2 a b : Addr} {i : Nat} {h : Heap} (st : ZipAt k1 k2 z TI TO i1 i2 a b i h) : ∀ c ∈ [z, TI, TO, i1, i2], ∃ o, h.get? c = some o ∧ ∀ v, o.data ≠ .cell v := fun c hc => by
  obtain ⟨hz, hTI, ⟨x, y, hTO⟩, h1, h2⟩ := st; rcases mem5 hc with q | q | q | q | q <;> rw [q]
  · exact ⟨_, hz, fun v q => nomatch q⟩
  · exact ⟨_, hTI, fun v q => nomatch q⟩
  · exact ⟨_, hTO, fun v q => nomatch q⟩
  · exact h1.obj
  · exact h2.obj
theorem ZipAt.lt {k1 k2 : Bool} {z TI TO i1 i2 a b : Addr} {i : Nat} {h : Heap} (st : ZipAt k1 k2 z TI TO i1 i2 a b i h) : ∀ c ∈ [z, TI, TO, i1, i2], c < h.objs.size := fun c hc => let ⟨_, e, _⟩ := st.obj c hc; Heap.lt_size e
theorem ZipAt.keep {k1 k2 : Bool} {z TI TO i1 i2 a b : Addr} {i : Nat} {h h' : Heap} (st : ZipAt k1 k2 z TI TO i1 i2 a b i h) (k : ∀ c ∈ [z, TI, TO, i1, i2], ∀ o, h.get? c = some o → h'.get? c = some o) : ZipAt k1 k2 z TI TO i1 i2 a b i h' := by
  obtain ⟨hz, hTI, ⟨x, y, hTO⟩, h1, h2⟩ := st; exact ⟨k z (by simp) _ hz, k TI (by simp) _ hTI, ⟨x, y, k TO (by simp) _ hTO⟩, h1.at fun o q => k i1 (by simp) o q, h2.at fun o q => k i2 (by simp) o q⟩
section
variable {s : Shared} {X : Cx} {pins : List (Addr × Obj)} {σ : L2.St} {H : Hp}
/-- one pair -/
theorem zip_item {k1 k2 : Bool} {z TI TO i1 i2 a b : Addr} (D : ZipApart z TI TO i1 i2 a b) (hc : X.calm = true) {i : Nat} {xs ys : List V} {x y : V} {E : Value → Shared → Prop} {Q : Option Value → Shared → Prop} (I : Inv X pins σ H s) (st : ZipAt k1 k2 z TI TO i1 i2 a b i s.heap)
    (hqx : SqK X.K k1 H a xs) (hqy : SqK X.K k2 H b ys) (hx : xs[i]? = some x) (hy : ys[i]? = some y)
    (fin : ∀ u v h' tk, RelV x u → RelV y v → h'.get? s.heap.objs.size = some (oT [u, v]) → IsZip h' z TI TO (rawInt s.heap.objs.size) → (∀ h'', Heap.SameBut z h' h'' → IsZip h'' z TI TO .none → ZipAt k1 k2 z TI TO i1 i2 a b (i + 1) h'') →
      (∀ c o, c ∉ [z, TI, TO, i1, i2] → s.heap.get? c = some o → h'.get? c = some o) → Q (some (.ref s.heap.objs.size)) { s with heap := h', toks := tk }) :
    wpAny (model X.prog X.w) X.A (pyNext (.ref z)) Q E s := by
  obtain ⟨hz, hTI, ⟨x0, y0, hTO⟩, h1, h2⟩ := id st
  obtain ⟨its, rv, p, _⟩ := seqK I hqx
  obtain ⟨its2, rv2, p2, _⟩ := seqK I hqy; obtain ⟨u, hu, ru⟩ := rv.get hx; obtain ⟨u2, hu2, ru2⟩ := rv2.get hy
  have hn : X.A.in1.handled = none := I.ok.hd hc
  have l1 : i < its.toArray.size := by rw [List.size_toArray]; exact (List.getElem?_eq_some_iff.mp hu).1
  have l2 : i < its2.toArray.size := by rw [List.size_toArray]; exact (List.getElem?_eq_some_iff.mp hu2).1
  refine wpAny_pyNext_zipD2_item (zsep D) (drawsK k1 hn i1 a D.l1i1 its.toArray) (drawsK k2 hn i2 b D.l2i2 its2.toArray) hz hTI hTO ⟨h1, p⟩ ⟨h2, p2⟩ l1 l2 fun x1 x2 h' tk q1 q2 z' TO' st1 st2 hT hsz hk => ?_
  have e1 : x1 = u := by have q : its.toArray[i]? = some u := by simpa using hu
                         rw [q] at q1; exact (Option.some.inj q1).symm
  have e2 : x2 = u2 := by have q : its2.toArray[i]? = some u2 := by simpa using hu2
                          rw [q] at q2; exact (Option.some.inj q2).symm
  subst e1 e2
  have up : ∀ {c : Addr} {o : Obj}, c ∉ [z, TI, TO, i1, i2] → s.heap.get? c = some o → h'.get? c = some o := fun {c o} hb q => hk c o (fun e => hb (by simp [e])) (fun e => hb (by simp [e])) (fun e => hb (by simp [e])) (fun e => hb (by simp [e])) q
  exact fin x1 x2 h' tk ru ru2 hT z' (fun h'' sb z'' => ⟨z'', (sb.2 _ D.TIz).trans (hk _ _ D.TIz D.TITO D.TIi1 D.TIi2 hTI), ⟨_, _, (sb.2 _ D.TOz).trans TO'⟩, st1.1.at fun o q => (sb.2 _ D.i1z).trans q, st2.1.at fun o q => (sb.2 _ D.i2z).trans q⟩) fun c o hb q => up hb q
theorem zip_end {k1 k2 : Bool} {z TI TO i1 i2 a b : Addr} (D : ZipApart z TI TO i1 i2 a b) (hc : X.calm = true) {i : Nat} {xs ys : List V} {E : Value → Shared → Prop} {Q : Option Value → Shared → Prop} (I : Inv X pins σ H s) (st : ZipAt k1 k2 z TI TO i1 i2 a b i s.heap)
    (hqx : SqK X.K k1 H a xs) (hqy : SqK X.K k2 H b ys) (lx : i ≤ xs.length) (ly : i ≤ ys.length) (hend : i = xs.length ∨ i = ys.length)
    (fin : ∀ h' tk, (∀ c o, c ∉ [z, TI, TO, i1, i2] → s.heap.get? c = some o → h'.get? c = some o) → Q none { s with heap := h', toks := tk }) : wpAny (model X.prog X.w) X.A (pyNext (.ref z)) Q E s := by
  obtain ⟨hz, hTI, ⟨x0, y0, hTO⟩, h1, h2⟩ := st; obtain ⟨its, rv, p, _⟩ := seqK I hqx
  obtain ⟨its2, rv2, p2, _⟩ := seqK I hqy
  have hn : X.A.in1.handled = none := I.ok.hd hc
  have l1 : its.toArray.size = xs.length := by rw [List.size_toArray]; exact rv.length.symm
  have l2 : its2.toArray.size = ys.length := by rw [List.size_toArray]; exact rv2.length.symm
  exact wpAny_pyNext_zipD2_end (zsep D) (drawsK k1 hn i1 a D.l1i1 its.toArray) (drawsK k2 hn i2 b D.l2i2 its2.toArray) hz hTI hTO ⟨h1, p⟩ ⟨h2, p2⟩ (by omega) (by omega) (by omega) fun h' tk hk => fin h' tk fun c o hb q =>
    hk c o (fun e => hb (by simp [e])) (fun e => hb (by simp [e])) (fun e => hb (by simp [e])) (fun e => hb (by simp [e])) q
end
theorem turnN {P : Program} {w : World} {K : PySem.W.Frag} {elts : List Expr} {kk : Nat} {tpos : Pos} {k1 k2 : Bool} {a b z TI TO i1 i2 : Addr} (D : ZipApart z TI TO i1 i2 a b) :
    Turn P w K (.Tuple elts kk tpos) (ItzN K k1 k2 a b) [z, TI, TO, i1, i2] z (ZipAt k1 k2 z TI TO i1 i2 a b) where
  mem := by simp
  obj := fun i h st => st.obj
  keep := fun i h h' st k => st.keep k
  item := by
    intro X hP hw hK hc i pins s σ H E I hf st hg; subst hP hw hK; obtain ⟨xs, ys, x, y, hqx, hqy, hx, hy⟩ := hg
    refine zip_item D hc I st hqx hqy hx hy fun u v h' tk ru rv hT z' nxt up => ⟨_, rfl, wpAny_letOwnedTupleGo_zip (s := { s with heap := h', toks := tk }) z' fun h'' z'' sb => ?_⟩
    have zl : z < s.heap.objs.size := st.lt z (by simp)
    have hT2 : h''.get? s.heap.objs.size = some (oT [u, v]) := (sb.2 _ (Nat.ne_of_gt zl)).trans hT
    have new : ObjOk X.prog X.w (upd H s.heap.objs.size (TN.hT [u, v] [x, y])) h'' s.heap.objs.size (TN.hT [u, v] [x, y]) := ⟨hT2, by show 2 ≤ sizeLine; decide, [u, v], .cons ru (.cons rv .nil), ⟨_, hT2, rfl, _, rfl⟩⟩
    have I1 : Inv X pins σ (upd H s.heap.objs.size (TN.hT [u, v] [x, y])) { s with heap := h'', toks := tk } :=
      I.turnedNew (ch := [z, TI, TO, i1, i2]) (fun c o hb q => (sb.2 c (fun e => hb (by simp [e]))).trans (up c o hb q)) hf (Nat.le_refl _) new
    refine ⟨.ref s.heap.objs.size, _, I1, rfl, ⟨_, x, y, _, rfl, I.hok.fresh (Nat.le_refl _), rfl, fun l hl => by rw [injK I hl hqx]; exact hx, fun l hl => by rw [injK I hl hqy]; exact hy⟩, nxt h'' sb z'', fun c hcm => ?_⟩
    rw [upd_ne (Nat.ne_of_lt (st.lt c hcm))]
    exact (hf c hcm).1
  done := by
    intro X hP hw hK hc i pins s σ H E I hf st hg; subst hP hw hK
    obtain ⟨xs, ys, hqx, hqy, lx, ly, he⟩ := hg
    exact zip_end D hc I st hqx hqy lx ly he fun h' tk up => ⟨rfl, I.turnedL (ch := [z, TI, TO, i1, i2]) up hf⟩
  self := (fun A i s Q E st h => wpAny_pyIter_zip st.1 h)
def iZipN (K : PySem.W.Frag) (ta : TA) : TI := fun σ H R => ta σ H fun vs H1 => ∃ k1 k2 a b xs ys, vs = [.ref a, .ref b] ∧ SqK K k1 H1 a xs ∧ SqK K k2 H1 b ys ∧ R (ItzN K k1 k2 a b) H1
section
variable {X : Cx} {pins : List (Addr × Obj)} {σ : L2.St} {H : Hp} {s : Shared} {E : Value → Shared → Prop} {Q : Value → Shared → Prop}
/-- zip(x, y) begins -/
theorem zip_call {k1 k2 : Bool} {a b : Addr} {xs ys : List V} (I : Inv X pins σ H s) (hqx : SqK X.K k1 H a xs) (hqy : SqK X.K k2 H b ys)
    (fin : ∀ z TI TO i1 i2 h', ZipApart z TI TO i1 i2 a b → ZipAt k1 k2 z TI TO i1 i2 a b 0 h' → Inv X pins σ H { s with heap := h' } → (∀ c ∈ [z, TI, TO, i1, i2], FpOk X pins H c) → Q (.ref z) { s with heap := h' }) : wpAny (model X.prog X.w) X.A (call (.type "zip") [.ref a, .ref b]) Q E s := by
  obtain ⟨its, rv, p, la, _⟩ := seqK I hqx
  obtain ⟨its2, rv2, p2, lb, _⟩ := seqK I hqy
  refine zip_begins2 (beginsK k1 a its.toArray) (beginsK k2 b its2.toArray) p p2 fun h' hz hTI hTO h1 h2 hsz hk => ?_
  refine fin _ _ _ _ _ h' (PySem.W.ktu_apart s.heap.objs.size a b la lb) ⟨hz, hTI, ⟨_, _, hTO⟩, IterK.new h1, IterK.new h2⟩ (I.kept (t' := s.toks) hk) fun c hcm => ?_
  have hle : s.heap.objs.size ≤ c := by rcases mem5 hcm with e | e | e | e | e <;> rw [e] <;> first | exact Nat.le_refl _ | exact Nat.le_add_right _ _
  exact I.fpOk hle (I.hok.fresh hle)
theorem pi_zipN {e e2 : Expr} {ta : TA} {p pos tpos : Pos} {elts : List Expr} {kk : Nat} (hg : Gl X "zip") (hm : X.mg "zip" = none) (ha : PA X [e, e2] ta) (hs : starEach [e, e2] X.env = (false, eval e X.env) :: starEach [e2] X.env := by rfl) (hpl : (backTo pos (starEach [e2] X.env)).any (·.1) = false := by rfl) :
    PI X (.Tuple elts kk tpos) (.Call (.Name "zip" p) [e, e2] [] pos) (iZipN X.K ta) := by
  refine ⟨fun pins s σ H R I h => ?_⟩; refine Call_ (ld_blt I hg hm PyProof.Rows.boot_zip (PyProof.Rows.callWith_type1 (thn (ha.run pos pins s σ H _ I h) fun us s1 ⟨vs, H1, I1, r1, k1, k2, a, b, xs, ys, ev, hqx, hqy, q⟩ => ?_) hs hpl))
  subst ev
  cases r1 with
  | cons r rr =>
    cases rr with
    | cons r' rr =>
      cases rr
      cases r
      cases r'
      exact zip_call I1 hqx hqy fun z TI TO i1 i2 h' D st I2 f => wpAny_pyIter_zip st.1 ⟨z, _, _, _, H1, rfl, I2, turnN D, st, f, q⟩
end
end ZN
/-! DM5: for a, b in zip(x, y); (x, y) = (.., ..) where a name is a cell. -/
namespace DL
open PySem PySem.Spec L2
/-- the pairs of zip -/
def zipD : List PyData → List PyData → List PyData
  | d :: ds, e :: es => .tuple [d, e] :: zipD ds es
  | _, _ => []
theorem zipD_len : ∀ {ds es : List PyData}, (zipD ds es).length = min ds.length es.length
  | [], _ => by simp [zipD]
  | _ :: _, [] => by simp [zipD]
  | _ :: ds, _ :: es => by simp [zipD, zipD_len (ds := ds) (es := es), Nat.add_min_add_right]
theorem zipD_get : ∀ {ds es : List PyData} {i : Nat} {d e : PyData}, ds[i]? = some d → es[i]? = some e → (zipD ds es)[i]? = some (.tuple [d, e])
  | [], _, _, _, _, h, _ => (by simp at h)
  | _ :: _, [], _, _, _, _, h => (by simp at h)
  | a :: ds, b :: es, 0, d, e, h1, h2 => by simp at h1 h2; subst h1 h2; simp [zipD]
  | a :: ds, b :: es, i + 1, d, e, h1, h2 => by
    simp only [List.getElem?_cons_succ] at h1 h2
    simp only [zipD, List.getElem?_cons_succ]
    exact zipD_get h1 h2
def pairSeq (d e : PyData) : Option (List PyData) := match asSeq d, asSeq e with
  | some ds, some es => some (zipD ds es)
  | _, _ => none
def srcZip (ta tb : M VD) : M (List PyData) := do
  let xs ← aCons ta (aCons tb (pure []))
  let ds ← toDs xs
  match ds with
  | [d, e] => ofO (pairSeq d e)
  | _ => M.bad
section
variable {X : Cx} {E : XK} {a b : Expr} {p pos tpos : Pos} {elts : List Expr} {kk : Nat}
/-- a list or a tuple as data is one in the heap -/
theorem seq_at {K : PySem.W.Frag} {H : Hp} {v : V} {d : PyData} {ds : List PyData} (r : Dd K H v d) (h : asSeq d = some ds) : ∃ k a vs, v = .ref a ∧ (∀ H', Same H H' → ZN.SqK K k H' a vs) ∧ DdAll K H vs ds := by
  cases d with
  | list es =>
    cases h
    cases r with
    | @lst a vs _ h1 h2 => exact ⟨true, a, vs, rfl, fun H' s => .inl (Same.rd s h1), h2⟩
  | tuple es =>
    cases h
    cases r with
    | @tup a vs _ h1 h2 => exact ⟨false, a, vs, rfl, fun H' s => (TN.SqN.same s h1).sqt, h2⟩
  | _ => cases h
theorem i_zip {ta tb : M VD} (hg : Gl X "zip" := by rfl) (hm : X.mg "zip" = none) (ha : PD X E a ta) (hb : PD X E b tb) (hs : starEach [a, b] X.env = (false, eval a X.env) :: starEach [b] X.env := by rfl) (hs1 : starEach [b] X.env = (false, eval b X.env) :: starEach [] X.env := by rfl) (hpl : (backTo pos (starEach [b] X.env)).any (·.1) = false := by rfl) :
    PDI X E (.Tuple elts kk tpos) (.Call (.Name "zip" p) [a, b] [] pos) (srcZip ta tb) :=
  PI.weak (ZN.pi_zipN hg hm (d_cons ha (d_cons hb d_nil hs1) hs) hs hpl) fun σ H R q => by
  obtain ⟨F, rs, S, G, m, p⟩ := q
  refine ⟨F, rs, S, G, m, (Post.seq p).mono fun vs H1 ⟨rs1, S1, G1, xs, u1, m1, r1, p1⟩ => ?_⟩
  obtain ⟨ds, S2, G2, s2, m2, d2, p2⟩ := m1.toDs r1 p1
  match ds, d2, p2 with
  | [d, e], d2, p2 =>
    cases d2 with
    | cons rd rest =>
      cases rest with
      | cons re rest =>
        cases rest
        obtain ⟨L, hL, p3⟩ := Post.ofO' p2
        unfold pairSeq at hL
        split at hL
        · rename_i xs' ys' e1 e2
          cases hL
          obtain ⟨k1, a1, vs1, rfl, h1, q1⟩ := seq_at rd e1
          obtain ⟨k2, b1, ws1, rfl, h2, q2⟩ := seq_at re e2
          have l1 := DdAll.length q1
          have l2 := DdAll.length q2
          refine ⟨k1, k2, a1, b1, vs1, ws1, rfl, h1 _ m2.sub, h2 _ m2.sub, p3 (ZN.ItzN X.K k1 k2 a1 b1) H1 G2 rs1 Up.refl m2 ⟨fun H G s1 s2 => ⟨vs1, ws1, h1 _ (L2.Same.trans s1 s2), h2 _ (L2.Same.trans s1 s2), ?_⟩, fun i H G hi s1 s2 => ?_, fun i H G x H' hi s1 s2 y => ?_⟩⟩
          · rw [zipD_len]; omega
          · rw [zipD_len] at hi
            exact ⟨vs1, ws1, vs1[i]'(by omega), ws1[i]'(by omega), h1 _ (L2.Same.trans s1 s2), h2 _ (L2.Same.trans s1 s2), List.getElem?_eq_getElem _, List.getElem?_eq_getElem _⟩
          · obtain ⟨T, x1, y1, its, rfl, hT, rfl, g1, g2⟩ := y
            obtain ⟨d1, e1, r1'⟩ := DdAll.get q1 (g1 vs1 (h1 _ (L2.Same.trans s1 s2)))
            obtain ⟨d2', e2, r2'⟩ := DdAll.get q2 (g2 ws1 (h2 _ (L2.Same.trans s1 s2)))
            have gT := L2.Same.free s2 hT
            have sg := L2.Same.trans s1 (same_upd (o := TN.hT its [x1, y1]) gT)
            exact ⟨_, zipD_get e1 e2, .inr ⟨T, _, hT, rfl, .tup (TN.SqN.of upd_same) (.cons (Dd.same sg _ _ r1') (.cons (Dd.same sg _ _ r2') .nil))⟩⟩
        · cases hL
  | [], _, p2 => exact p2.elim
  | [_], _, p2 => exact p2.elim
  | _ :: _ :: _ :: _, _, p2 => exact p2.elim

/-! ### (x, ..) = (.., ..), the values kept as they are -/
def PVGs (X : Cx) (is : List Nat) (tgs : List Expr) (g : List VD → M Unit) : Prop := PGs X tgs (fun vs σ H Q => ∃ (F : Hp) (rs : List Addr) (S : DS) (G : Hp) (xs : List VD), Md X.K X.wd F rs S σ H G ∧ RdVs X.K X.wd rs G xs vs ∧ PostU X.K X.wd F rs G is σ (g xs S) Q)
def gNilV : List VD → M Unit
  | [] => pure ()
  | _ => M.bad
def gConsV (g : VD → M Unit) (gs : List VD → M Unit) : List VD → M Unit
  | x :: xs => do g x; gs xs
  | [] => M.bad
theorem v_nil : PVGs X [] [] gNilV := PGs.weak pgs_nil fun v σ H Q q => by
  obtain ⟨F, rs, S, G, xs, m, r, p⟩ := q
  match xs, v, r, p with
  | [], [], _, p => exact ⟨rfl, p σ H G rs Up.refl m Off.refl⟩
  | _ :: _, _, _, p => exact p.elim
  | [], _ :: _, r, _ => exact r.elim
theorem v_cons {es : List Expr} {e : Expr} {g : VD → M Unit} {gs : List VD → M Unit} {is js : List Nat} (h1 : PDG X is e g) (h2 : PVGs X js es gs) (hs : (assignEach (e :: es) X.env).map (·.2) = assign e X.env :: (assignEach es X.env).map (·.2) := by rfl) : PVGs X (is ++ js) (e :: es) (gConsV g gs) := PGs.weak (pgs_cons h1 h2 hs) fun v σ H Q q => by
  obtain ⟨F, rs, S, G, xs, m, r, p⟩ := q
  match xs, v, r, p with
  | [], _, _, p => exact p.elim
  | _ :: _, [], r, _ => exact r.elim
  | x :: xs, v0 :: vs, r, p =>
    refine ⟨v0, vs, rfl, F, rs, S, G, x, m, r.1, ?_⟩
    unfold gConsV at p
    dsimp only at p
    rw [M.bind_run] at p
    cases e : g x S with
    | ok q =>
      rw [e] at p
      exact fun σ' H' G' rs' u' m' o' => ⟨F, rs', q.2, G', xs, m', RdVs.up u' r.2, by
        have p' : PostU X.K X.wd F rs G (is ++ js) σ (gs xs q.2) Q := p
        revert p'
        cases gs xs q.2 with
        | ok w => exact fun p' σ'' H'' G'' rs'' u'' m'' o'' => p' σ'' H'' G'' rs'' (u'.trans u'') m'' (o'.trans o'')
        | exc _ _ => exact fun p' => p'
        | bad => exact fun p' => p'⟩
    | exc _ _ => rw [e] at p; exact p.elim
    | bad => rw [e] at p; exact p.elim
def sParV (n : Nat) (ta : M (List VD)) (gs : List VD → M Unit) : MS := do
  let xs ← ta
  fun S => if xs.length = n ∧ n ≤ 1000 then (match gs xs S with
    | .ok p => .ok (.nx, p.2)
    | _ => .bad) else .bad
theorem s_parV {n : Nat} {is : List Nat} {tgs es : List Expr} {ta : M (List VD)} {gs : List VD → M Unit} {kt k2 : Nat} {pt pt2 : Pos} (hc : X.calm = true) (ha : PDA X E es ta) (hg : PVGs X is tgs gs) (hn : (assignEach tgs X.env).length = n := by rfl) (hst : (assignEach tgs X.env).findIdx? (·.1) = none := by rfl)
    (hs : swapsWithSole [.Tuple tgs kt pt] (.Tuple es k2 pt2) pos.line X.env = pure false := by rfl) (hw : swappedStores [.Tuple tgs kt pt] (.Tuple es k2 pt2) X.env = pure none := by rfl) (h1 : (assignEach [.Tuple tgs kt pt] X.env).map (·.2) = [assign (.Tuple tgs kt pt) X.env] := by rfl) :
    PDS X E (.Assign [.Tuple tgs kt pt] (.Tuple es k2 pt2) pos) (sParV n ta gs) := PS.weak (ps_asg (pe_tup ha) (pg_tup hc hg hn hst) hs hw h1) fun D σ H q => by
  obtain ⟨F, rs, S, G, m, p⟩ := q
  refine ⟨F, rs, S, G, m, (PostS.expr p).mono fun vs H1 ⟨rs1, S1, G1, xs, u1, m1, r1, p1⟩ => ?_⟩
  have hl := RdVs.length r1
  split at p1
  · rename_i hz
    obtain ⟨hn', hz⟩ := hz
    refine ⟨sz1000 (by omega), fun p hp => ⟨p, vs, rfl, SqT.of upd_same, by omega, F, rs1, S1, upd G1 p (.tup vs), xs, m1.new hp, RdVs.up ⟨⟨[], by simp⟩, same_upd (L2.Same.free m1.sub hp)⟩ r1, ?_⟩⟩
    cases e : gs xs S1 with
    | ok q =>
      rw [e] at p1
      exact fun σ' H' G' rs' u' m' _ => p1 σ' H' G' rs' (Up.trans ⟨⟨[], by simp⟩, same_upd (L2.Same.free m1.sub hp)⟩ u') m'
    | exc _ _ => rw [e] at p1; exact p1.elim
    | bad => rw [e] at p1; exact p1.elim
  · exact p1.elim
end
end DL
/-! ZN2: tuple(zip(x, y)), list(zip(x, y)). -/
namespace ZN
open PySem PySem.Spec PyProof.Rows L2 TN
section
variable {prog : Program} {w : World} {A : Around} {E : Value → Shared → Prop} {s : Shared} {z TI TO T i1 i2 : Addr} {fp1 fp2 : List Addr} {n1 n2 i : Nat} {P1 P2 : Nat → Value → Prop} {St1 St2 : Nat → Heap → Prop} {f : Bool} {o0 : Obj}
/-- the next pair, the one before still out -/
theorem held_item {Q : Value → Shared → Prop} (S : ZipSep2 z TI TO i1 i2 fp1 fp2) (D1 : Draws prog w A i1 fp1 n1 P1 St1) (D2 : Draws prog w A i2 fp2 n2 P2 St2)
    (hz : IsZipHeld s.heap z TI TO T f) (hT : s.heap.get? T = some o0) (hTI : IsTupOf2 s.heap TI (.ref i1) (.ref i2)) (st1 : St1 i s.heap) (st2 : St2 i s.heap) (lt1 : i < n1) (lt2 : i < n2)
    (hQ : ∀ x y h' tk, P1 i x → P2 i y → IsZipHeld h' z TI TO T true → St1 (i + 1) h' → St2 (i + 1) h' → IsTupOf2 h' s.heap.objs.size x y → h'.objs.size = s.heap.objs.size + 1 →
      (∀ c o, c ≠ z → c ≠ i1 → c ≠ i2 → s.heap.get? c = some o → h'.get? c = some o) → Q (.ref s.heap.objs.size) { s with heap := h', toks := tk }) : wpAny (model prog w) A (Builtin.«zip.__next__» ⟨[.ref z], []⟩) (fun fin s' => ∃ v, fin = .done (.ret v) ∧ Q v s') E s := by
  obtain ⟨hp, g, d, tk0, os⟩ := s; show wpAny _ _ (field (.ref z) 2 >>= _) _ _ _; refine wpAny_bind (wpAny_field hz rfl (x := .bool false) rfl ?_); show wpAny _ _ (field (.ref z) 3 >>= _) _ _ _
  refine wpAny_bind (wpAny_field hz rfl (x := .ref TI) rfl (wpAny_bind (wpAny_seqItems hTI rfl ?_))); show wpAny _ _ (Builtin.SmallTypes.ownedTupleIsFree (.ref z) >>= _) _ _ _
  refine wpAny_bind (wpAny_tupleHeld_zip hz hT fun g0 hz0 hs0 => ?_)
  replace hs0 : (Heap.SameBut z hp g0) := hs0
  simp only [Bool.false_eq_true, if_false]; refine wpAny_bind ?_
  rw [← Array.forIn_toList]; simp only [List.forIn_cons, List.forIn_nil]; refine wpAny_bind (wpAny_bind (wpAny_holding ?_)); show wpAny _ _ (Builtin.SmallTypes.nextOf (.ref i1) >>= _) _ _ ⟨g0, g, d, tk0, os⟩
  refine wpAny_bind (D1.item i _ _ _ lt1 (D1.over st1 hs0 S.zf1) fun x1 p1 tk1 hx1 sn1 hp1 => wpAny_pure (wpAny_pure ?_))
  replace hp1 : (Heap.SameBut i1 g0 p1) := hp1
  refine wpAny_bind (wpAny_bind (wpAny_holding ?_)); show wpAny _ _ (Builtin.SmallTypes.nextOf (.ref i2) >>= _) _ _ ⟨p1, g, d, tk1, os⟩
  refine wpAny_bind (D2.item i _ _ _ lt2 (D2.over (D2.over st2 hs0 S.zf2) hp1 S.sep1_2) fun x2 p2 tk2 hx2 sn2 hp2 => wpAny_pure (wpAny_pure (wpAny_pure ?_)))
  replace hp2 : Heap.SameBut i2 p1 p2 := hp2
  show wpAny _ _ (newTuple [x1, x2] >>= _) _ _ ⟨p2, g, d, tk2, os⟩
  refine wpAny_bind (wpAny_newTuple (wpAny_pure ⟨_, rfl, ?_⟩))
  have hsz : p2.objs.size = hp.objs.size := by rw [hp2.1, hp1.1, hs0.1]
  have hk : ∀ c o, c ≠ z → c ≠ i1 → c ≠ i2 → hp.get? c = some o → p2.get? c = some o := fun c o c1 c2 c3 e => hp2.extBut _ _ c3 (hp1.extBut _ _ c2 (hs0.extBut _ _ c1 e))
  have hn : IsTupOf2 (p2.push { cls := .type "tuple", data := .seq #[x1, x2] }) p2.objs.size x1 x2 := Heap.get?_push_size _ rfl
  have hl : (p2.push { cls := .type "tuple", data := .seq #[x1, x2] }).objs.size = p2.objs.size + 1 := Heap.size_push ..
  show Q (.ref p2.objs.size) ⟨_, g, d, tk2, os⟩
  have e1 : St1 (i + 1) p2 := D1.over sn1 hp2 S.sep2_1
  rw [hsz] at hn hl ⊢
  exact hQ x1 x2 _ tk2 hx1 hx2 (Heap.get?_push_of_some _ (hp2.extBut _ _ S.zi2 (hp1.extBut _ _ S.zi1 hz0))) (D1.frame _ _ _ e1 fun b hb o e => Heap.get?_push_of_some _ e) (D2.frame _ _ _ sn2 fun b hb o e => Heap.get?_push_of_some _ e) hn hl fun c o c1 c2 c3 e => Heap.get?_push_of_some _ (hk c o c1 c2 c3 e)
theorem held_end {Q : Fin → Shared → Prop} (S : ZipSep2 z TI TO i1 i2 fp1 fp2) (D1 : Draws prog w A i1 fp1 n1 P1 St1) (D2 : Draws prog w A i2 fp2 n2 P2 St2)
    (hz : IsZipHeld s.heap z TI TO T f) (hT : s.heap.get? T = some o0) (hTI : IsTupOf2 s.heap TI (.ref i1) (.ref i2)) (st1 : St1 i s.heap) (st2 : St2 i s.heap) (le1 : i ≤ n1) (le2 : i ≤ n2) (hend : i = n1 ∨ i = n2)
    (hE : ∀ h' tk e, (∀ c o, c ≠ z → c ≠ i1 → c ≠ i2 → s.heap.get? c = some o → h'.get? c = some o) → (∃ o, h'.get? e = some o ∧ o.cls = .type "StopIteration") → E (.ref e) { s with heap := h', toks := tk }) : wpAny (model prog w) A (Builtin.«zip.__next__» ⟨[.ref z], []⟩) Q E s := by
  obtain ⟨hp, g, d, tk0, os⟩ := s; show wpAny _ _ (field (.ref z) 2 >>= _) _ _ _; refine wpAny_bind (wpAny_field hz rfl (x := .bool false) rfl ?_); show wpAny _ _ (field (.ref z) 3 >>= _) _ _ _
  refine wpAny_bind (wpAny_field hz rfl (x := .ref TI) rfl (wpAny_bind (wpAny_seqItems hTI rfl ?_))); show wpAny _ _ (Builtin.SmallTypes.ownedTupleIsFree (.ref z) >>= _) _ _ _
  refine wpAny_bind (wpAny_tupleHeld_zip hz hT fun g0 hz0 hs0 => ?_)
  replace hs0 : (Heap.SameBut z hp g0) := hs0
  simp only [Bool.false_eq_true, if_false]; refine wpAny_bind ?_
  rw [← Array.forIn_toList]; simp only [List.forIn_cons, List.forIn_nil]; refine wpAny_bind (wpAny_bind (wpAny_holding ?_)); show wpAny _ _ (Builtin.SmallTypes.nextOf (.ref i1) >>= _) _ _ ⟨g0, g, d, tk0, os⟩
  by_cases hlt1 : i < n1
  · refine wpAny_bind (D1.item i _ _ _ hlt1 (D1.over st1 hs0 S.zf1) fun x1 p1 tk1 hx1 sn1 hp1 => wpAny_pure (wpAny_pure ?_))
    replace hp1 : (Heap.SameBut i1 g0 p1) := hp1
    have hi2 : i = n2 := by omega
    refine wpAny_bind (wpAny_bind (wpAny_holding ?_)); show wpAny _ _ (Builtin.SmallTypes.nextOf (.ref i2) >>= _) _ _ ⟨p1, g, d, tk1, os⟩
    refine wpAny_bind (D2.done ⟨p1, g, d, tk1, os⟩ _ _ (by rw [← hi2]; exact D2.over (D2.over st2 hs0 S.zf2) hp1 S.sep1_2) fun q e hq he => ?_)
    replace hq : Heap.ExtBut i2 p1 q := hq
    exact hE q tk1 e (fun c o c1 c2 c3 x => hq _ _ c3 (hp1.extBut _ _ c2 (hs0.extBut _ _ c1 x))) he
  · (have hi1 : i = n1 := by omega)
    refine wpAny_bind (D1.done ⟨g0, g, d, tk0, os⟩ _ _ (by rw [← hi1]; exact D1.over st1 hs0 S.zf1) fun q e hq he => ?_)
    replace hq : (Heap.ExtBut i1 g0 q) := hq
    exact hE q tk0 e (fun c o c1 c2 _ x => hq _ _ c2 (hs0.extBut _ _ c1 x)) he
theorem next_held_item {Q : Option Value → Shared → Prop} (S : ZipSep2 z TI TO i1 i2 fp1 fp2) (D1 : Draws prog w A.in1 i1 fp1 n1 P1 St1) (D2 : Draws prog w A.in1 i2 fp2 n2 P2 St2)
    (hz : IsZipHeld s.heap z TI TO T f) (hT : s.heap.get? T = some o0) (hTI : IsTupOf2 s.heap TI (.ref i1) (.ref i2)) (st1 : St1 i s.heap) (st2 : St2 i s.heap) (lt1 : i < n1) (lt2 : i < n2)
    (hQ : ∀ x y h' tk, P1 i x → P2 i y → IsZipHeld h' z TI TO T true → St1 (i + 1) h' → St2 (i + 1) h' → IsTupOf2 h' s.heap.objs.size x y → h'.objs.size = s.heap.objs.size + 1 →
      (∀ c o, c ≠ z → c ≠ i1 → c ≠ i2 → s.heap.get? c = some o → h'.get? c = some o) → Q (some (.ref s.heap.objs.size)) { s with heap := h', toks := tk }) : wpAny (model prog w) A (pyNext (.ref z)) Q E s := by
  have hTy : s.TypeIs (.ref z) "zip" := ⟨_, hz, rfl⟩; unfold pyNext
  exact wpAny_bind (wpAny_attempt (wpAny_callSpecial?_slot (name := Str.ofString "__next__") hTy F.slot_zip_next (wpAny_call_entry F.slot_zip_next hTy F.entry_zip_next
      (held_item S D1 D2 hz hT hTI st1 st2 lt1 lt2 fun x y h' tk y1 y2 b1 b2 b3 b4 b5 b6 => wpAny_pure (hQ x y h' tk y1 y2 b1 b2 b3 b4 b5 b6)) (F.args_zip_next_1 _))))
theorem next_held_end {Q : Option Value → Shared → Prop} (S : ZipSep2 z TI TO i1 i2 fp1 fp2) (D1 : Draws prog w A.in1 i1 fp1 n1 P1 St1) (D2 : Draws prog w A.in1 i2 fp2 n2 P2 St2)
    (hz : IsZipHeld s.heap z TI TO T f) (hT : s.heap.get? T = some o0) (hTI : IsTupOf2 s.heap TI (.ref i1) (.ref i2)) (st1 : St1 i s.heap) (st2 : St2 i s.heap) (le1 : i ≤ n1) (le2 : i ≤ n2) (hend : i = n1 ∨ i = n2)
    (hQ : ∀ h' tk, (∀ c o, c ≠ z → c ≠ i1 → c ≠ i2 → s.heap.get? c = some o → h'.get? c = some o) → Q none { s with heap := h', toks := tk }) : wpAny (model prog w) A (pyNext (.ref z)) Q E s := by
  have hTy : s.TypeIs (.ref z) "zip" := ⟨_, hz, rfl⟩; unfold pyNext
  refine wpAny_bind (wpAny_attempt (wpAny_callSpecial?_slot (name := Str.ofString "__next__") hTy F.slot_zip_next (wpAny_call_entry F.slot_zip_next hTy F.entry_zip_next (held_end S D1 D2 hz hT hTI st1 st2 le1 le2 hend fun h' tk e hk he => ?_) (F.args_zip_next_1 _))))
  obtain ⟨o, ho, hc⟩ := he
  exact wpAny_bind (wpAny_isInstance (T := "StopIteration") (b := true) ⟨o, ho, hc⟩ isSubtype_stop (wpAny_pure (hQ _ _ hk)))
end
end ZN
/-! ZN3: the pairs of zip gathered. -/
namespace ZN
open PySem PySem.Spec PyProof.Rows L2 TN
/-- the state of a zip that is gathered -/
def Gath (k1 k2 : Bool) (z TI TO i1 i2 a b : Addr) (i : Nat) (h : Heap) : Prop :=
  ((IsZip h z TI TO .none ∧ ∃ x y, IsTupOf2 h TO x y) ∨ ∃ T f o, IsZipHeld h z TI TO T f ∧ h.get? T = some o ∧ T ∉ [z, TI, TO, i1, i2]) ∧ IsTupOf2 h TI (.ref i1) (.ref i2) ∧ (∃ o, h.get? TO = some o ∧ ∀ v, o.data ≠ .cell v) ∧ IterK k1 h i1 a i ∧ IterK k2 h i2 b i
theorem ZipAt.gath {k1 k2 : Bool} {z TI TO i1 i2 a b : Addr} {i : Nat} {h : Heap} (st : ZipAt k1 k2 z TI TO i1 i2 a b i h) : Gath k1 k2 z TI TO i1 i2 a b i h := by
  obtain ⟨hz, hTI, ⟨x, y, hTO⟩, h1, h2⟩ := st; exact ⟨.inl ⟨hz, x, y, hTO⟩, hTI, ⟨_, hTO, fun v q => nomatch q⟩, h1, h2⟩
theorem Gath.typ {k1 k2 : Bool} {z TI TO i1 i2 a b : Addr} {i : Nat} {s : Shared} (st : Gath k1 k2 z TI TO i1 i2 a b i s.heap) : s.TypeIs (.ref z) "zip" := by
  obtain ⟨⟨hz, _⟩ | ⟨T, f, o, hz, _⟩, _⟩ := st
  · exact ⟨_, hz, rfl⟩
  · exact ⟨_, hz, rfl⟩
theorem Gath.lt {k1 k2 : Bool} {z TI TO i1 i2 a b : Addr} {i : Nat} {h : Heap} (st : Gath k1 k2 z TI TO i1 i2 a b i h) : ∀ c ∈ [z, TI, TO, i1, i2], c < h.objs.size := fun c hc => by
  obtain ⟨hz, hTI, ⟨o, hTO, _⟩, h1, h2⟩ := st
  rcases mem5 hc with q | q | q | q | q <;> rw [q]
  · rcases hz with ⟨hz, _⟩ | ⟨T, f, o, hz, _⟩ <;> exact Heap.lt_size hz
  · exact Heap.lt_size hTI
  · exact Heap.lt_size hTO
  · obtain ⟨_, e, _⟩ := h1.obj; exact Heap.lt_size e
  · obtain ⟨_, e, _⟩ := h2.obj; exact Heap.lt_size e
theorem Gath.keep {k1 k2 : Bool} {z TI TO i1 i2 a b : Addr} {i : Nat} {h h' : Heap} (st : Gath k1 k2 z TI TO i1 i2 a b i h) {S : Addr} (hS : S ∉ [z, TI, TO, i1, i2]) (hT : ∀ T o, T = S → h.get? T = some o → ∃ o', h'.get? T = some o') (k : ∀ c, c ≠ S → ∀ o, h.get? c = some o → h'.get? c = some o) : Gath k1 k2 z TI TO i1 i2 a b i h' := by
  obtain ⟨hz, hTI, ⟨o, hTO, ho⟩, h1, h2⟩ := st
  have ne : ∀ c ∈ [z, TI, TO, i1, i2], c ≠ S := fun c hc e => hS (e ▸ hc)
  refine ⟨?_, k _ (ne _ (by simp)) _ hTI, ⟨o, k _ (ne _ (by simp)) _ hTO, ho⟩, h1.at fun o q => k _ (ne _ (by simp)) o q, h2.at fun o q => k _ (ne _ (by simp)) o q⟩
  rcases hz with ⟨hz, x, y, hTO'⟩ | ⟨T, f, o', hz, hT', hn⟩
  · exact .inl ⟨k _ (ne _ (by simp)) _ hz, x, y, k _ (ne _ (by simp)) _ hTO'⟩
  · by_cases e : T = S
    · obtain ⟨o2, e2⟩ := hT T o' e hT'
      exact .inr ⟨T, f, o2, k _ (ne _ (by simp)) _ hz, e2, hn⟩
    · exact .inr ⟨T, f, o', k _ (ne _ (by simp)) _ hz, k _ e _ hT', hn⟩
section
variable {X : Cx} {pins : List (Addr × Obj)} {σ : L2.St} {H : Hp} {s : Shared} {k1 k2 : Bool} {z TI TO i1 i2 a b : Addr} {i : Nat} {xs ys : List V} {E : Value → Shared → Prop} {Q : Option Value → Shared → Prop}
theorem gath_item {A : Around} {x y : V} (D : ZipApart z TI TO i1 i2 a b) (hn0 : A.handled = none) (I : Inv X pins σ H s) (st : Gath k1 k2 z TI TO i1 i2 a b i s.heap) (hqx : SqK X.K k1 H a xs) (hqy : SqK X.K k2 H b ys) (hx : xs[i]? = some x) (hy : ys[i]? = some y)
    (fin : ∀ u v h' tk, RelV x u → RelV y v → h'.get? s.heap.objs.size = some (oT [u, v]) → Gath k1 k2 z TI TO i1 i2 a b (i + 1) h' → (∀ c o, c ∉ [z, TI, TO, i1, i2] → s.heap.get? c = some o → h'.get? c = some o) → Q (some (.ref s.heap.objs.size)) { s with heap := h', toks := tk }) :
    wpAny (model X.prog X.w) A (pyNext (.ref z)) Q E s := by
  have lts := st.lt
  obtain ⟨hz, hTI, hTO0, h1, h2⟩ := st
  obtain ⟨its, rv, p, _⟩ := seqK I hqx
  obtain ⟨its2, rv2, p2, _⟩ := seqK I hqy; obtain ⟨u, hu, ru⟩ := rv.get hx; obtain ⟨u2, hu2, ru2⟩ := rv2.get hy
  have hn : A.in1.handled = none := hn0
  have l1 : i < its.toArray.size := by rw [List.size_toArray]; exact (List.getElem?_eq_some_iff.mp hu).1
  have l2 : i < its2.toArray.size := by rw [List.size_toArray]; exact (List.getElem?_eq_some_iff.mp hu2).1
  have eq1 : ∀ {x1 : Value}, its.toArray[i]? = some x1 → x1 = u := fun {x1} q1 => by
    have q : its.toArray[i]? = some u := by simpa using hu
    rw [q] at q1; exact (Option.some.inj q1).symm
  have eq2 : ∀ {x1 : Value}, its2.toArray[i]? = some x1 → x1 = u2 := fun {x1} q1 => by
    have q : its2.toArray[i]? = some u2 := by simpa using hu2
    rw [q] at q1; exact (Option.some.inj q1).symm
  have nsz : s.heap.objs.size ∉ [z, TI, TO, i1, i2] := fun hm => Nat.lt_irrefl _ (lts _ hm)
  rcases hz with ⟨hz, x0, y0, hTO⟩ | ⟨T, f, o, hz, hT, hTn⟩
  · refine wpAny_pyNext_zipD2_item (zsep D) (drawsK k1 hn i1 a D.l1i1 its.toArray) (drawsK k2 hn i2 b D.l2i2 its2.toArray) hz hTI hTO ⟨h1, p⟩ ⟨h2, p2⟩ l1 l2 fun x1 x2 h' tk q1 q2 z' TO' st1 st2 hT hsz hk => ?_
    cases eq1 q1
    cases eq2 q2
    exact fin u u2 h' tk ru ru2 hT ⟨.inr ⟨s.heap.objs.size, false, _, z', hT, nsz⟩, hk _ _ D.TIz D.TITO D.TIi1 D.TIi2 hTI, ⟨_, TO', fun v q => nomatch q⟩, st1.1, st2.1⟩ fun c o hb q => hk c o (fun e => hb (by simp [e])) (fun e => hb (by simp [e])) (fun e => hb (by simp [e])) (fun e => hb (by simp [e])) q
  · refine next_held_item (zsep D) (drawsK k1 hn i1 a D.l1i1 its.toArray) (drawsK k2 hn i2 b D.l2i2 its2.toArray) hz hT hTI ⟨h1, p⟩ ⟨h2, p2⟩ l1 l2 fun x1 x2 h' tk q1 q2 z' st1 st2 hN hsz hk => ?_
    cases eq1 q1
    cases eq2 q2
    obtain ⟨oO, hO, hOc⟩ := hTO0
    have T1 : T ≠ z ∧ T ≠ i1 ∧ T ≠ i2 := ⟨fun e => hTn (by simp [e]), fun e => hTn (by simp [e]), fun e => hTn (by simp [e])⟩
    exact fin u u2 h' tk ru ru2 hN ⟨.inr ⟨T, true, o, z', hk _ _ T1.1 T1.2.1 T1.2.2 hT, hTn⟩, hk _ _ D.TIz D.TIi1 D.TIi2 hTI, ⟨oO, hk _ _ D.TOz D.TOi1 D.TOi2 hO, hOc⟩, st1.1, st2.1⟩ fun c o hb q => hk c o (fun e => hb (by simp [e])) (fun e => hb (by simp [e])) (fun e => hb (by simp [e])) q
theorem gath_end {A : Around} (D : ZipApart z TI TO i1 i2 a b) (hn0 : A.handled = none) (I : Inv X pins σ H s) (st : Gath k1 k2 z TI TO i1 i2 a b i s.heap) (hqx : SqK X.K k1 H a xs) (hqy : SqK X.K k2 H b ys) (lx : i ≤ xs.length) (ly : i ≤ ys.length) (hend : i = xs.length ∨ i = ys.length)
    (fin : ∀ h' tk, (∀ c o, c ∉ [z, TI, TO, i1, i2] → s.heap.get? c = some o → h'.get? c = some o) → Q none { s with heap := h', toks := tk }) : wpAny (model X.prog X.w) A (pyNext (.ref z)) Q E s := by
  obtain ⟨hz, hTI, hTO0, h1, h2⟩ := st
  obtain ⟨its, rv, p, _⟩ := seqK I hqx
  obtain ⟨its2, rv2, p2, _⟩ := seqK I hqy
  have hn : A.in1.handled = none := hn0
  have l1 : its.toArray.size = xs.length := by rw [List.size_toArray]; exact rv.length.symm
  have l2 : its2.toArray.size = ys.length := by rw [List.size_toArray]; exact rv2.length.symm
  rcases hz with ⟨hz, x0, y0, hTO⟩ | ⟨T, f, o, hz, hT, hTn⟩
  · exact wpAny_pyNext_zipD2_end (zsep D) (drawsK k1 hn i1 a D.l1i1 its.toArray) (drawsK k2 hn i2 b D.l2i2 its2.toArray) hz hTI hTO ⟨h1, p⟩ ⟨h2, p2⟩ (by omega) (by omega) (by omega) fun h' tk hk => fin h' tk fun c o hb q =>
      hk c o (fun e => hb (by simp [e])) (fun e => hb (by simp [e])) (fun e => hb (by simp [e])) (fun e => hb (by simp [e])) q
  · exact next_held_end (zsep D) (drawsK k1 hn i1 a D.l1i1 its.toArray) (drawsK k2 hn i2 b D.l2i2 its2.toArray) hz hT hTI ⟨h1, p⟩ ⟨h2, p2⟩ (by omega) (by omega) (by omega) fun h' tk hk => fin h' tk fun c o hb q =>
      hk c o (fun e => hb (by simp [e])) (fun e => hb (by simp [e])) (fun e => hb (by simp [e])) q
/-- the pairs so far -/
def Prs (H : Hp) (xs ys : List V) (ps : List Addr) : Prop := ∀ (j : Nat) (p : Addr), ps[j]? = some p → ∃ x y, xs[j]? = some x ∧ ys[j]? = some y ∧ SqN H p [x, y]
theorem Prs.same {H H' : Hp} {xs ys : List V} {ps : List Addr} (e : L2.Same H H') (h : Prs H xs ys ps) : Prs H' xs ys ps := fun j p hp => let ⟨x, y, h1, h2, h3⟩ := h j p hp; ⟨x, y, h1, h2, SqN.same e h3⟩
theorem gath_loop {A : Around} (D : ZipApart z TI TO i1 i2 a b) (hn0 : A.handled = none) {S : Addr} {res : Value} {R : Result → Shared → Prop} (hS : S ∉ [z, TI, TO, i1, i2]) (hz : min xs.length ys.length ≤ 100000) (H0 : Hp) (hS0 : H0 S = none) (hqx : ∀ H', Same H0 H' → SqK X.K k1 H' a xs) (hqy : ∀ H', Same H0 H' → SqK X.K k2 H' b ys)
    (hR : ∀ s' H' ps, Inv X pins σ H' s' → Same H0 H' → Prs H' xs ys ps → ps.length = min xs.length ys.length → H' S = some (.lst (ps.map V.ref)) → R (.ok (.ret res)) s') :
    ∀ (k i : Nat) (s : Shared) (H : Hp) (ps : List Addr), min xs.length ys.length - i = k → i ≤ min xs.length ys.length → Inv X pins σ H s → Same H0 H → (∀ c ∈ [z, TI, TO, i1, i2], FpOk X pins H c) → Gath k1 k2 z TI TO i1 i2 a b i s.heap → H S = some (.lst (ps.map V.ref)) → Prs H xs ys ps → ps.length = i →
      codeAny (model X.prog X.w) A (.builtin "list.extend.loop" ⟨[.ref S, .ref z, res], []⟩) R s := by
  intro k
  have hn1 : A.in1.handled = none := hn0
  have zl : sizeLine = 16777216 := sizeLine_eq
  induction k with
  | zero =>
    intro i s H ps hk hi I e0 hf st hSl hp hl; refine codeAny_builtin F.entry_extend_loop ?_; rw [Around.under_plainId F.plain_extend_loop _]
    show wpAny _ A.in1 (pyNext (.ref z) >>= _) _ _ s
    refine wpAny_bind (gath_end D hn1 I st (hqx H e0) (hqy H e0) (by omega) (by omega) (by omega) fun h' tk up => ?_)
    exact wpAny_pure (hR _ H ps (I.turnedL (ch := [z, TI, TO, i1, i2]) up hf) e0 hp (by omega) hSl)
  | succ k ih =>
    intro i s H ps hk hi I e0 hf st hSl hp hl
    have hx : xs[i]? = some (xs[i]'(by omega)) := List.getElem?_eq_getElem _
    have hy : ys[i]? = some (ys[i]'(by omega)) := List.getElem?_eq_getElem _
    generalize xs[i]'(by omega) = x at hx
    generalize ys[i]'(by omega) = y at hy; refine codeAny_builtin F.entry_extend_loop ?_; rw [Around.under_plainId F.plain_extend_loop _]
    show wpAny _ A.in1 (pyNext (.ref z) >>= _) _ _ s
    refine wpAny_bind (gath_item D hn1 I st (hqx H e0) (hqy H e0) hx hy fun u v h' tk ru rv hT st' up => ?_)
    have hTn : H s.heap.objs.size = none := I.hok.fresh (Nat.le_refl _)
    have new : ObjOk X.prog X.w (upd H s.heap.objs.size (TN.hT [u, v] [x, y])) h' s.heap.objs.size (TN.hT [u, v] [x, y]) := ⟨hT, by show 2 ≤ sizeLine; decide, [u, v], .cons ru (.cons rv .nil), ⟨_, hT, rfl, _, rfl⟩⟩
    have I1 : Inv X pins σ (upd H s.heap.objs.size (TN.hT [u, v] [x, y])) { s with heap := h', toks := tk } := I.turnedNew (ch := [z, TI, TO, i1, i2]) up hf (Nat.le_refl _) new
    have hST : S ≠ s.heap.objs.size := fun e => by rw [e, hTn] at hSl; cases hSl
    have hS1 : upd H s.heap.objs.size (TN.hT [u, v] [x, y]) S = some (.lst (ps.map V.ref)) := by rw [upd_ne hST]; exact hSl
    obtain ⟨_, itsL, n, rL, hlL, eL⟩ := I1.lstM hS1
    have lenL : itsL.length = i := by rw [← hlL, List.length_map, hl]
    have I2 : Inv X pins σ (upd (upd H s.heap.objs.size (TN.hT [u, v] [x, y])) S (.lst ((ps ++ [s.heap.objs.size]).map V.ref))) { s with heap := h'.update S (Obj.mapSeq (·.push (.ref s.heap.objs.size))), toks := tk } :=
      I1.lset (its' := itsL ++ [.ref s.heap.objs.size]) (t' := tk) hS1 eL (by simp) (by rw [List.map_append]; exact rL.append (.cons rfl .nil)) (by rw [List.length_map, List.length_append, List.length_singleton]; omega)
    show wpAny _ A.in1 (updateSeq S (·.push (.ref s.heap.objs.size)) >>= _) _ _ _
    refine wpAny_bind (wpAny_updateSeq eL rfl (wpAny_pure ⟨plainId_quiet F.plain_extend_loop _, ih (i + 1) _ _ (ps ++ [s.heap.objs.size]) (by omega) (by omega) I2 ?_ ?_ ?_ upd_same ?_ (by rw [List.length_append, List.length_singleton, hl])⟩) (by rw [List.size_toArray]; omega) (by rw [Array.size_push, List.size_toArray]; omega))
    · intro c o hc
      have c1 : c ≠ S := ne_of_none hc hS0
      have c2 : c ≠ s.heap.objs.size := ne_of_none (e0 c o hc) hTn
      rw [upd_ne c1, upd_ne c2]
      exact e0 c o hc
    · intro c hc
      refine ⟨?_, (hf c hc).2⟩
      have c1 : c ≠ S := fun e => hS (by rw [← e]; exact hc)
      rw [upd_ne c1, upd_ne (Nat.ne_of_lt (st.lt c hc))]
      exact (hf c hc).1
    · refine st'.keep hS (fun T o e h => ?_) fun c hne o e => (Heap.get?_update_other _ _ (Ne.symm hne)).trans e
      obtain ⟨_, its9, n9, _, _, e9⟩ := I2.lstM upd_same
      exact ⟨_, by rw [e]; exact e9⟩
    · intro j p hj
      rw [List.getElem?_append] at hj
      split at hj
      · obtain ⟨x', y', q1, q2, its', q3⟩ := hp j p hj
        have p1 : p ≠ S := fun e => by rw [e, hSl] at q3; cases q3
        have p2 : p ≠ s.heap.objs.size := ne_of_none q3 hTn
        exact ⟨x', y', q1, q2, its', by rw [upd_ne p1, upd_ne p2]; exact q3⟩
      · rename_i hj2
        have ej : j = i := by
          have := (List.getElem?_eq_some_iff.mp hj).1
          simp at this
          omega
        subst ej
        rw [hl, Nat.sub_self] at hj
        have ep : s.heap.objs.size = p := by simpa using hj
        subst ep
        exact ⟨x, y, hx, hy, [u, v], by rw [upd_ne hST.symm]; exact upd_same⟩
end
end ZN
/-! ZN4: tuple(zip(x, y)), list(zip(x, y)) as values. -/
namespace ZN
open PySem PySem.Spec PyProof.Rows L2 TN
theorem zip_no_len : typeLookup (.type "zip") "__len__" = pure none := by rw [typeLookup_type, builtinLookup_eq_fast]; kernel_rfl
theorem zip_no_hint : typeLookup (.type "zip") "__length_hint__" = pure none := by rw [typeLookup_type, builtinLookup_eq_fast]; kernel_rfl
section
variable {X : Cx} {pins : List (Addr × Obj)} {σ : L2.St} {H : Hp} {s : Shared} {k1 k2 : Bool} {z TI TO i1 i2 a b : Addr} {xs ys : List V}
/-- what is there when all pairs are gathered at S -/
def Done (X : Cx) (pins : List (Addr × Obj)) (σ : L2.St) (H0 : Hp) (xs ys : List V) (S : Addr) (s' : Shared) : Prop :=
  ∃ H' ps, Inv X pins σ H' s' ∧ Same H0 H' ∧ Prs H' xs ys ps ∧ ps.length = min xs.length ys.length ∧ H' S = some (.lst (ps.map V.ref))
theorem extend_zip {A : Around} (D : ZipApart z TI TO i1 i2 a b) (hn0 : A.handled = none) {S : Addr} {res : Value} {R : Result → Shared → Prop} (hS : S ∉ [z, TI, TO, i1, i2]) (hz : min xs.length ys.length ≤ 100000) {H0 : Hp} (hS0 : H0 S = none) (hqx : ∀ H', Same H0 H' → SqK X.K k1 H' a xs) (hqy : ∀ H', Same H0 H' → SqK X.K k2 H' b ys)
    (I : Inv X pins σ H s) (e0 : Same H0 H) (hf : ∀ c ∈ [z, TI, TO, i1, i2], FpOk X pins H c) (st : ZipAt k1 k2 z TI TO i1 i2 a b 0 s.heap) (hSl : H S = some (.lst []))
    (hR : ∀ s', Done X pins σ H0 xs ys S s' → R (.ok (.ret res)) s') :
    wpAny (model X.prog X.w) A.in1 (Builtin.List.listExtendWith (.ref S) (.ref z) res)
      (fun fin s' => match fin with | .done f => R (.ok f) s' | .again c' => c'.quiet = true ∧ codeAny (model X.prog X.w) A c' R s') (fun e s' => R (.error e) s') s := by
  have hSz : S ≠ z := fun e => hS (by simp [e])
  have hT := st.gath.typ
  obtain ⟨_, its0, n0, r0, _, e1⟩ := I.lstM hSl
  cases r0; unfold Builtin.List.listExtendWith; refine wpAny_bind (wpAny_typeOf hT ?_)
  have h1 : Builtin.List.listSameRef (.ref S) (.ref z) = false := by simp [Builtin.List.listSameRef, hSz]
  have h2 : (Value.type "zip" == Value.type "list") = false := by decide
  have h3 : (Value.type "zip" == Value.type "tuple") = false := by decide
  simp only [h1, h2, h3, Bool.or_false, Bool.false_eq_true, if_false]; refine wpAny_bind (wpAny_pyIter_zip st.1 (wpAny_bind (wpAny_holding ?_))); unfold Builtin.List.listLengthHint
  refine wpAny_bind (wpAny_specialOf hT zip_no_len ?_)
  show wpAny _ A.in1 (specialOf (Value.ref z) (Str.ofString "__length_hint__") >>= _) _ _ _
  refine wpAny_bind (wpAny_specialOf hT zip_no_hint (wpAny_pure ?_))
  show wpAny _ A.in1 (rule "list.extend.makes-room" >>= fun _ => Builtin.List.listTouch (.ref S) >>= fun _ => again (.builtin "list.extend.loop" ⟨[.ref S, .ref z, res], []⟩)) _ _ _; refine wpAny_bind (wpAny_rule (wpAny_bind ?_)); show wpAny _ A.in1 (updateSeq S (·.push .none) >>= fun _ => updateSeq S (·.pop)) _ _ _
  have I1 : Inv X pins σ (upd H S (.lst [.non])) { s with heap := s.heap.update S (Obj.mapSeq (·.push .none)) } := I.lset (its' := [.none]) (t' := s.toks) hSl e1 (by simp) (.cons rfl .nil) (by decide)
  refine wpAny_bind (wpAny_updateSeq e1 rfl ?_ (by decide) (by decide))
  obtain ⟨_, its1, n1, r1, l1, e2⟩ := I1.lstM upd_same
  have ei : its1 = [.none] := by
    cases r1 with
    | cons q t => cases q; cases t; rfl
  subst ei
  have I2 : Inv X pins σ (upd (upd H S (.lst [.non])) S (.lst [])) { s with heap := (s.heap.update S (Obj.mapSeq (·.push .none))).update S (Obj.mapSeq (·.pop)) } := I1.lset (its' := []) (t' := s.toks) upd_same e2 (by simp) .nil (Nat.zero_le _)
  rw [upd_upd] at I2
  refine wpAny_updateSeq e2 rfl ?_ (by decide) (by decide)
  have eH : upd H S (.lst []) = H := by
    funext c
    by_cases hc : c = S
    · rw [hc, upd_same, hSl]
    · rw [upd_ne hc]
  rw [eH] at I2
  have oth : ∀ c, c ≠ S → ∀ o, s.heap.get? c = some o → ((s.heap.update S (Obj.mapSeq (·.push .none))).update S (Obj.mapSeq (·.pop))).get? c = some o :=
    fun c hc o e => (Heap.get?_update_other _ _ (Ne.symm hc)).trans ((Heap.get?_update_other _ _ (Ne.symm hc)).trans e)
  refine wpAny_pure ⟨plainId_quiet F.plain_extend_loop _, gath_loop D hn0 hS hz H0 hS0 hqx hqy (fun s' H' ps J e p l hl => hR s' ⟨H', ps, J, e, p, l, hl⟩) _ 0 _ H [] rfl (Nat.zero_le _) I2 e0 hf (st.gath.keep hS (fun T o e h => ?_) oth) hSl (fun j p h => by simp at h) rfl⟩
  obtain ⟨_, its9, n9, _, _, e9⟩ := I2.lstM hSl
  exact ⟨_, by rw [e]; exact e9⟩
theorem iadd_zip {A : Around} (D : ZipApart z TI TO i1 i2 a b) (hn0 : A.handled = none) {S : Addr} {R : Result → Shared → Prop} (hS : S ∉ [z, TI, TO, i1, i2]) (hz : min xs.length ys.length ≤ 100000) {H0 : Hp} (hS0 : H0 S = none) (hqx : ∀ H', Same H0 H' → SqK X.K k1 H' a xs) (hqy : ∀ H', Same H0 H' → SqK X.K k2 H' b ys)
    (I : Inv X pins σ H s) (e0 : Same H0 H) (hf : ∀ c ∈ [z, TI, TO, i1, i2], FpOk X pins H c) (st : ZipAt k1 k2 z TI TO i1 i2 a b 0 s.heap) (hSl : H S = some (.lst []))
    (hR : ∀ s', Done X pins σ H0 xs ys S s' → R (.ok (.ret (.ref S))) s') : codeAny (model X.prog X.w) A (.builtin "list.__iadd__" ⟨[.ref S, .ref z], []⟩) R s := by
  refine codeAny_builtin F.entry_list_iadd ?_; rw [Around.under_plainId F.plain_list_iadd _]
  exact extend_zip D hn0 hS hz hS0 hqx hqy I e0 hf st hSl hR
theorem fp_new {o : HO} {S : Addr} (hf : ∀ c ∈ [z, TI, TO, i1, i2], FpOk X pins H c) (hS : S ∉ [z, TI, TO, i1, i2]) : ∀ c ∈ [z, TI, TO, i1, i2], FpOk X pins (upd H S o) c := fun c hc => by
  have c1 : c ≠ S := fun e => hS (by rw [← e]; exact hc)
  exact ⟨by rw [upd_ne c1]; exact (hf c hc).1, (hf c hc).2⟩
theorem collect_zip {A : Around} {E : Value → Shared → Prop} {Q : List Value → Shared → Prop} (D : ZipApart z TI TO i1 i2 a b) (hn0 : A.handled = none) (hz : min xs.length ys.length ≤ 100000) (hqx : ∀ H', Same H H' → SqK X.K k1 H' a xs) (hqy : ∀ H', Same H H' → SqK X.K k2 H' b ys)
    (I : Inv X pins σ H s) (hf : ∀ c ∈ [z, TI, TO, i1, i2], FpOk X pins H c) (st : ZipAt k1 k2 z TI TO i1 i2 a b 0 s.heap)
    (hQ : ∀ s' H' ps its, Inv X pins σ H' s' → Same H H' → Prs H' xs ys ps → ps.length = min xs.length ys.length → Vals (ps.map V.ref) its → Q its s') : wpAny (model X.prog X.w) A (collect (.ref z)) Q E s := by
  have hS : s.heap.objs.size ∉ [z, TI, TO, i1, i2] := fun hm => Nat.lt_irrefl _ (st.lt _ hm)
  have hS0 : H s.heap.objs.size = none := I.fresh
  have I1 := I.lnew (t' := s.toks) (its := []) (ys := []) .nil (Nat.zero_le _)
  unfold collect; refine wpAny_bind (wpAny_runValue (codeAny_builtin F.entry_proto_collect ?_)); rw [Around.under_plainId F.plain_proto_collect _]
  show wpAny _ A.in1 (newList [] >>= fun l => again (.builtin "list.__iadd__" ⟨[l, .ref z], []⟩)) _ _ s
  refine wpAny_bind (wpAny_newObj_type (wpAny_pure ⟨plainId_quiet F.plain_list_iadd _, iadd_zip D hn0 hS hz hS0 hqx hqy I1 (fun c o q => by rw [upd_ne (ne_of_none q hS0)]; exact q) (fp_new hf hS) (st.keep fun c hc o e => Heap.get?_push_of_some _ e) upd_same fun s' ⟨H', ps, J, e, p, l, hl⟩ => ?_⟩))
  obtain ⟨_, its, n, r, _, eS⟩ := J.lstM hl; show wpAny _ A (load s.heap.objs.size >>= _) _ _ s'
  refine wpAny_bind (wpAny_load eS (wpAny_pure ?_))
  exact hQ s' H' ps _ J e p l (by simpa using r)
end
end ZN
/-! ZN5: the calls tuple(zip(x, y)), list(zip(x, y)). -/
namespace ZN
open PySem PySem.Spec PyProof.Rows L2 TN
section
variable {X : Cx} {pins : List (Addr × Obj)} {σ : L2.St} {H : Hp} {s : Shared} {k1 k2 : Bool} {z TI TO i1 i2 a b : Addr} {xs ys : List V}
theorem code_tupZip {A : Around} {E Q1 : Value → Shared → Prop} (D : ZipApart z TI TO i1 i2 a b) (hn0 : A.handled = none) (hz : min xs.length ys.length ≤ 100000) (hqx : ∀ H', Same H H' → SqK X.K k1 H' a xs) (hqy : ∀ H', Same H H' → SqK X.K k2 H' b ys)
    (I : Inv X pins σ H s) (hf : ∀ c ∈ [z, TI, TO, i1, i2], FpOk X pins H c) (st : ZipAt k1 k2 z TI TO i1 i2 a b 0 s.heap)
    (h : ∀ s' H' ps its, Inv X pins σ H' s' → Same H H' → Prs H' xs ys ps → ps.length = min xs.length ys.length → Vals (ps.map V.ref) its → Q1 (.ref s'.heap.objs.size) { s' with heap := s'.heap.push (oT its) }) :
    codeAny (model X.prog X.w) A (.call (.builtin "tuple.__new__") ⟨[.type "tuple", .ref z], []⟩) (wants Q1 E) s := by
  refine codeAny_of_tree ?_
  show wpAny _ A.in1 (do checkBuiltinCall "tuple.__new__" ⟨[.type "tuple", .ref z], []⟩; again (.builtin "tuple.__new__" ⟨[.type "tuple", .ref z], []⟩)) _ _ s; refine wpAny_bind (wpAny_of_eq (F.newCall_tuple_1 _) (wpAny_pure ⟨plainId_quiet F.plain_tuple_new _, codeAny_builtin F.entry_tuple_new ?_⟩)); rw [Around.under_plainId F.plain_tuple_new _]
  have hsub := sub_tuple_self; have hinit := init_tuple_lookup
  have hmh := madeHere_tuple
  have hTI := st.gath.typ
  have hn1 : A.in1.handled = none := hn0
  wp_walk using wpAny_typeOf hTI, collect_zip D hn1 hz hqx hqy I hf st
  intro s' H' ps its J e p l r
  show wpAny _ _ (Builtin.Tuple.tupleExact its.toArray >>= fun v => ret v) _ _ _; unfold Builtin.Tuple.tupleExact
  have zl : sizeLine = 16777216 := sizeLine_eq
  have hl := r.length
  rw [List.length_map] at hl
  refine wpAny_bind (wpAny_newObj_type (wpAny_pure ?_) (by show its.toArray.size ≤ sizeLine; rw [List.size_toArray]; omega))
  exact h s' H' ps its J e p l r
theorem call_tupZip {A : Around} {E Q : Value → Shared → Prop} (D : ZipApart z TI TO i1 i2 a b) (hn0 : A.handled = none) (hz : min xs.length ys.length ≤ 100000) (hqx : ∀ H', Same H H' → SqK X.K k1 H' a xs) (hqy : ∀ H', Same H H' → SqK X.K k2 H' b ys)
    (I : Inv X pins σ H s) (hf : ∀ c ∈ [z, TI, TO, i1, i2], FpOk X pins H c) (st : ZipAt k1 k2 z TI TO i1 i2 a b 0 s.heap)
    (h : ∀ s' H' ps its, Inv X pins σ H' s' → Same H H' → Prs H' xs ys ps → ps.length = min xs.length ys.length → Vals (ps.map V.ref) its → Q (.ref s'.heap.objs.size) { s' with heap := s'.heap.push (oT its) }) :
    wpAny (model X.prog X.w) A (call (.type "tuple") [.ref z]) Q E s := by
  refine callType_codes (Q₁ := fun obj s₁ => s₁.TypeIs obj "tuple" ∧ Q obj s₁) F.called_tuple (F.typeCall_tuple_1 _) F.entry_object_init (code_tupZip D (by exact hn0) hz hqx hqy I hf st fun s' H' ps its J e p l r => ⟨⟨_, Heap.get?_push_size _ rfl, rfl⟩, h s' H' ps its J e p l r⟩) fun obj s₁ h₁ => ?_
  exact ⟨h₁.1, F.args_object_init_2 obj _, object_init_meets F.called_tuple.init.lookup F.called_tuple.made (by decide) X.prog X.w A.in1 _ s₁ ⟨h₁.1, rfl, h₁.2⟩⟩
theorem init_zip {A : Around} (D : ZipApart z TI TO i1 i2 a b) (hn0 : A.handled = none) {S : Addr} {R : Result → Shared → Prop} (hS : S ∉ [z, TI, TO, i1, i2]) (hz : min xs.length ys.length ≤ 100000) {H0 : Hp} (hS0 : H0 S = none) (hqx : ∀ H', Same H0 H' → SqK X.K k1 H' a xs) (hqy : ∀ H', Same H0 H' → SqK X.K k2 H' b ys)
    (I : Inv X pins σ H s) (e0 : Same H0 H) (hf : ∀ c ∈ [z, TI, TO, i1, i2], FpOk X pins H c) (st : ZipAt k1 k2 z TI TO i1 i2 a b 0 s.heap) (hSl : H S = some (.lst []))
    (hR : ∀ s', Done X pins σ H0 xs ys S s' → R (.ok (.ret .none)) s') :
    wpAny (model X.prog X.w) A.in1 (Builtin.«list.__init__» ⟨[.ref S, .ref z], []⟩)
      (fun fin s' => match fin with | .done f => R (.ok f) s' | .again c' => c'.quiet = true ∧ codeAny (model X.prog X.w) A c' R s') (fun e s' => R (.error e) s') s := by
  obtain ⟨_, its0, n0, r0, _, e1⟩ := I.lstM hSl
  cases r0
  show wpAny _ A.in1 (do let old ← Builtin.List.listItems (.ref S); Builtin.List.listUpdate (.ref S) (fun _ => #[]); letGo old.toList.reverse; Builtin.List.listExtendWith (.ref S) (.ref z) .none) _ _ s
  refine wpAny_bind ?_
  unfold Builtin.List.listItems
  refine wpAny_bind (wpAny_seqItems e1 rfl (wpAny_pure ?_))
  show wpAny _ A.in1 (updateSeq S (fun _ => #[]) >>= fun _ => letGo (#[] : Array Value).toList.reverse >>= fun _ => Builtin.List.listExtendWith (.ref S) (.ref z) .none) _ _ s
  have I2 : Inv X pins σ (upd H S (.lst [])) { s with heap := s.heap.update S (Obj.mapSeq fun _ => #[]) } := I.lset (its' := []) (t' := s.toks) hSl e1 (by simp) .nil (Nat.zero_le _)
  have eH : upd H S (.lst []) = H := by
    funext c
    by_cases hc : c = S
    · rw [hc, upd_same, hSl]
    · rw [upd_ne hc]
  rw [eH] at I2
  refine wpAny_bind (wpAny_updateSeq e1 rfl (wpAny_bind (wpAny_letGo ?_)) (by decide) (by decide))
  exact extend_zip D hn0 hS hz hS0 hqx hqy I2 e0 hf (st.keep fun c hc o e => (Heap.get?_update_other _ _ (fun q : S = c => hS (by rw [q]; exact hc))).trans e) hSl hR
theorem call_lstZip {A : Around} {E Q : Value → Shared → Prop} (D : ZipApart z TI TO i1 i2 a b) (hn0 : A.handled = none) (hz : min xs.length ys.length ≤ 100000) (hqx : ∀ H', Same H H' → SqK X.K k1 H' a xs) (hqy : ∀ H', Same H H' → SqK X.K k2 H' b ys)
    (I : Inv X pins σ H s) (hf : ∀ c ∈ [z, TI, TO, i1, i2], FpOk X pins H c) (st : ZipAt k1 k2 z TI TO i1 i2 a b 0 s.heap)
    (h : ∀ S s', H S = none → Done X pins σ H xs ys S s' → Q (.ref S) s') : wpAny (model X.prog X.w) A (call (.type "list") [.ref z]) Q E s := by
  have hS : s.heap.objs.size ∉ [z, TI, TO, i1, i2] := fun hm => Nat.lt_irrefl _ (st.lt _ hm)
  have hS0 : H s.heap.objs.size = none := I.fresh
  have I1 := I.lnew (t' := s.toks) (its := []) (ys := []) .nil (Nat.zero_le _)
  refine callType_codes (Q₁ := fun obj s₁ => obj = .ref s.heap.objs.size ∧ s₁ = { s with heap := s.heap.push { cls := .type "list", data := .seq #[] } }) F.called_list (F.typeCall_list_1 _) F.entry_list_init (code_list_new _ ⟨rfl, rfl⟩) fun obj s₁ h₁ => ?_
  obtain ⟨rfl, rfl⟩ := h₁
  have hg : (s.heap.push { cls := .type "list", data := .seq #[] }).get? s.heap.objs.size = some { cls := .type "list", data := .seq #[] } := Heap.get?_push_size _ rfl
  refine ⟨⟨_, hg, rfl⟩, F.args_list_init_2 _ _, init_zip D (by exact hn0) hS hz hS0 hqx hqy I1 (fun c o q => by rw [upd_ne (ne_of_none q hS0)]; exact q) (fp_new hf hS) (st.keep fun c hc o e => Heap.get?_push_of_some _ e) upd_same fun s' hd => ?_⟩
  exact ⟨rfl, h _ s' hS0 hd⟩
end
end ZN
/-! DD1: dicts of whole numbers as cells. -/
namespace DL
open PySem PySem.Spec L2
def dkHas (kvs : List (Int × Int)) (k : Int) : Bool := kvs.any fun p => decide (p.1 = k)
def dkGet : List (Int × Int) → Int → Option Int
  | [], _ => none
  | p :: r, k => if p.1 = k then some p.2 else dkGet r k
def dkPut (kvs : List (Int × Int)) (k v : Int) : List (Int × Int) := if dkHas kvs k then kvs.map fun p => if p.1 = k then (p.1, v) else p else kvs ++ [(k, v)]
theorem kvV_get (k : Int) : ∀ kvs : List (Int × Int), valV (kvV kvs) (.inl k : Key) = (dkGet kvs k).map V.int
  | [] => rfl
  | p :: r => by
    by_cases h : p.1 = k
    · rw [dkGet, if_pos h]
      exact valV_pos (p := ((.inl p.1 : Key), V.int p.2)) (by rw [h])
    · rw [dkGet, if_neg h, ← kvV_get k r]
      exact valV_neg (p := ((.inl p.1 : Key), V.int p.2)) (fun e => h (Sum.inl.inj e))
theorem kvV_has (k : Int) (kvs : List (Int × Int)) : ((kvV kvs).any fun kv => decide (kv.1 = (.inl k : Key))) = dkHas kvs k := by
  unfold kvV dkHas
  rw [List.any_map]
  congr 1
  funext p
  simp
theorem kvV_put (kvs : List (Int × Int)) (k v : Int) : putK (kvV kvs) (.inl k : Key) (.int v) = kvV (dkPut kvs k v) := by
  unfold putK dkPut
  rw [kvV_has]
  cases dkHas kvs k with
  | true =>
    simp only [if_true]
    unfold kvV; rw [List.map_map, List.map_map]
    congr 1
    funext p
    simp only [Function.comp]
    by_cases h : p.1 = k
    · simp [h]
    · simp [h]
  | false => simp [kvV]
theorem dkPut_len (kvs : List (Int × Int)) (k v : Int) : (dkPut kvs k v).length ≤ kvs.length + 1 := by
  unfold dkPut
  split <;> simp
def dkMerge (kvs more : List (Int × Int)) : List (Int × Int) := more.foldl (fun acc p => dkPut acc p.1 p.2) kvs
theorem kvV_merge : ∀ (more kvs : List (Int × Int)), mergeK (kvV kvs) (kvV more) = kvV (dkMerge kvs more)
  | [], kvs => rfl
  | p :: r, kvs => by
    show mergeK (putK (kvV kvs) (.inl p.1 : Key) (.int p.2)) (kvV r) = _
    rw [kvV_put, kvV_merge r]; rfl
/-- the dict that a value is -/
def dkOf (x : VD) : M (List (Int × Int)) := match x with
  | .rf j => fun S => match S.ce[j]? with
    | some (.dk kvs) => .ok (kvs, S)
    | _ => .bad
  | _ => M.bad
def intV (x : VD) : M Int := match x with
  | .dat (.int i) => pure i
  | _ => M.bad
def newK (kvs : List (Int × Int)) : M VD := fun S => .ok (.rf S.ce.length, { S with ce := S.ce ++ [.dk kvs] })
def putDk (x : VD) (k v : Int) : M Unit := match x with
  | .rf j => fun S => match S.ce[j]? with
    | some (.dk kvs) => if kvs.length < 16777216 then .ok ((), { S with ce := S.ce.set j (.dk (dkPut kvs k v)) }) else .bad
    | _ => .bad
  | _ => M.bad
section
variable {K : PySem.W.Frag} {wl : Wd} {mg : Str → Option Value} {E : XK} {F : Hp} {rs : List Addr} {S : DS} {σ : L2.St} {H G : Hp} {α β : Type} {Rel : List Addr → Hp → α → β → Prop}
theorem Post.dkOf {x : VD} {g : List (Int × Int) → M α} {Q : β → Hp → Prop} (h : Post K wl mg E F σ Rel rs G ((DL.dkOf x >>= g) S) Q) : ∃ j kvs, x = .rf j ∧ S.ce[j]? = some (.dk kvs) ∧ Post K wl mg E F σ Rel rs G (g kvs S) Q := by
  rw [M.bind_run] at h
  cases x with
  | rf j =>
    unfold DL.dkOf at h
    dsimp only at h
    cases e : S.ce[j]? with
    | none => rw [e] at h; exact h.elim
    | some c =>
      cases c with
      | dk kvs => rw [e] at h; exact ⟨j, kvs, rfl, e, h⟩
      | si _ => rw [e] at h; exact h.elim
      | ls _ _ => rw [e] at h; exact h.elim
  | _ => exact h.elim
theorem Post.intV {x : VD} {g : Int → M α} {Q : β → Hp → Prop} (h : Post K wl mg E F σ Rel rs G ((DL.intV x >>= g) S) Q) : ∃ i, x = .dat (.int i) ∧ Post K wl mg E F σ Rel rs G (g i S) Q := by
  rw [M.bind_run] at h
  cases x with
  | dat d =>
    cases d with
    | int i => exact ⟨i, rfl, h⟩
    | _ => exact h.elim
  | _ => exact h.elim
/-- the object of a dict's cell -/
theorem Md.dk (m : Md K wl F rs S σ H G) {j : Nat} {a : Addr} {kvs : List (Int × Int)} (ha : rs[j]? = some a) (e : S.ce[j]? = some (.dk kvs)) : H a = some (.dK (kvV kvs)) := (m.cel j a _ ha e).2.2
theorem Md.isD (m : Md K wl F rs S σ H G) {j : Nat} {v : V} {kvs : List (Int × Int)} (r : RdV K wl rs G (.rf j) v) (e : S.ce[j]? = some (.dk kvs)) : ∃ a, v = .ref a ∧ rs[j]? = some a ∧ IsD H a := by
  obtain ⟨a, ha, rfl⟩ := r
  exact ⟨a, rfl, ha, .inl ⟨_, .inl (m.dk ha e)⟩⟩
theorem Md.dget (m : Md K wl F rs S σ H G) {j : Nat} {a : Addr} {kvs : List (Int × Int)} (ha : rs[j]? = some a) (e : S.ce[j]? = some (.dk kvs)) (k : Int) : DGet H a (.int k) ((dkGet kvs k).map V.int) := by
  have z := DGet.k (k := (.inl k : Key)) (m.dk ha e)
  rw [kvV_get] at z
  exact z
theorem up_at {rs rs' : List Addr} {G G' : Hp} (u : Up rs G rs' G') {j : Nat} {a : Addr} (h : rs[j]? = some a) : rs'[j]? = some a := by
  obtain ⟨⟨more, rfl⟩, _⟩ := u
  rw [List.getElem?_append_left (List.getElem?_eq_some_iff.mp h).1]
  exact h
end
section
variable {X : Cx} {E : XK} {a b e o f i value : Expr} {pos pos' p apos cpos : Pos}
/-! ### {} -/
def eD0 : M VD := newK []
theorem d_d0 : PD X E (.Dict [] [] pos) eD0 := PE.weak pe_dnewK fun σ H Q q => by
  obtain ⟨F, rs, S, G, m, p⟩ := q
  intro a ha
  exact p (.ref a) _ G (rs ++ [a]) ⟨⟨[a], rfl⟩, L2.Same.refl G⟩ (m.cellD (kvs := []) ha) ⟨a, by rw [← m.rl]; simp, rfl⟩
/-! ### d.get(k, x) -/
def eDGet2 (td ti tx : M VD) : M VD := do let x ← td; let _ ← dkOf x; let y ← ti; let z ← tx; let k ← intV y; let kvs ← dkOf x; pure (match dkGet kvs k with | some v => .dat (.int v) | none => z)
theorem d_dget2 {td ti tx : M VD} (hu : X.A.units + 200 < cLine) (ho : PD X E o td) (he : PD X E e ti) (hf : PD X E f tx) (m : M2 X o "get" apos e f cpos) : PD X E (.Call (.Attribute o "get" apos) [e, f] [] cpos) (eDGet2 td ti tx) :=
  PE.weak (pe_dget2 (by omega) ho he hf m) fun σ H Q q => by
  obtain ⟨F, rs, S, G, m, p⟩ := q
  refine ⟨F, rs, S, G, m, (Post.seq p).mono fun v H1 ⟨rs1, S1, G1, x, u1, m1, r1, p1⟩ => ?_⟩
  obtain ⟨j, kv0, rfl, e0, p2⟩ := Post.dkOf p1
  obtain ⟨a, rfl, ha, isd⟩ := m1.isD r1 e0
  refine ⟨a, rfl, isd, F, rs1, S1, G1, m1, (Post.seq p2).mono fun v2 H2 ⟨rs2, S2, G2, y, u2, m2, r2, p3⟩ => ?_⟩
  refine ⟨F, rs2, S2, G2, m2, (Post.seq p3).mono fun v3 H3 ⟨rs3, S3, G3, z, u3, m3, r3, p4⟩ => ?_⟩
  obtain ⟨k, rfl, p5⟩ := Post.intV p4
  obtain ⟨j', kvs, ej, e1, p6⟩ := Post.dkOf p5
  cases ej
  cases (show Dd X.K G2 v2 (.int k) from r2)
  refine ⟨_, m3.dget (up_at u3 (up_at u2 ha)) e1 k, ?_⟩
  cases hk : dkGet kvs k with
  | some v =>
    rw [hk] at p6
    exact Post.ret m3 p6 (.int v)
  | none =>
    rw [hk] at p6
    exact Post.ret m3 p6 r3
/-! ### d[k] -/
def eDIdx (td ti : M VD) : M VD := do let x ← td; let y ← ti; let k ← intV y; let kvs ← dkOf x; let v ← ofO (dkGet kvs k); pure (.dat (.int v))
theorem d_didx {td ti : M VD} (hu : X.A.units + 200 < cLine) (ho : PD X E o td) (hi : PD X E i ti) (hs : L2.NoSl i := by intro _ _; rfl) : PD X E (.Subscript o i pos) (eDIdx td ti) := PE.weak (pe_dget (by omega) ho hi hs) fun σ H Q q => by
  obtain ⟨F, rs, S, G, m, p⟩ := q
  refine ⟨F, rs, S, G, m, (Post.seq p).mono fun v H1 ⟨rs1, S1, G1, x, u1, m1, r1, p1⟩ => ?_⟩
  refine ⟨F, rs1, S1, G1, m1, (Post.seq p1).mono fun v2 H2 ⟨rs2, S2, G2, y, u2, m2, r2, p2⟩ => ?_⟩
  obtain ⟨k, rfl, p3⟩ := Post.intV p2
  obtain ⟨j, kvs, rfl, e1, p4⟩ := Post.dkOf p3
  obtain ⟨v', hv, p5⟩ := Post.ofO p4
  obtain ⟨a, ha, rfl⟩ := r1
  cases (show Dd X.K G2 v2 (.int k) from r2)
  have g := m2.dget (up_at u2 ha) e1 k
  rw [hv] at g
  exact ⟨a, _, rfl, g, Post.ret m2 p5 (.int v')⟩
/-! ### k in d -/
def eDIn (f : Bool → Bool) (ti td : M VD) : M VD := do let y ← ti; let x ← td; let k ← intV y; let kvs ← dkOf x; pure (.dat (.bool (f (dkGet kvs k).isSome)))
theorem din_lift {ti td : M VD} {fb : Bool → Bool} {σ : L2.St} {H : Hp} {Q : VK} {R : VK} (q : liftE X.K X.wd X.mg E (eDIn fb ti td) σ H Q) (k : ∀ b H', Q (.bl (fb b)) H' → R (.bl (fb b)) H') :
    liftE X.K X.wd X.mg E ti σ H fun y H1 => liftE X.K X.wd X.mg E td σ H1 fun x H2 => ∃ a o, x = .ref a ∧ DGet H2 a y o ∧ R (.bl (fb o.isSome)) H2 := by
  obtain ⟨F, rs, S, G, m, p⟩ := q
  refine ⟨F, rs, S, G, m, (Post.seq p).mono fun v H1 ⟨rs1, S1, G1, x, u1, m1, r1, p1⟩ => ?_⟩
  refine ⟨F, rs1, S1, G1, m1, (Post.seq p1).mono fun v2 H2 ⟨rs2, S2, G2, y, u2, m2, r2, p2⟩ => ?_⟩
  obtain ⟨k', rfl, p3⟩ := Post.intV p2
  obtain ⟨j, kvs, rfl, e1, p4⟩ := Post.dkOf p3
  obtain ⟨a, ha, rfl⟩ := r2
  cases (show Dd X.K G1 v (.int k') from r1)
  refine ⟨a, _, rfl, m2.dget ha e1 k', k _ _ ?_⟩
  have e2 : ((dkGet kvs k').map V.int).isSome = (dkGet kvs k').isSome := by cases dkGet kvs k' <;> rfl
  rw [e2]
  exact Post.ret m2 p4 (.bl _)
theorem d_din {ti td : M VD} (hu : X.A.units + 200 < cLine) (hi : PD X E i ti) (ho : PD X E o td) (hm : behindInMarks .In o = false) : PD X E (.Compare i [.In] [o] pos) (eDIn id ti td) :=
  PE.weak (pe_cmp (pc_din (by omega) hi ho) hm) fun σ H Q q => din_lift q fun _ _ h => h
theorem d_dnin {ti td : M VD} (hu : X.A.units + 200 < cLine) (hi : PD X E i ti) (ho : PD X E o td) (hm : behindInMarks .NotIn o = false) : PD X E (.Compare i [.NotIn] [o] pos) (eDIn not ti td) :=
  PE.weak (pe_cmp (pc_dnotin (by omega) hi ho) hm) fun σ H Q q => din_lift q fun _ _ h => h
theorem dt_din {ti td : M VD} (hu : X.A.units + 200 < cLine) (hi : PD X E i ti) (ho : PD X E o td) (hm : behindInMarks .In o = false) : PDT X E (.Compare i [.In] [o] pos) (tOf (eDIn id ti td)) :=
  PT.weak (pt_cmp (pc_din (by omega) hi ho) hm) fun σ H Q q => din_lift (R := fun x H2 => ∃ d, x = V.bl d ∧ Q d H2) (tOf_lift q) fun _ _ h => h
theorem dt_dnin {ti td : M VD} (hu : X.A.units + 200 < cLine) (hi : PD X E i ti) (ho : PD X E o td) (hm : behindInMarks .NotIn o = false) : PDT X E (.Compare i [.NotIn] [o] pos) (tOf (eDIn not ti td)) :=
  PT.weak (pt_cmp (pc_dnotin (by omega) hi ho) hm) fun σ H Q q => din_lift (R := fun x H2 => ∃ d, x = V.bl d ∧ Q d H2) (tOf_lift q) fun _ _ h => h
/-! ### d[k] = v -/
def sDSet (td ti tv : M VD) : MS := do let v ← tv; let x ← td; let y ← ti; let n ← intV v; let k ← intV y; putDk x k n; pure .nx
theorem PostS.intV {K : PySem.W.Frag} {wl : Wd} {mg : Str → Option Value} {F : Hp} {rs : List Addr} {S : DS} {G : Hp} {D : Ends} {x : VD} {g : Int → MS} (h : PostS K wl mg E F rs G ((DL.intV x >>= g) S) D) : ∃ i, x = .dat (.int i) ∧ PostS K wl mg E F rs G (g i S) D := by
  rw [M.bind_run] at h
  cases x with
  | dat d =>
    cases d with
    | int i => exact ⟨i, rfl, h⟩
    | _ => exact h.elim
  | _ => exact h.elim
theorem PostS.putDk {K : PySem.W.Frag} {wl : Wd} {mg : Str → Option Value} {F : Hp} {rs : List Addr} {S : DS} {G : Hp} {D : Ends} {x : VD} {k v : Int} {g : Unit → MS} (h : PostS K wl mg E F rs G ((DL.putDk x k v >>= g) S) D) :
    ∃ j kvs, x = .rf j ∧ S.ce[j]? = some (.dk kvs) ∧ kvs.length < 16777216 ∧ PostS K wl mg E F rs G (g () { S with ce := S.ce.set j (.dk (dkPut kvs k v)) }) D := by
  rw [M.bind_run] at h
  cases x with
  | rf j =>
    unfold DL.putDk at h
    dsimp only at h
    cases e : S.ce[j]? with
    | none => rw [e] at h; exact h.elim
    | some c =>
      cases c with
      | dk kvs =>
        rw [e] at h
        dsimp only at h
        split at h
        · rename_i hz; exact ⟨j, kvs, rfl, e, hz, h⟩
        · exact h.elim
      | si _ => rw [e] at h; exact h.elim
      | ls _ _ => rw [e] at h; exact h.elim
  | _ => exact h.elim
theorem s_dset {td ti tv : M VD} (hu : X.A.units + 200 < cLine) (ho : PD X E o td) (hi : PD X E i ti) (hv : PD X E value tv) (hs : swapsWith value (some (.Subscript o i pos')) pos.line X.env = pure false := by rfl) :
    PDS X E (.Assign [.Subscript o i pos'] value pos) (sDSet td ti tv) := PS.weak (ps_dput (by omega) ho hi hv hs) fun D σ H q => by
  obtain ⟨F, rs, S, G, m, p⟩ := q
  refine ⟨F, rs, S, G, m, (PostS.expr p).mono fun v1 H1 ⟨rs1, S1, G1, x1, u1, m1, r1, p1⟩ => ?_⟩
  refine ⟨F, rs1, S1, G1, m1, (PostS.expr p1).mono fun v2 H2 ⟨rs2, S2, G2, x2, u2, m2, r2, p2⟩ => ?_⟩
  refine ⟨F, rs2, S2, G2, m2, (PostS.expr p2).mono fun v3 H3 ⟨rs3, S3, G3, x3, u3, m3, r3, p3⟩ => ?_⟩
  obtain ⟨n, rfl, p4⟩ := PostS.intV p3
  obtain ⟨k, rfl, p5⟩ := PostS.intV p4
  obtain ⟨j, kvs, rfl, e, hz, p6⟩ := PostS.putDk p5
  obtain ⟨a, ha, rfl⟩ := r2
  cases (show Dd X.K G1 v1 (.int n) from r1)
  cases (show Dd X.K G3 v3 (.int k) from r3)
  have ha3 := up_at u3 ha
  have w := DPut.k (k := (.inl k : Key)) (v := V.int n) (m3.dk ha3 e) (by unfold kvV; rw [List.length_map, sizeLine_eq]; exact hz)
  rw [kvV_put] at w
  exact ⟨a, _, rfl, w, p6 _ _ G3 rs3 Up.refl (m3.writeD ha3 e)⟩
/-! ### dict(list of pairs) -/
def pairI : PyData → Option (Int × Int)
  | .tuple [.int k, .int v] => some (k, v)
  | _ => none
def pairsI : List PyData → Option (List (Int × Int))
  | [] => some []
  | d :: ds => match pairI d, pairsI ds with
    | some p, some r => some (p :: r)
    | _, _ => none
def eDictOf (ta : M VD) : M VD := do
  let x ← ta
  let d ← peek x
  match d with
  | .list ds => do let kvs ← ofO (pairsI ds); newK (dkMerge [] kvs)
  | _ => M.bad
theorem pairI_eq {d : PyData} {p : Int × Int} (h : pairI d = some p) : d = .tuple [.int p.1, .int p.2] := by
  unfold pairI at h
  split at h
  · cases h; rfl
  · cases h
theorem pairs_at {K : PySem.W.Frag} {H : Hp} : ∀ {vs : List V} {ds : List PyData} {kvs : List (Int × Int)}, DdAll K H vs ds → pairsI ds = some kvs → ∃ ps : List Addr, vs = ps.map V.ref ∧ Paired (fun p (kv : Key × V) => SqT K H p [kV kv.1, kv.2]) ps (kvV kvs)
  | _, _, kvs, .nil, e => by cases e; exact ⟨[], rfl, .nil⟩
  | _, _, kvs, .cons (v := v) (d := d) (ds := ds) h t, e => by
    rw [pairsI] at e
    cases h1 : pairI d with
    | none => rw [h1] at e; cases e
    | some p =>
      cases h2 : pairsI ds with
      | none => rw [h1, h2] at e; cases e
      | some r =>
        rw [h1, h2] at e
        cases e
        obtain ⟨ps, rfl, hp⟩ := pairs_at t h2
        cases pairI_eq h1
        cases h with
        | @tup a xs _ hs ha =>
          cases ha with
          | cons q1 q2 =>
            cases q1
            cases q2 with
            | cons q3 q4 =>
              cases q3
              cases q4
              exact ⟨a :: ps, rfl, .cons hs.sqt hp⟩
theorem d_dictOf {ta : M VD} (hc : X.calm = true) (ha : PD X E a ta) (hm : X.mg "dict" = none) (hg : Gl X "dict" := by rfl) (na : starEach [a] X.env = (false, eval a X.env) :: starEach [] X.env := by rfl) : PD X E (.Call (.Name "dict" p) [a] [] pos) (eDictOf ta) :=
  PE.weak (pe_callTy (call_dictP hc) hg hm (by decide +kernel) (pa_cons ha pa_nil na) (he := na)) fun σ H Q q => by
  obtain ⟨F, rs, S, G, m, p⟩ := q
  refine ⟨F, rs, S, G, m, (Post.seq p).mono fun v H1 ⟨rs1, S1, G1, x, u1, m1, r1, p1⟩ => ?_⟩
  obtain ⟨d, hd, p2⟩ := Post.peek p1
  cases d with
  | list ds =>
    obtain ⟨kvs, hk, p3⟩ := Post.ofO p2
    obtain ⟨a, vs, rfl, hl, hda⟩ := m1.peekL r1 hd
    obtain ⟨ps, rfl, hp⟩ := pairs_at (DdAll.same m1.sub _ _ hda) hk
    refine ⟨a, ps, _, rfl, .inl hl, hp, fun q hq => ?_⟩
    have em := kvV_merge kvs []
    rw [show kvV ([] : List (Int × Int)) = [] from rfl] at em
    rw [em]
    exact p3 (.ref q) _ G1 (rs1 ++ [q]) ⟨⟨[q], rfl⟩, L2.Same.refl G1⟩ (m1.cellD hq) ⟨q, by rw [← m1.rl]; simp, rfl⟩
  | _ => exact p2.elim
/-! ### continue -/
def sCt : MS := pure .ct
end
end DL
/-! DD2: displays with stars; t.index(n); continue. -/
namespace DL
open PySem PySem.Spec L2
theorem rdvs_of {K : PySem.W.Frag} {wl : Wd} {rs : List Addr} {G : Hp} : ∀ {ds : List PyData} {vs : List V}, DdAll K G vs ds → RdVs K wl rs G (ds.map .dat) vs
  | [], _, .nil => trivial
  | _ :: _, _, .cons h t => ⟨h, rdvs_of t⟩
theorem rdvs_append {K : PySem.W.Frag} {wl : Wd} {rs : List Addr} {G : Hp} : ∀ {xs ys : List VD} {vs ws : List V}, RdVs K wl rs G xs vs → RdVs K wl rs G ys ws → RdVs K wl rs G (xs ++ ys) (vs ++ ws)
  | [], _, [], _, _, h => h
  | _ :: _, _, _ :: _, _, h, k => ⟨h.1, rdvs_append h.2 k⟩
  | [], _, _ :: _, _, h, _ => h.elim
  | _ :: _, _, [], _, h, _ => h.elim
section
variable {X : Cx} {E : XK} {e o : Expr} {es : List Expr} {p pos apos : Pos}
/-! ### *x in a display -/
def aStar (a : M VD) (t : M (List VD)) : M (List VD) := do let x ← a; let c ← peek x; let ds ← ofO (asSeq c); let xs ← t; pure (ds.map .dat ++ xs)
theorem d_star {a : M VD} {t : M (List VD)} (ha : PD X E e a) (ht : PDA X E es t) (hs : starEach (.Starred e p :: es) X.env = (true, eval e X.env) :: starEach es X.env := by rfl) : PDA X E (.Starred e p :: es) (aStar a t) :=
  PA.weak (StX.pa_star ha ht hs) fun σ H Q q => by
  obtain ⟨F, rs, S, G, m, p⟩ := q
  refine ⟨F, rs, S, G, m, (Post.seq p).mono fun v H1 ⟨rs1, S1, G1, x, u1, m1, r1, p1⟩ => ?_⟩
  obtain ⟨d, hd, p2⟩ := Post.peek p1
  obtain ⟨ds, hs, p3⟩ := Post.ofO p2
  obtain ⟨a, vs, rfl, hda, hk⟩ := m1.seq r1 hd hs
  refine ⟨a, vs, rfl, hk.elim (fun y => .inr (.inl y.2)) (fun y => .inl y.2.1.sqt), F, rs1, S1, G1, m1, (Post.seq p3).mono fun ys H2 ⟨rs2, S2, G2, xs, u2, m2, r2, p4⟩ => ?_⟩
  exact Post.ret m2 p4 (rdvs_append (rdvs_of (DdAll.same u2.2 _ _ hda)) r2)
theorem star_star {env : Env} : starEach (.Starred e p :: es) env = (true, eval e env) :: starEach es env := rfl
/-! ### t.index(n) -/
def tupOf (x : VD) : M (List PyData) := match x with
  | .dat (.tuple ds) => pure ds
  | _ => M.bad
theorem Post.tupOf {K : PySem.W.Frag} {wl : Wd} {mg : Str → Option Value} {F : Hp} {rs : List Addr} {S : DS} {σ : L2.St} {G : Hp} {α β : Type} {Rel : List Addr → Hp → α → β → Prop} {x : VD} {g : List PyData → M α} {Q : β → Hp → Prop} (h : Post K wl mg E F σ Rel rs G ((DL.tupOf x >>= g) S) Q) : ∃ ds, x = .dat (.tuple ds) ∧ Post K wl mg E F σ Rel rs G (g ds S) Q := by
  rw [M.bind_run] at h
  cases x with
  | dat d =>
    cases d with
    | tuple ds => exact ⟨ds, rfl, h⟩
    | _ => exact h.elim
  | _ => exact h.elim
def eIndex (ta tb : M VD) : M VD := do let x ← ta; let ds ← tupOf x; let y ← tb; let k ← intV y; let ns ← ofO (intsOf ds); chk (decide (k ∈ ns)); pure (.dat (.int (ns.idxOf k : Nat)))
theorem d_index {ta tb : M VD} (ho : PD X E o ta) (he : PD X E e tb) (hs : starEach [e] X.env = (false, eval e X.env) :: starEach [] X.env := by rfl)
    (hbase : attributeBase o "index" X.env (eval o X.env) = eval o X.env := by rfl)
    (hfew : ((backTo pos (starEach [e] X.env)).all (fun x => !x.1) && (backToKw pos (keywordEach [] X.env)).all (fun x => x.1.isSome) && decide ([e].length + ([] : List Keyword).length + (if ([] : List Keyword).isEmpty then 0 else 1) < 30)) = true := by rfl)
    (hline : (apos.endLine == pos.line) = true := by rfl) (hplain : (backTo pos (starEach [] X.env)).any (·.1) = false := by rfl) : PD X E (.Call (.Attribute o "index" apos) [e] [] pos) (eIndex ta tb) :=
  PE.weak (TN.pe_index ho (pa_cons he pa_nil hs) hbase hfew hline hs hplain) fun σ H Q q => by
  obtain ⟨F, rs, S, G, m, p⟩ := q
  refine ⟨F, rs, S, G, m, (Post.seq p).mono fun v H1 ⟨rs1, S1, G1, x, u1, m1, r1, p1⟩ => ?_⟩
  obtain ⟨ds, rfl, p2⟩ := Post.tupOf p1
  cases (show Dd X.K G1 v (.tuple ds) from r1) with
  | @tup a xs _ ht hda =>
    refine ⟨⟨a, xs, rfl, TN.SqN.same m1.sub ht⟩, F, rs1, S1, G1, m1, (Post.seq p2).mono fun w H2 ⟨rs2, S2, G2, y, u2, m2, r2, p3⟩ => ?_⟩
    obtain ⟨k, rfl, p4⟩ := Post.intV p3
    obtain ⟨ns, hn, p5⟩ := Post.ofO p4
    obtain ⟨hk, p6⟩ := Post.chk p5
    cases (show Dd X.K G2 w (.int k) from r2)
    obtain ⟨rfl, _⟩ := intsOf_vs hn hda
    exact ⟨a, ns, k, rfl, rfl, TN.SqN.same m2.sub (TN.SqN.same u2.2 ht), of_decide_eq_true hk, Post.ret m2 p6 (.int _)⟩
/-! ### continue -/
theorem s_ct : PDS X E (.Continue pos) sCt := PS.weak ps_continue fun D σ H q => by
  obtain ⟨F, rs, S, G, m, p⟩ := q
  exact p σ H G rs Up.refl m
end
end DL
/-! DD3: tuple(zip(x, y)), list(zip(x, y)) over data. -/
namespace ZN
open PySem PySem.Spec PyProof.Rows L2 TN
def tTupZip (K : PySem.W.Frag) (ta : TA) : TE := fun σ H Q => ta σ H fun vs H1 => ∃ k1 k2 a b xs ys, vs = [.ref a, .ref b] ∧ (∀ H', Same H1 H' → SqK K k1 H' a xs) ∧ (∀ H', Same H1 H' → SqK K k2 H' b ys) ∧ min xs.length ys.length ≤ 100000 ∧
  ∀ H' ps its p, Same H1 H' → Prs H' xs ys ps → ps.length = min xs.length ys.length → H' p = none → Q (.ref p) (upd H' p (hT its (ps.map V.ref)))
def tLstZip (K : PySem.W.Frag) (ta : TA) : TE := fun σ H Q => ta σ H fun vs H1 => ∃ k1 k2 a b xs ys, vs = [.ref a, .ref b] ∧ (∀ H', Same H1 H' → SqK K k1 H' a xs) ∧ (∀ H', Same H1 H' → SqK K k2 H' b ys) ∧ min xs.length ys.length ≤ 100000 ∧
  ∀ H' ps S, Same H1 H' → Prs H' xs ys ps → ps.length = min xs.length ys.length → H1 S = none → H' S = some (.lst (ps.map V.ref)) → Q (.ref S) H'
section
variable {X : Cx} {e e2 : Expr} {ta : TA} {p p2 pos pos2 : Pos}
theorem two_refs {a b : Addr} {us : List Value} (r : Vals [V.ref a, V.ref b] us) : us = [.ref a, .ref b] := by
  cases r with
  | cons r rr =>
    cases rr with
    | cons r' rr => cases rr; cases r; cases r'; rfl
theorem pe_tupZip (hc : X.calm = true) (hg : Gl X "tuple") (hm : X.mg "tuple" = none) (hg2 : Gl X "zip") (hm2 : X.mg "zip" = none) (ha : PA X [e, e2] ta)
    (hs : starEach [e, e2] X.env = (false, eval e X.env) :: starEach [e2] X.env := by rfl) (hpl : (backTo pos2 (starEach [e2] X.env)).any (·.1) = false := by rfl)
    (hs2 : starEach [.Call (.Name "zip" p2) [e, e2] [] pos2] X.env = (false, eval (.Call (.Name "zip" p2) [e, e2] [] pos2) X.env) :: starEach [] X.env := by rfl) :
    PE X (.Call (.Name "tuple" p) [.Call (.Name "zip" p2) [e, e2] [] pos2] [] pos) (tTupZip X.K ta) := by
  refine ⟨fun pins s σ H Q I h => ?_⟩; refine Call_ (ld_blt I hg hm boot_tuple (PyProof.Rows.callWith_type1 (args_cons (Call_ (ld_blt I hg2 hm2 PyProof.Rows.boot_zip (PyProof.Rows.callWith_type1 (thn (ha.run pos2 pins s σ H _ I h) fun us s1 ⟨vs, H1, I1, r1, k1, k2, a, b, xs, ys, ev, q1, q2, hz, q⟩ => ?_) hs hpl))) hs2) hs2 rfl))
  subst ev
  cases two_refs r1
  refine zip_call I1 (q1 _ (L2.Same.refl _)) (q2 _ (L2.Same.refl _)) fun z TI TO i1 i2 h' D st I2 f => args_nil ?_
  exact call_tupZip D (I1.ok.hd hc) hz q1 q2 I2 f st fun s' H' ps its J e pr l r => ⟨.ref s'.heap.objs.size, _, newN J r (by rw [List.length_map, l, sizeLine_eq]; omega), rfl, q H' ps its _ e pr l J.fresh⟩
theorem pe_lstZip (hc : X.calm = true) (hg : Gl X "list") (hm : X.mg "list" = none) (hg2 : Gl X "zip") (hm2 : X.mg "zip" = none) (ha : PA X [e, e2] ta)
    (hs : starEach [e, e2] X.env = (false, eval e X.env) :: starEach [e2] X.env := by rfl) (hpl : (backTo pos2 (starEach [e2] X.env)).any (·.1) = false := by rfl)
    (hs2 : starEach [.Call (.Name "zip" p2) [e, e2] [] pos2] X.env = (false, eval (.Call (.Name "zip" p2) [e, e2] [] pos2) X.env) :: starEach [] X.env := by rfl) :
    PE X (.Call (.Name "list" p) [.Call (.Name "zip" p2) [e, e2] [] pos2] [] pos) (tLstZip X.K ta) := by
  refine ⟨fun pins s σ H Q I h => ?_⟩; refine Call_ (ld_blt I hg hm boot_list (PyProof.Rows.callWith_type1 (args_cons (Call_ (ld_blt I hg2 hm2 PyProof.Rows.boot_zip (PyProof.Rows.callWith_type1 (thn (ha.run pos2 pins s σ H _ I h) fun us s1 ⟨vs, H1, I1, r1, k1, k2, a, b, xs, ys, ev, q1, q2, hz, q⟩ => ?_) hs hpl))) hs2) hs2 rfl))
  subst ev
  cases two_refs r1
  refine zip_call I1 (q1 _ (L2.Same.refl _)) (q2 _ (L2.Same.refl _)) fun z TI TO i1 i2 h' D st I2 f => args_nil ?_
  exact call_lstZip D (I1.ok.hd hc) hz q1 q2 I2 f st fun S s' hS ⟨H', ps, J, e, pr, l, hl⟩ => ⟨.ref S, H', J, rfl, q H' ps S e pr l hS hl⟩
end
end ZN
namespace DL
open PySem PySem.Spec L2
section
variable {K : PySem.W.Frag} {wl : Wd} {F : Hp} {rs : List Addr} {S : DS} {σ : L2.St} {H H' G : Hp}
open Classical in
/-- the heap grows: the new plain tuples are known -/
theorem Md.grow (m : Md K wl F rs S σ H G) (e : Same H H') : ∃ G', Same G G' ∧ Md K wl F rs S σ H' G' ∧ ∀ p its xs, H' p = some (TN.hT its xs) → G' p = some (TN.hT its xs) := by
  let G' : Hp := fun a => match G a with
    | some u => some u
    | none => match H' a with
      | some (.frz o u) => some (.frz o u)
      | _ => none
  have eG : ∀ a u, G a = some u → G' a = some u := fun a u h => by show (match G a with | some u => some u | none => _) = _; rw [h]
  have nG : ∀ a, G a = none → (∀ o u, H' a ≠ some (.frz o u)) → G' a = none := fun a h1 h2 => by
    show (match G a with | some u => some u | none => match H' a with | some (.frz o u) => some (.frz o u) | _ => none) = none
    rw [h1]
    dsimp only
    split
    · rename_i o u q; exact absurd q (h2 o u)
    · rfl
  have sG : Same G G' := fun a u h => eG a u h
  refine ⟨G', sG, ⟨m.len, fun a u h => ?_, fun a u h => e a u (m.frm a u h), m.rl, m.nd, fun j a c h1 h2 => ?_, fun i x h1 => ?_⟩, fun p its xs h => ?_⟩
  · cases hg : G a with
    | some u' =>
      have := eG a u' hg
      rw [this] at h
      cases h
      exact e a _ (m.sub a _ hg)
    | none =>
      have h' : (match G a with | some u => some u | none => match H' a with | some (.frz o u) => some (.frz o u) | _ => none) = some u := h
      rw [hg] at h'
      dsimp only at h'
      split at h'
      · rename_i o u' q; rw [q]; exact h'
      · cases h'
  · have k := m.cel j a c h1 h2
    cases c with
    | ls b ds =>
      cases b with
      | true =>
        obtain ⟨f, g, vs, hv, hd⟩ := k
        exact ⟨f, nG a g (fun o u q => by rw [e a _ hv] at q; cases q), vs, e a _ hv, DdAll.same sG _ _ hd⟩
      | false =>
        obtain ⟨vs, hv, hd⟩ := k
        exact ⟨vs, sG _ _ hv, DdAll.same sG _ _ hd⟩
    | dk kvs =>
      obtain ⟨f, g, hv⟩ := k
      exact ⟨f, nG a g (fun o u q => by rw [e a _ hv] at q; cases q), e a _ hv⟩
    | si ns =>
      obtain ⟨f, g, hv, hn⟩ := k
      exact ⟨f, nG a g (fun o u q => by rw [e a _ hv] at q; cases q), e a _ hv, hn⟩
  · obtain ⟨v, h2, h3⟩ := m.slot i x h1
    exact ⟨v, h2, RdV.up ⟨⟨[], by simp⟩, sG⟩ h3⟩
  · cases hg : G p with
    | some u =>
      have q := e p _ (m.sub p _ hg)
      rw [h] at q
      cases q
      exact eG p _ hg
    | none =>
      show (match G p with | some u => some u | none => match H' p with | some (.frz o u) => some (.frz o u) | _ => none) = _
      rw [hg]
      dsimp only
      rw [h]
theorem prs_dd {G : Hp} (hg : ∀ p its xs, H' p = some (TN.hT its xs) → G p = some (TN.hT its xs)) : ∀ {ps : List Addr} {ds es : List PyData} {xs ys : List V}, DdAll K G xs ds → DdAll K G ys es → ZN.Prs H' xs ys ps → ps.length = min xs.length ys.length → DdAll K G (ps.map V.ref) (zipD ds es)
  | ps, [], _, _, _, .nil, _, _, l => by
    have : ps = [] := List.eq_nil_of_length_eq_zero (by simpa using l)
    subst this; exact .nil
  | ps, _ :: _, [], _, _, .cons _ _, .nil, _, l => by
    have : ps = [] := List.eq_nil_of_length_eq_zero (by simpa using l)
    subst this; exact .nil
  | [], _ :: _, _ :: _, _, _, .cons _ _, .cons _ _, _, l => by simp at l
  | p :: ps, _ :: _, _ :: _, _, _, .cons r1 t1, .cons r2 t2, h, l => by
    obtain ⟨x, y, e1, e2, its, e3⟩ := h 0 p rfl
    simp at e1 e2
    subst e1 e2
    refine .cons (.tup ⟨its, hg _ _ _ e3⟩ (.cons r1 (.cons r2 .nil))) (prs_dd hg t1 t2 (fun j q hq => ?_) (by simpa [Nat.add_min_add_right] using l))
    obtain ⟨x, y, q1, q2, q3⟩ := h (j + 1) q (by simpa using hq)
    exact ⟨x, y, by simpa using q1, by simpa using q2, q3⟩
end
def eZipV (lst : Bool) (ta tb : M VD) : M VD := do
  let xs ← aCons ta (aCons tb (pure []))
  let ds ← toDs xs
  match ds with
  | [d, e] => do
    let L ← ofO (pairSeq d e)
    chk (decide (L.length ≤ 100000))
    if lst then newL L else pure (.dat (.tuple L))
  | _ => M.bad
section
variable {X : Cx} {E : XK} {a b : Expr} {p p2 pos pos2 : Pos}
theorem zipV_at {lst : Bool} {ta tb : M VD} {σ : L2.St} {H : Hp} {Q : VK} (q : liftE X.K X.wd X.mg E (eZipV lst ta tb) σ H Q) :
    liftA X.K X.wd X.mg E (aCons ta (aCons tb (pure []))) σ H fun vs H1 => ∃ k1 k2 a b xs ys, vs = [.ref a, .ref b] ∧ (∀ H', Same H1 H' → ZN.SqK X.K k1 H' a xs) ∧ (∀ H', Same H1 H' → ZN.SqK X.K k2 H' b ys) ∧ min xs.length ys.length ≤ 100000 ∧
      ∃ (F : Hp) (rs : List Addr) (S : DS) (G : Hp) (ds es : List PyData), Md X.K X.wd F rs S σ H1 G ∧ DdAll X.K G xs ds ∧ DdAll X.K G ys es ∧ Post X.K X.wd X.mg E F σ (RdV X.K X.wd) rs G ((if lst then newL (zipD ds es) else pure (.dat (.tuple (zipD ds es)))) S) Q := by
  obtain ⟨F, rs, S, G, m, p⟩ := q
  refine ⟨F, rs, S, G, m, (Post.seq p).mono fun vs H1 ⟨rs1, S1, G1, xs, u1, m1, r1, p1⟩ => ?_⟩
  obtain ⟨ds, S2, G2, s2, m2, d2, p2⟩ := m1.toDs r1 p1
  match ds, d2, p2 with
  | [d, e], d2, p2 =>
    cases d2 with
    | cons rd rest =>
      cases rest with
      | cons re rest =>
        cases rest
        obtain ⟨L, hL, p3⟩ := Post.ofO p2
        obtain ⟨hz, p4⟩ := Post.chk p3
        unfold pairSeq at hL
        split at hL
        · rename_i xs' ys' e1 e2
          cases hL
          obtain ⟨k1, a1, vs1, rfl, h1, q1⟩ := seq_at rd e1
          obtain ⟨k2, b1, ws1, rfl, h2, q2⟩ := seq_at re e2
          have l1 := DdAll.length q1
          have l2 := DdAll.length q2
          have hz' := of_decide_eq_true hz
          rw [zipD_len] at hz'
          exact ⟨k1, k2, a1, b1, vs1, ws1, rfl, fun H' s => h1 _ (L2.Same.trans m2.sub s), fun H' s => h2 _ (L2.Same.trans m2.sub s), by omega, F, rs1, S2, G2, xs', ys', m2, q1, q2, p4⟩
        · cases hL
  | [], _, p2 => exact p2.elim
  | [_], _, p2 => exact p2.elim
  | _ :: _ :: _ :: _, _, p2 => exact p2.elim
theorem d_tupZip {ta tb : M VD} (hc : X.calm = true) (ha : PD X E a ta) (hb : PD X E b tb) (hm : X.mg "tuple" = none) (hm2 : X.mg "zip" = none) (hg : Gl X "tuple" := by rfl) (hg2 : Gl X "zip" := by rfl)
    (hs : starEach [a, b] X.env = (false, eval a X.env) :: starEach [b] X.env := by rfl) (hs1 : starEach [b] X.env = (false, eval b X.env) :: starEach [] X.env := by rfl) (hpl : (backTo pos2 (starEach [b] X.env)).any (·.1) = false := by rfl)
    (hs2 : starEach [.Call (.Name "zip" p2) [a, b] [] pos2] X.env = (false, eval (.Call (.Name "zip" p2) [a, b] [] pos2) X.env) :: starEach [] X.env := by rfl) :
    PD X E (.Call (.Name "tuple" p) [.Call (.Name "zip" p2) [a, b] [] pos2] [] pos) (eZipV false ta tb) :=
  PE.weak (ZN.pe_tupZip hc hg hm hg2 hm2 (d_cons ha (d_cons hb d_nil hs1) hs) hs hpl hs2) fun σ H Q q => by
  obtain ⟨F, rs, S, G, m, pp⟩ := zipV_at q
  refine ⟨F, rs, S, G, m, pp.mono fun vs H1 ⟨k1, k2, a, b, xs, ys, ev, q1, q2, hz, F, rs, S, G, ds, es, m, d1, d2, pp⟩ => ⟨k1, k2, a, b, xs, ys, ev, q1, q2, hz, fun H' ps its p e pr l hp => ?_⟩⟩
  obtain ⟨G', sG, m', hg⟩ := m.grow e
  exact newTup m' (prs_dd hg (DdAll.same sG _ _ d1) (DdAll.same sG _ _ d2) pr l) (Post.up ⟨⟨[], by simp⟩, sG⟩ pp) hp
theorem d_lstZip {ta tb : M VD} (hc : X.calm = true) (ha : PD X E a ta) (hb : PD X E b tb) (hm : X.mg "list" = none) (hm2 : X.mg "zip" = none) (hg : Gl X "list" := by rfl) (hg2 : Gl X "zip" := by rfl)
    (hs : starEach [a, b] X.env = (false, eval a X.env) :: starEach [b] X.env := by rfl) (hs1 : starEach [b] X.env = (false, eval b X.env) :: starEach [] X.env := by rfl) (hpl : (backTo pos2 (starEach [b] X.env)).any (·.1) = false := by rfl)
    (hs2 : starEach [.Call (.Name "zip" p2) [a, b] [] pos2] X.env = (false, eval (.Call (.Name "zip" p2) [a, b] [] pos2) X.env) :: starEach [] X.env := by rfl) :
    PD X E (.Call (.Name "list" p) [.Call (.Name "zip" p2) [a, b] [] pos2] [] pos) (eZipV true ta tb) :=
  PE.weak (ZN.pe_lstZip hc hg hm hg2 hm2 (d_cons ha (d_cons hb d_nil hs1) hs) hs hpl hs2) fun σ H Q q => by
  obtain ⟨F, rs, S, G, m, pp⟩ := zipV_at q
  refine ⟨F, rs, S, G, m, pp.mono fun vs H1 ⟨k1, k2, a, b, xs, ys, ev, q1, q2, hz, F, rs, S, G, ds, es, m, d1, d2, pp⟩ => ⟨k1, k2, a, b, xs, ys, ev, q1, q2, hz, fun H' ps A e pr l hA hL => ?_⟩⟩
  let Hs : Hp := fun c => if c = A then none else H' c
  have e1 : Same H1 Hs := fun c o q => by
    have : c ≠ A := ne_of_none q hA
    show (if c = A then none else H' c) = _
    rw [if_neg this]; exact e c o q
  have e2 : upd Hs A (.lst (ps.map V.ref)) = H' := by
    funext c
    by_cases h : c = A
    · rw [h, upd_same, hL]
    · rw [upd_ne h]; show (if c = A then none else H' c) = _; rw [if_neg h]
  obtain ⟨G', sG, m', hg⟩ := m.grow e1
  have pr' : ZN.Prs Hs xs ys ps := fun j p hp => by
    obtain ⟨x, y, h1, h2, its, h3⟩ := pr j p hp
    have : p ≠ A := fun e => by rw [e, hL] at h3; cases h3
    exact ⟨x, y, h1, h2, its, by show (if p = A then none else H' p) = _; rw [if_neg this]; exact h3⟩
  have z := newLst m' (prs_dd hg (DdAll.same sG _ _ d1) (DdAll.same sG _ _ d2) pr' l) (Post.up ⟨⟨[], by simp⟩, sG⟩ pp) (p := A) (by show (if A = A then none else H' A) = none; rw [if_pos rfl])
  rw [e2] at z
  exact z
end
end DL
/-! DD4: x, y, z = a, b, c. -/
namespace DL
open PySem PySem.Spec L2
section
variable {X : Cx} {E : XK} {pos : Pos}
def sPar3 (i j l : Nat) (t : M (List VD)) : MS := do
  let vs ← t
  match vs with
  | [x, y, z] => do setSl i x; setSl j y; setSl l z; pure .nx
  | _ => M.bad
theorem s_par3 {i j l : Nat} {x y z : Str} {a b c : Expr} {ta : M (List VD)} {px py pz pt : Pos} {kt k2 : Nat} {pt2 : Pos} (hc : X.calm = true) (hN : X.N.Nodup) (ha : PDA X E [a, b, c] ta) (hi : X.N[i]? = some x := by rfl) (hj : X.N[j]? = some y := by rfl) (hl : X.N[l]? = some z := by rfl) (hij : i ≠ j := by decide) (hil : i ≠ l := by decide) (hjl : j ≠ l := by decide)
    (hx : X.env.scope.names.lookup x = some .local := by rfl) (hy : X.env.scope.names.lookup y = some .local := by rfl) (hz : X.env.scope.names.lookup z = some .local := by rfl)
    (hw : swappedStores [.Tuple [.Name x px, .Name y py, .Name z pz] kt pt] (.Tuple [a, b, c] k2 pt2) X.env = pure (some [x, y, z]) := by rfl) (hs : swapsWithSole [.Tuple [.Name x px, .Name y py, .Name z pz] kt pt] (.Tuple [a, b, c] k2 pt2) pos.line X.env = pure false := by rfl) :
    PDS X E (.Assign [.Tuple [.Name x px, .Name y py, .Name z pz] kt pt] (.Tuple [a, b, c] k2 pt2) pos) (sPar3 i j l ta) := PS.weak (L2.ps_par3 hc hN hi hj hl hij hil hjl hx hy hz ha hw hs) fun D σ H q => by
  obtain ⟨F, rs, S, G, m, p⟩ := q
  refine ⟨F, rs, S, G, m, (PostS.expr p).mono fun vs H1 ⟨rs1, S1, G1, xs, u1, m1, r1, p1⟩ => ?_⟩
  match xs, vs, r1, p1 with
  | [x, y, z], [v, w, u], r1, p1 =>
    exact ⟨v, w, u, rfl, p1 _ H1 G1 rs1 Up.refl (((m1.store r1.1).store r1.2.1).store r1.2.2.1)⟩
  | [], _, _, p1 => exact p1.elim
  | [_], _, _, p1 => exact p1.elim
  | [_, _], _, _, p1 => exact p1.elim
  | _ :: _ :: _ :: _ :: _, _, _, p1 => exact p1.elim
end
end DL
/-! MA1: the pen: what its defs do. -/
namespace MA
open PySem DL L2
theorem seq_nx {t u : MS} {S S' : DS} (h : t S = .ok (.nx, S')) : sSeq t u S = u S' := by
  unfold sSeq; rw [M.bind_run, h]; rfl
theorem seq_rt {t u : MS} {S S' : DS} {x : VD} (h : t S = .ok (.rt x, S')) : sSeq t u S = .ok (.rt x, S') := by
  unfold sSeq; rw [M.bind_run, h]; rfl
theorem bindE {α β : Type} {t : M α} {f : α → M β} {S S' : DS} {a : α} (h : t S = .ok (a, S')) : (t >>= f) S = f a S' := by
  rw [M.bind_run, h]; rfl
theorem setE {i : Nat} {t : M VD} {S S' : DS} {x : VD} (h : t S = .ok (x, S')) : sSet i t S = .ok (.nx, { S' with sl := S'.sl.set i (some x) }) := by
  unfold sSet; rw [bindE h]; rfl
theorem retE {t : M VD} {S S' : DS} {x : VD} (h : t S = .ok (x, S')) : sRet t S = .ok (.rt x, S') := by
  unfold sRet; rw [bindE h]; rfl
abbrev Pen (gs : List Int) (seat pool : Int) (k : PyData) : List PyData := [.list (gs.map .int), .int seat, .int pool, k]
theorem ltD_int (i j : Int) : fLtD (.int i) (.int j) = some (.bool (W.dataLt (.int i) (.int j))) := by simp [fLtD, W.alike, isN, PyData.depth]
theorem plain_ints : ∀ gs : List Int, PyData.plainAll (gs.map .int) = true
  | [] => rfl
  | g :: gs => by simp [PyData.plainAll, PyData.plain, plain_ints gs]
theorem depth_ints : ∀ gs : List Int, PyData.depthAll (gs.map .int) = 0
  | [] => rfl
  | g :: gs => by simp [PyData.depthAll, PyData.depth, depth_ints gs]
theorem ne_nil (gs : List Int) : fNe (.list (gs.map .int)) (.list []) = some (.bool (!gs.isEmpty)) := by
  unfold fNe eqD
  rw [show (PyData.list (gs.map .int)).plain = true from plain_ints gs, show (PyData.list []).plain = true from rfl]
  simp only [PyData.depth, depth_ints]
  cases gs <;> simp [PyData.depthAll, PyData.eqv, PyData.eqvAll]
/-! ### expressions over a state -/
section
variable {S : DS}
theorem varE {i : Nat} {x : VD} (h : S.sl[i]? = some (some x)) : eVar i S = .ok (x, S) := by unfold eVar; rw [h]
theorem cE {d : PyData} : eC d S = .ok (.dat d, S) := rfl
theorem opE {f : PyData → PyData → Option PyData} {ta tb : M VD} {S1 S2 : DS} {x y : VD} {d e r : PyData} {v : V} (h1 : ta S = .ok (x, S1)) (h2 : tb S1 = .ok (y, S2)) (p1 : peekS S2 x = some d) (p2 : peekS S2 y = some e) (hr : f d e = some r) (hv : scalV r = some v) : eOp f ta tb S = .ok (.dat r, S2) := by
  unfold eOp
  rw [bindE h1, bindE h2, bindE (show peek x S2 = .ok (d, S2) by unfold peek; rw [p1]), bindE (show peek y S2 = .ok (e, S2) by unfold peek; rw [p2]), bindE (show ofO (f d e) S2 = .ok (r, S2) by unfold ofO; rw [hr])]
  unfold DL.scal; rw [hv]; rfl
theorem opI {f : PyData → PyData → Option PyData} {ta tb : M VD} {i j k : Int} (h1 : ta S = .ok (.dat (.int i), S)) (h2 : tb S = .ok (.dat (.int j), S)) (hr : f (.int i) (.int j) = some (.int k)) : eOp f ta tb S = .ok (.dat (.int k), S) := opE h1 h2 rfl rfl hr rfl
theorem opB {f : PyData → PyData → Option PyData} {ta tb : M VD} {i j : Int} {k : Bool} (h1 : ta S = .ok (.dat (.int i), S)) (h2 : tb S = .ok (.dat (.int j), S)) (hr : f (.int i) (.int j) = some (.bool k)) : eOp f ta tb S = .ok (.dat (.bool k), S) := opE h1 h2 rfl rfl hr rfl
theorem addI {ta tb : M VD} {i j : Int} (h1 : ta S = .ok (.dat (.int i), S)) (h2 : tb S = .ok (.dat (.int j), S)) : eAdd ta tb S = .ok (.dat (.int (i + j)), S) := by
  unfold eAdd
  rw [bindE h1, bindE h2, bindE (show peek (.dat (.int i)) S = .ok (.int i, S) from rfl), bindE (show peek (.dat (.int j)) S = .ok (.int j, S) from rfl)]
  rfl
theorem fnE {f : PyData → Option PyData} {ta : M VD} {x : VD} {d r : PyData} {v : V} (h1 : ta S = .ok (x, S)) (p1 : peekS S x = some d) (hr : f d = some r) (hv : scalV r = some v) : eFn f ta S = .ok (.dat r, S) := by
  unfold eFn
  rw [bindE h1, bindE (show peek x S = .ok (d, S) by unfold peek; rw [p1]), bindE (show ofO (f d) S = .ok (r, S) by unfold ofO; rw [hr])]
  unfold DL.scal; rw [hv]; rfl
theorem intI {ta : M VD} {i : Int} (h1 : ta S = .ok (.dat (.int i), S)) : eFn intD ta S = .ok (.dat (.int i), S) := fnE h1 rfl rfl rfl
theorem idxE {ta tb : M VD} {S1 S2 : DS} {x : VD} {c r : PyData} {i : Int} (h1 : ta S = .ok (x, S1)) (h2 : tb S1 = .ok (.dat (.int i), S2)) (p1 : peekS S2 x = some c) (hr : idxD c (.int i) = some r) : eIdx ta tb S = .ok (.dat r, S2) := by
  unfold eIdx
  rw [bindE h1, bindE h2, bindE (show peek x S2 = .ok (c, S2) by unfold peek; rw [p1]), bindE (show peek (.dat (.int i)) S2 = .ok (.int i, S2) from rfl), bindE (show ofO (idxD c (.int i)) S2 = .ok (r, S2) by unfold ofO; rw [hr])]
  rfl
theorem tofE {t : M VD} {b : Bool} {S1 : DS} (h : t S = .ok (.dat (.bool b), S1)) : tOf t S = .ok (b, S1) := by unfold tOf; rw [bindE h]; rfl
theorem sifE {c : M Bool} {t u : MS} {b : Bool} {S1 : DS} (h : c S = .ok (b, S1)) : sIf c t u S = (if b then t else u) S1 := by unfold sIf; rw [bindE h]
theorem andE {t u : M Bool} {a b : Bool} (h1 : t S = .ok (a, S)) (h2 : u S = .ok (b, S)) : tAndD t u S = .ok (a && b, S) := by
  unfold tAndD; rw [bindE h1]; cases a
  · rfl
  · exact h2
theorem eifE {c : M Bool} {t u : M VD} {b : Bool} (h : c S = .ok (b, S)) : eIf c t u S = (if b then t else u) S := by unfold eIf; rw [bindE h]
theorem consE {a : M VD} {t : M (List VD)} {S1 S2 : DS} {x : VD} {xs : List VD} (h1 : a S = .ok (x, S1)) (h2 : t S1 = .ok (xs, S2)) : aCons a t S = .ok (x :: xs, S2) := by unfold aCons; rw [bindE h1, bindE h2]; rfl
/-- pen[k] = v -/
theorem penSet {j : Nat} {to te : M VD} {ds : List PyData} {k : Int} {v : Int} {q : Nat} {S1 : DS} (ht : te S = .ok (.dat (.int v), S1)) (ho : to S1 = .ok (.rf j, S1)) (hc : S1.ce[j]? = some (.ls true ds)) (hq : ixN ds.length k = some q) : sAsg te (gSubD to (eC (.int k))) S = .ok (.nx, { S1 with ce := S1.ce.set j (.ls true (ds.set q (.int v))) }) := by
  unfold sAsg
  rw [bindE ht]
  unfold noX gSubD
  rw [bindE ho, bindE (show eC (.int k) S1 = .ok (.dat (.int k), S1) from rfl)]
  unfold setC
  rw [bindE (show toD (.dat (.int v)) S1 = .ok (.int v, S1) from rfl)]
  dsimp only
  rw [hc]
  dsimp only
  rw [hq]
end
end MA
/-! MA2: the pen. -/
namespace MA
open PySem DL L2
def b_law_pen : MS :=
    (sRet (eLst (aCons (eLstOf (eSl (eVar 0) oNone (oSome (eC (.int 63))))) (aCons (eC (.int 0)) (aCons (eC (.int 0)) (aCons (eLst (aCons (eC (.int 1)) (aCons (eC (.int 5)) (pure [])))) (pure [])))))))
def f_law_pen : Fd := runF 1 b_law_pen
def b_law_fresh : MS :=
    (sSeq (sPar 6 7 (aCons (eIdx (eVar 0) (eC (.int 1))) (aCons (eIdx (eVar 0) (eC (.int 0))) (pure []))))
    (sSeq (sAsg (eAdd (eVar 6) (eC (.int 1))) (gSubD (eVar 0) (eC (.int 1))))
    (sSeq (sSet 1 (eIf (tOf (eOp fNe (eVar 7) (eLst (pure [])))) (eIdx (eVar 7) (eOp fMod (eFn intD (eVar 6)) (eFn lenD (eVar 7)))) (eC (.int 0))))
    (sSeq (sIf (tAndD (tOf (eOp fLtD (eVar 6) (eFn lenD (eVar 7)))) (tOf (eOp fGe (eVar 1) (eOp fPow (eC (.int 10)) (eC (.int 18)))))) (sRet (eOp fSub (eVar 1) (eOp fPow (eC (.int 10)) (eC (.int 18))))) sNil)
    (sSeq (sSet 2 (eC (.int 2305843009213693951)))
    (sSeq (sSet 3 (eOp fMod (eFn intD (eAdd (eAdd (eOp fMul (eVar 1) (eC (.int 48271))) (eOp fMul (eC (.int 60013)) (eVar 6))) (eC (.int 31)))) (eVar 2)))
    (sSeq (sSet 4 (eVar 3))
    (sSeq (sFor (srcRng (eC (.int 6))) (setSl 5) (sSeq (sSet 3 (eOp fMod (eFn intD (eAdd (eAdd (eOp fMul (eVar 3) (eVar 3)) (eOp fMul (eOp fMul (eC (.int 70139)) (eAdd (eVar 5) (eC (.int 5)))) (eAdd (eVar 6) (eC (.int 1))))) (eVar 1))) (eVar 2)))
    (sSet 4 (eAdd (eOp fMul (eVar 4) (eVar 2)) (eVar 3)))))
    (sRet (eVar 4))))))))))
def f_law_fresh : Fd := runF 8 b_law_fresh
def b_law_draw : MS :=
    (sSeq (sIf (tOf (eOp fLtD (eIdx (eVar 0) (eC (.int 2))) (eVar 1))) (sAsg (eCall 1 f_law_fresh (aCons (eVar 0) (pure []))) (gSubD (eVar 0) (eC (.int 2)))) sNil)
    (sSeq (sSet 2 (eOp fMod (eFn intD (eIdx (eVar 0) (eC (.int 2)))) (eVar 1)))
    (sSeq (sAsg (eOp fDiv (eFn intD (eIdx (eVar 0) (eC (.int 2)))) (eVar 1)) (gSubD (eVar 0) (eC (.int 2))))
    (sRet (eVar 2)))))
def f_law_draw : Fd := runF 3 b_law_draw
def b_law_one_of : MS :=
    (sRet (eIdx (eVar 1) (eCall 2 f_law_draw (aCons (eVar 0) (aCons (eFn lenD (eVar 1)) (pure []))))))
def f_law_one_of : Fd := runF 2 b_law_one_of
theorem mulL {i j : Int} (h : -(2 ^ 64) < i ∧ i < 2 ^ 64) : fMul (.int i) (.int j) = some (.int (i * j)) := if_pos (.inl h)
theorem mulR {i j : Int} (h : -(2 ^ 64) < j ∧ j < 2 ^ 64) : fMul (.int i) (.int j) = some (.int (i * j)) := if_pos (.inr h)
theorem modI {i j : Int} (h : 0 < j) : fMod (.int i) (.int j) = some (.int (i % j)) := if_pos h
theorem divI {i j : Int} (h : 0 < j ∧ j < 1073741824) : fDiv (.int i) (.int j) = some (.int (i / j)) := if_pos h
theorem powI {i j : Int} (h : 0 ≤ j ∧ j ≤ 1000 ∧ i.natAbs < 2 ^ 64) : fPow (.int i) (.int j) = some (.int (i ^ j.toNat)) := if_pos h
/-- one turn of the loop -/
theorem lap_ok {S : DS} {j : Nat} {cell seat state found lap : Int} {gv l0 : Option VD} (hS : S.sl = [some (.rf j), some (.dat (.int cell)), some (.dat (.int 2305843009213693951)), some (.dat (.int state)), some (.dat (.int found)), some (.dat (.int lap)), some (.dat (.int seat)), gv]) (h0 : 0 ≤ state) (h1 : state < 2305843009213693951) (hl : 0 ≤ lap ∧ lap < 6) :
    ∃ s' f' : Int, 0 ≤ s' ∧ s' < 2305843009213693951 ∧ (sSeq (sSet 3 (eOp fMod (eFn intD (eAdd (eAdd (eOp fMul (eVar 3) (eVar 3)) (eOp fMul (eOp fMul (eC (.int 70139)) (eAdd (eVar 5) (eC (.int 5)))) (eAdd (eVar 6) (eC (.int 1))))) (eVar 1))) (eVar 2)))
    (sSet 4 (eAdd (eOp fMul (eVar 4) (eVar 2)) (eVar 3)))) S = .ok (.nx, ⟨[some (.rf j), some (.dat (.int cell)), some (.dat (.int 2305843009213693951)), some (.dat (.int s')), some (.dat (.int f')), some (.dat (.int lap)), some (.dat (.int seat)), gv], S.ce⟩) := by
  obtain ⟨sl, ce⟩ := S
  dsimp only at hS
  subst hS
  refine ⟨(state * state + 70139 * (lap + 5) * (seat + 1) + cell) % 2305843009213693951, found * 2305843009213693951 + (state * state + 70139 * (lap + 5) * (seat + 1) + cell) % 2305843009213693951, Int.emod_nonneg _ (by decide), Int.emod_lt_of_pos _ (by decide), ?_⟩
  rw [seq_nx (setE (opI (intI (addI (addI (opI (varE rfl) (varE rfl) (mulL ⟨by omega, by omega⟩)) (opI (opI cE (addI (varE rfl) cE) (mulL ⟨by omega, by omega⟩)) (addI (varE rfl) cE) (mulL ⟨by omega, by omega⟩))) (varE rfl))) (varE rfl) (modI (by decide))))]
  exact setE (addI (opI (varE rfl) (varE rfl) (mulR ⟨by omega, by omega⟩)) (varE rfl))
abbrev lapB : MS := (sSeq (sSet 3 (eOp fMod (eFn intD (eAdd (eAdd (eOp fMul (eVar 3) (eVar 3)) (eOp fMul (eOp fMul (eC (.int 70139)) (eAdd (eVar 5) (eC (.int 5)))) (eAdd (eVar 6) (eC (.int 1))))) (eVar 1))) (eVar 2)))
    (sSet 4 (eAdd (eOp fMul (eVar 4) (eVar 2)) (eVar 3))))
theorem laps_ok {j : Nat} {cell seat : Int} {gv : Option VD} {ce : List Cl} : ∀ (ls : List Int) (state found : Int) (lv : Option VD), (∀ l ∈ ls, 0 ≤ l ∧ l < 6) → 0 ≤ state → state < 2305843009213693951 → ∃ (s' f' : Int) (lv' : Option VD),
    forD (setSl 5) lapB (ls.map .int) ⟨[some (.rf j), some (.dat (.int cell)), some (.dat (.int 2305843009213693951)), some (.dat (.int state)), some (.dat (.int found)), lv, some (.dat (.int seat)), gv], ce⟩ =
      .ok (.nx, ⟨[some (.rf j), some (.dat (.int cell)), some (.dat (.int 2305843009213693951)), some (.dat (.int s')), some (.dat (.int f')), lv', some (.dat (.int seat)), gv], ce⟩)
  | [], state, found, lv, _, _, _ => ⟨state, found, lv, rfl⟩
  | l :: ls, state, found, lv, hl, h0, h1 => by
    obtain ⟨s1, f1, a1, a2, e1⟩ := lap_ok (S := ⟨[some (.rf j), some (.dat (.int cell)), some (.dat (.int 2305843009213693951)), some (.dat (.int state)), some (.dat (.int found)), some (.dat (.int l)), some (.dat (.int seat)), gv], ce⟩) (gv := gv) (l0 := none) rfl h0 h1 (hl l List.mem_cons_self)
    obtain ⟨s2, f2, lv2, e2⟩ := laps_ok ls s1 f1 (some (.dat (.int l))) (fun x hx => hl x (List.mem_cons_of_mem _ hx)) a1 a2
    refine ⟨s2, f2, lv2, ?_⟩
    show forD (setSl 5) lapB (PyData.int l :: ls.map .int) _ = _
    unfold forD
    rw [bindE (show noX (setSl 5 (.dat (.int l))) ⟨[some (.rf j), some (.dat (.int cell)), some (.dat (.int 2305843009213693951)), some (.dat (.int state)), some (.dat (.int found)), lv, some (.dat (.int seat)), gv], ce⟩ = .ok (.nx, ⟨[some (.rf j), some (.dat (.int cell)), some (.dat (.int 2305843009213693951)), some (.dat (.int state)), some (.dat (.int found)), some (.dat (.int l)), some (.dat (.int seat)), gv], ce⟩) from rfl), bindE e1]
    exact e2
theorem cell_in (gs : List Int) (seat : Int) (h : gs ≠ []) : ∃ c : Int, idxD (.list (gs.map .int)) (.int (seat % (gs.length : Int))) = some (.int c) := by
  have hp : (0 : Int) < gs.length := by
    have := List.length_pos_iff.mpr h
    omega
  have h1 := Int.emod_nonneg seat (Int.ne_of_gt hp)
  have h2 := Int.emod_lt_of_pos seat hp
  have hn : (seat % (gs.length : Int)).toNat < gs.length := by omega
  refine ⟨gs[(seat % (gs.length : Int)).toNat]'hn, ?_⟩
  show atI (gs.map PyData.int) _ = _
  unfold atI ixN
  rw [if_pos h1, if_pos (by simpa using h2)]
  simp [List.getElem?_eq_getElem hn]
theorem peekRf {S : DS} {j : Nat} {b : Bool} {ds : List PyData} (h : S.ce[j]? = some (.ls b ds)) : peekS S (.rf j) = some (.list ds) := by unfold peekS; dsimp only; rw [h]
/-- a new number from the pen: the seat goes on -/
theorem fresh_ok {gs : List Int} {seat pool : Int} {k : PyData} {ce : List Cl} {j : Nat} (h : ce[j]? = some (.ls true (Pen gs seat pool k))) : ∃ v : Int, f_law_fresh [.rf j] ⟨[], ce⟩ = .ok (.dat (.int v), ⟨[], ce.set j (.ls true (Pen gs (seat + 1) pool k))⟩) := by
  have hj : j < ce.length := (List.getElem?_eq_some_iff.mp h).1
  have h' : (ce.set j (.ls true (Pen gs (seat + 1) pool k)))[j]? = some (.ls true (Pen gs (seat + 1) pool k)) := List.getElem?_set_self hj
  unfold f_law_fresh runF
  suffices z : ∃ v S', b_law_fresh ⟨[some (.rf j), none, none, none, none, none, none, none], ce⟩ = .ok (.rt (.dat (.int v)), S') ∧ S'.ce = ce.set j (.ls true (Pen gs (seat + 1) pool k)) ++ [(.ls true [])] by
    obtain ⟨v, S', e, e2⟩ := z
    refine ⟨v, ?_⟩
    show (match b_law_fresh ⟨[some (.rf j), none, none, none, none, none, none, none], ce⟩ with | .ok (.rt x, S') => gc ce.length x S'.ce | .ok (.nx, S') => gc ce.length (.dat .none) S'.ce | .ok (_, _) => .bad | .exc x S' => .exc x ⟨[], S'.ce.take ce.length⟩ | .bad => .bad) = _
    rw [e]
    show gc ce.length (.dat (.int v)) S'.ce = _
    rw [e2]
    show R.ok (_, (⟨[], (ce.set j (.ls true (Pen gs (seat + 1) pool k) : Cl) ++ [(.ls true [] : Cl)]).take ce.length⟩ : DS)) = _
    rw [List.take_left' (by simp)]
  have st1 : sPar 6 7 (aCons (eIdx (eVar 0) (eC (.int 1))) (aCons (eIdx (eVar 0) (eC (.int 0))) (pure []))) ⟨[some (.rf j), none, none, none, none, none, none, none], ce⟩ = .ok (.nx, ⟨[some (.rf j), none, none, none, none, none, some (.dat (.int seat)), some (.dat (.list (gs.map .int)))], ce⟩) := by
    unfold sPar
    rw [bindE (consE (idxE (varE rfl) cE (peekRf h) rfl) (consE (idxE (varE rfl) cE (peekRf h) rfl) rfl))]
    rfl
  have st2 : sAsg (eAdd (eVar 6) (eC (.int 1))) (gSubD (eVar 0) (eC (.int 1))) ⟨[some (.rf j), none, none, none, none, none, some (.dat (.int seat)), some (.dat (.list (gs.map .int)))], ce⟩ = .ok (.nx, ⟨[some (.rf j), none, none, none, none, none, some (.dat (.int seat)), some (.dat (.list (gs.map .int)))], ce.set j (.ls true (Pen gs (seat + 1) pool k))⟩) :=
    penSet (ds := Pen gs seat pool k) (q := 1) (k := 1) (v := seat + 1) (addI (varE rfl) cE) (varE rfl) h rfl
  generalize hc1 : ce.set j (.ls true (Pen gs (seat + 1) pool k)) = c1 at *
  have st3 : ∃ cell : Int, sSet 1 (eIf (tOf (eOp fNe (eVar 7) (eLst (pure [])))) (eIdx (eVar 7) (eOp fMod (eFn intD (eVar 6)) (eFn lenD (eVar 7)))) (eC (.int 0))) ⟨[some (.rf j), none, none, none, none, none, some (.dat (.int seat)), some (.dat (.list (gs.map .int)))], c1⟩ =
      .ok (.nx, ⟨[some (.rf j), some (.dat (.int cell)), none, none, none, none, some (.dat (.int seat)), some (.dat (.list (gs.map .int)))], c1 ++ [(.ls true [])]⟩) := by
    have test : tOf (eOp fNe (eVar 7) (eLst (pure []))) ⟨[some (.rf j), none, none, none, none, none, some (.dat (.int seat)), some (.dat (.list (gs.map .int)))], c1⟩ = .ok (!gs.isEmpty, ⟨[some (.rf j), none, none, none, none, none, some (.dat (.int seat)), some (.dat (.list (gs.map .int)))], c1 ++ [(.ls true [])]⟩) :=
      tofE (opE (varE rfl) (show eLst (pure []) _ = .ok (.rf c1.length, _) from rfl) rfl (peekRf (b := true) (ds := []) (by simp)) (ne_nil gs) rfl)
    cases hg : gs with
    | nil =>
      subst hg
      refine ⟨0, setE (x := .dat (.int 0)) (S' := ⟨[some (.rf j), none, none, none, none, none, some (.dat (.int seat)), some (.dat (.list (([] : List Int).map .int)))], c1 ++ [(.ls true [])]⟩) ?_⟩
      unfold eIf
      rw [bindE test]
      rfl
    | cons g r =>
      obtain ⟨c, hcell⟩ := cell_in gs seat (by rw [hg]; exact List.cons_ne_nil _ _)
      rw [hg] at test hcell
      refine ⟨c, setE (x := .dat (.int c)) (S' := ⟨[some (.rf j), none, none, none, none, none, some (.dat (.int seat)), some (.dat (.list ((g :: r).map .int)))], c1 ++ [(.ls true [])]⟩) ?_⟩
      unfold eIf
      rw [bindE test]
      refine idxE (varE rfl) (opI (intI (varE rfl)) (fnE (varE rfl) rfl (show lenD (.list ((g :: r).map .int)) = some (.int ((g :: r).length : Nat)) by simp [lenD, asSeq]) rfl) (modI ?_)) rfl hcell; simp only [List.length_cons]; omega
  obtain ⟨cell, st3⟩ := st3
  generalize hc2 : c1 ++ [(.ls true [])] = c2 at *
  have pw : ∀ S : DS, eOp fPow (eC (.int 10)) (eC (.int 18)) S = .ok (.dat (.int (10 ^ 18)), S) := fun S => opI cE cE (powI ⟨by decide, by decide, by decide⟩)
  have st4 : tAndD (tOf (eOp fLtD (eVar 6) (eFn lenD (eVar 7)))) (tOf (eOp fGe (eVar 1) (eOp fPow (eC (.int 10)) (eC (.int 18))))) ⟨[some (.rf j), some (.dat (.int cell)), none, none, none, none, some (.dat (.int seat)), some (.dat (.list (gs.map .int)))], c2⟩ =
      .ok (W.dataLt (.int seat) (.int gs.length) && decide ((10 : Int) ^ 18 ≤ cell), ⟨[some (.rf j), some (.dat (.int cell)), none, none, none, none, some (.dat (.int seat)), some (.dat (.list (gs.map .int)))], c2⟩) :=
    andE (tofE (opB (varE rfl) (fnE (varE rfl) rfl (show lenD (.list (gs.map .int)) = some (.int gs.length) by simp [lenD, asSeq]) rfl) (ltD_int _ _))) (tofE (opB (varE rfl) (pw _) rfl))
  unfold b_law_fresh
  rw [seq_nx st1, seq_nx st2, seq_nx st3]
  cases hb : (W.dataLt (.int seat) (.int gs.length) && decide ((10 : Int) ^ 18 ≤ cell)) with
  | true =>
    rw [hb] at st4
    refine ⟨cell - 10 ^ 18, ⟨_, c2⟩, seq_rt (by rw [sifE st4]; exact retE (opI (varE rfl) (pw _) rfl)), rfl⟩
  | false =>
    rw [hb] at st4
    have st5 : sIf (tAndD (tOf (eOp fLtD (eVar 6) (eFn lenD (eVar 7)))) (tOf (eOp fGe (eVar 1) (eOp fPow (eC (.int 10)) (eC (.int 18)))))) (sRet (eOp fSub (eVar 1) (eOp fPow (eC (.int 10)) (eC (.int 18))))) sNil ⟨[some (.rf j), some (.dat (.int cell)), none, none, none, none, some (.dat (.int seat)), some (.dat (.list (gs.map .int)))], c2⟩ =
        .ok (.nx, ⟨[some (.rf j), some (.dat (.int cell)), none, none, none, none, some (.dat (.int seat)), some (.dat (.list (gs.map .int)))], c2⟩) := by
      rw [sifE st4]; rfl
    obtain ⟨s', f', lv, lo⟩ := laps_ok (j := j) (cell := cell) (seat := seat) (gv := some (.dat (.list (gs.map .int)))) (ce := c2) [0, 1, 2, 3, 4, 5] ((cell * 48271 + 60013 * seat + 31) % 2305843009213693951) ((cell * 48271 + 60013 * seat + 31) % 2305843009213693951) none (by decide) (Int.emod_nonneg _ (by decide)) (Int.emod_lt_of_pos _ (by decide))
    refine ⟨f', ⟨[some (.rf j), some (.dat (.int cell)), some (.dat (.int 2305843009213693951)), some (.dat (.int s')), some (.dat (.int f')), lv, some (.dat (.int seat)), some (.dat (.list (gs.map .int)))], c2⟩, ?_, rfl⟩
    rw [seq_nx st5, seq_nx (setE cE), seq_nx (setE (opI (intI (addI (addI (opI (varE rfl) cE (mulR ⟨by decide, by decide⟩)) (opI cE (varE rfl) (mulL ⟨by decide, by decide⟩))) cE)) (varE rfl) (modI (by decide)))), seq_nx (setE (varE rfl))]
    have lp : sFor (srcRng (eC (.int 6))) (setSl 5) lapB ⟨[some (.rf j), some (.dat (.int cell)), some (.dat (.int 2305843009213693951)), some (.dat (.int ((cell * 48271 + 60013 * seat + 31) % 2305843009213693951))), some (.dat (.int ((cell * 48271 + 60013 * seat + 31) % 2305843009213693951))), none, some (.dat (.int seat)), some (.dat (.list (gs.map .int)))], c2⟩ = .ok (.nx, ⟨[some (.rf j), some (.dat (.int cell)), some (.dat (.int 2305843009213693951)), some (.dat (.int s')), some (.dat (.int f')), lv, some (.dat (.int seat)), some (.dat (.list (gs.map .int)))], c2⟩) := by
      unfold sFor
      rw [bindE (show srcRng (eC (.int 6)) _ = .ok (rngD 0 6, _) from rfl)]
      exact lo
    refine (seq_nx lp).trans (retE (varE rfl))
theorem callE {n : Nat} {den : Fd} {t : M (List VD)} {S S1 S2 : DS} {xs : List VD} {x : VD} (h1 : t S = .ok (xs, S1)) (hn : xs.length = n) (h2 : den xs ⟨[], S1.ce⟩ = .ok (x, S2)) : eCall n den t S = .ok (x, ⟨S1.sl, S2.ce⟩) := by
  unfold eCall
  rw [bindE h1, bindE (show chk (decide (xs.length = n)) S1 = .ok ((), S1) by unfold chk; rw [decide_eq_true hn]; rfl)]
  rw [h2]
/-- a digit from the pen -/
theorem draw_ok {gs : List Int} {seat pool b : Int} {k : PyData} {ce : List Cl} {j : Nat} (h : ce[j]? = some (.ls true (Pen gs seat pool k))) (hb : 0 < b ∧ b < 1073741824) : ∃ d seat' pool' : Int, 0 ≤ d ∧ d < b ∧ f_law_draw [.rf j, .dat (.int b)] ⟨[], ce⟩ = .ok (.dat (.int d), ⟨[], ce.set j (.ls true (Pen gs seat' pool' k))⟩) := by
  have hj : j < ce.length := (List.getElem?_eq_some_iff.mp h).1
  have st1 : ∃ s1 p1 : Int, sIf (tOf (eOp fLtD (eIdx (eVar 0) (eC (.int 2))) (eVar 1))) (sAsg (eCall 1 f_law_fresh (aCons (eVar 0) (pure []))) (gSubD (eVar 0) (eC (.int 2)))) sNil ⟨[some (.rf j), some (.dat (.int b)), none], ce⟩ = .ok (.nx, ⟨[some (.rf j), some (.dat (.int b)), none], ce.set j (.ls true (Pen gs s1 p1 k))⟩) := by
    have test : tOf (eOp fLtD (eIdx (eVar 0) (eC (.int 2))) (eVar 1)) ⟨[some (.rf j), some (.dat (.int b)), none], ce⟩ = .ok (W.dataLt (.int pool) (.int b), ⟨[some (.rf j), some (.dat (.int b)), none], ce⟩) := tofE (opB (idxE (varE rfl) cE (peekRf h) rfl) (varE rfl) (ltD_int _ _))
    cases hw : W.dataLt (.int pool) (.int b) with
    | true =>
      rw [hw] at test
      obtain ⟨v, hv⟩ := fresh_ok h
      refine ⟨seat + 1, v, ?_⟩
      rw [sifE test]
      have c1 := callE (n := 1) (den := f_law_fresh) (xs := [.rf j]) (S := ⟨[some (.rf j), some (.dat (.int b)), none], ce⟩) (S1 := ⟨[some (.rf j), some (.dat (.int b)), none], ce⟩) (t := aCons (eVar 0) (pure [])) (consE (varE (i := 0) rfl) rfl) rfl hv
      have z := penSet (to := eVar 0) (ds := Pen gs (seat + 1) pool k) (q := 2) (k := 2) c1 (varE rfl) (List.getElem?_set_self hj) rfl
      refine z.trans ?_
      show R.ok (Fl.nx, (⟨_, (ce.set j (.ls true (Pen gs (seat + 1) pool k))).set j (.ls true (Pen gs (seat + 1) v k))⟩ : DS)) = _
      rw [List.set_set]
    | false =>
      rw [hw] at test
      refine ⟨seat, pool, ?_⟩
      rw [sifE test, show ce.set j (.ls true (Pen gs seat pool k)) = ce from by
        apply List.ext_getElem?
        intro i
        by_cases e : i = j
        · subst e; rw [List.getElem?_set_self hj, h]
        · rw [List.getElem?_set_ne (Ne.symm e)]]
      rfl
  obtain ⟨s1, p1, st1⟩ := st1
  refine ⟨p1 % b, s1, p1 / b, Int.emod_nonneg _ (by omega), Int.emod_lt_of_pos _ hb.1, ?_⟩
  have h1 : (ce.set j (.ls true (Pen gs s1 p1 k)))[j]? = some (.ls true (Pen gs s1 p1 k)) := List.getElem?_set_self hj
  have st2 : sSet 2 (eOp fMod (eFn intD (eIdx (eVar 0) (eC (.int 2)))) (eVar 1)) ⟨[some (.rf j), some (.dat (.int b)), none], ce.set j (.ls true (Pen gs s1 p1 k))⟩ = .ok (.nx, ⟨[some (.rf j), some (.dat (.int b)), some (.dat (.int (p1 % b)))], ce.set j (.ls true (Pen gs s1 p1 k))⟩) :=
    setE (S' := ⟨[some (.rf j), some (.dat (.int b)), none], ce.set j (.ls true (Pen gs s1 p1 k))⟩) (opI (intI (idxE (varE rfl) cE (peekRf h1) rfl)) (varE rfl) (modI hb.1))
  have st3 := penSet (to := eVar 0) (S := ⟨[some (.rf j), some (.dat (.int b)), some (.dat (.int (p1 % b)))], ce.set j (.ls true (Pen gs s1 p1 k))⟩) (ds := Pen gs s1 p1 k) (q := 2) (k := 2) (opI (intI (idxE (varE (i := 0) rfl) (cE (d := .int 2)) (peekRf h1) rfl)) (varE (i := 1) rfl) (divI hb)) (varE rfl) h1 rfl
  unfold f_law_draw runF
  have e : b_law_draw ⟨[some (.rf j), some (.dat (.int b)), none], ce⟩ = .ok (.rt (.dat (.int (p1 % b))), ⟨[some (.rf j), some (.dat (.int b)), some (.dat (.int (p1 % b)))], ce.set j (.ls true (Pen gs s1 (p1 / b) k))⟩) := by
    unfold b_law_draw
    rw [seq_nx st1, seq_nx st2, seq_nx st3]
    refine (retE (varE (i := 2) rfl)).trans ?_
    show R.ok (_, (⟨_, (ce.set j (.ls true (Pen gs s1 p1 k))).set j (.ls true (Pen gs s1 (p1 / b) k))⟩ : DS)) = _
    rw [List.set_set]
  show (match b_law_draw ⟨[some (.rf j), some (.dat (.int b)), none], ce⟩ with | .ok (.rt x, S') => gc ce.length x S'.ce | .ok (.nx, S') => gc ce.length (.dat .none) S'.ce | .ok (_, _) => .bad | .exc x S' => .exc x ⟨[], S'.ce.take ce.length⟩ | .bad => .bad) = _
  rw [e]
  show R.ok (_, (⟨[], (ce.set j (.ls true (Pen gs s1 (p1 / b) k))).take ce.length⟩ : DS)) = _; rw [List.take_of_length_le (by simp)]
/-- one of a list -/
theorem one_of_ok {gs : List Int} {seat pool : Int} {k : PyData} {ce : List Cl} {j i : Nat} {ds : List PyData} {fl : Bool} (h : ce[j]? = some (.ls true (Pen gs seat pool k))) (hi : ce[i]? = some (.ls fl ds)) (hij : i ≠ j) (h0 : ds ≠ []) (hl : ds.length < 1073741824) :
    ∃ (d : PyData) (seat' pool' : Int), d ∈ ds ∧ f_law_one_of [.rf j, .rf i] ⟨[], ce⟩ = .ok (.dat d, ⟨[], ce.set j (.ls true (Pen gs seat' pool' k))⟩) := by
  have hj : j < ce.length := (List.getElem?_eq_some_iff.mp h).1
  have hp := List.length_pos_iff.mpr h0
  obtain ⟨m, s1, p1, m0, m1, hd⟩ := draw_ok (b := (ds.length : Int)) h ⟨by omega, by omega⟩
  have hm : m.toNat < ds.length := by omega
  refine ⟨ds[m.toNat], s1, p1, List.getElem_mem _, ?_⟩
  have hn : (ce.set j (.ls true (Pen gs s1 p1 k)))[i]? = some (.ls fl ds) := by rw [List.getElem?_set_ne (Ne.symm hij)]; exact hi
  have call := callE (n := 2) (den := f_law_draw) (xs := [.rf j, .dat (.int ds.length)]) (S := ⟨[some (.rf j), some (.rf i)], ce⟩) (S1 := ⟨[some (.rf j), some (.rf i)], ce⟩) (t := aCons (eVar 0) (aCons (eFn lenD (eVar 1)) (pure []))) (consE (varE (i := 0) rfl) (consE (fnE (varE (i := 1) rfl) (peekRf hi) (show lenD (.list ds) = some (.int ds.length) by simp [lenD, asSeq]) rfl) rfl)) rfl hd
  have e : b_law_one_of ⟨[some (.rf j), some (.rf i)], ce⟩ = .ok (.rt (.dat ds[m.toNat]), ⟨[some (.rf j), some (.rf i)], ce.set j (.ls true (Pen gs s1 p1 k))⟩) := by
    unfold b_law_one_of
    refine retE (idxE (varE rfl) call (peekRf hn) ?_)
    show atI ds m = _
    unfold atI ixN
    rw [if_pos m0, if_pos m1]
    exact List.getElem?_eq_getElem hm
  unfold f_law_one_of runF
  show (match b_law_one_of ⟨[some (.rf j), some (.rf i)], ce⟩ with | .ok (.rt x, S') => gc ce.length x S'.ce | .ok (.nx, S') => gc ce.length (.dat .none) S'.ce | .ok (_, _) => .bad | .exc x S' => .exc x ⟨[], S'.ce.take ce.length⟩ | .bad => .bad) = _
  rw [e]
  show R.ok (_, (⟨[], (ce.set j (.ls true (Pen gs s1 p1 k))).take ce.length⟩ : DS)) = _; rw [List.take_of_length_le (by simp)]
end MA
/-! MA3: lists of bools, comprehensions, repr: on any cells. -/
namespace MA
open PySem DL L2
theorem toDs_dat : ∀ (ds : List PyData) (S : DS), toDs (ds.map .dat) S = .ok (ds, S)
  | [], _ => rfl
  | d :: ds, S => by
    show (toD (.dat d) >>= fun d => toDs (ds.map .dat) >>= fun ds => pure (d :: ds)) S = _
    rw [bindE (show toD (.dat d) S = .ok (d, S) from rfl), bindE (toDs_dat ds S)]
    rfl
section
variable {S : DS}
theorem lstE {t : M (List VD)} {S1 : DS} {ds : List PyData} (h : t S = .ok (ds.map .dat, S1)) (hl : ds.length ≤ 1000) : eLst t S = .ok (.rf S1.ce.length, ⟨S1.sl, S1.ce ++ [(.ls true ds)]⟩) := by
  unfold eLst
  rw [bindE h, bindE (toDs_dat ds S1), bindE (show chk (decide (ds.length ≤ 1000)) S1 = .ok ((), S1) by unfold chk; rw [decide_eq_true hl]; rfl)]
  rfl
theorem addLL {ta tb : M VD} {i : Nat} {f : Bool} {xs ys : List PyData} (h1 : ta S = .ok (.rf i, S)) (h2 : tb S = .ok (.rf S.ce.length, ⟨S.sl, S.ce ++ [(.ls true ys)]⟩)) (hi : S.ce[i]? = some (.ls f xs)) (hz : xs.length + ys.length ≤ 1000) :
    eAdd ta tb S = .ok (.rf (S.ce.length + 1), ⟨S.sl, S.ce ++ [(.ls true ys)] ++ [(.ls true (xs ++ ys))]⟩) := by
  have hl : i < S.ce.length := (List.getElem?_eq_some_iff.mp hi).1
  have p1 : peekS ⟨S.sl, S.ce ++ [(.ls true ys)]⟩ (.rf i) = some (.list xs) := peekRf (b := f) (ds := xs) (by show (S.ce ++ [(.ls true ys)])[i]? = _; rw [List.getElem?_append_left hl]; exact hi)
  have p2 : peekS ⟨S.sl, S.ce ++ [(.ls true ys)]⟩ (.rf S.ce.length) = some (.list ys) := peekRf (b := true) (ds := ys) (by show (S.ce ++ [(.ls true ys)])[S.ce.length]? = _; simp)
  unfold eAdd
  rw [bindE h1, bindE h2, bindE (show peek (.rf i) _ = .ok (.list xs, _) by unfold peek; rw [p1]), bindE (show peek (.rf S.ce.length) _ = .ok (.list ys, _) by unfold peek; rw [p2])]
  unfold addD
  dsimp only
  rw [bindE (show chk (decide (xs.length + ys.length ≤ 16777216)) _ = .ok ((), _) by unfold chk; rw [decide_eq_true (by omega)]; rfl)]
  show R.ok (VD.rf (S.ce ++ [(Cl.ls true ys)]).length, _) = _
  rw [List.length_append]
  rfl
theorem plain_bools : ∀ bs : List Bool, PyData.plainAll (bs.map .bool) = true
  | [] => rfl
  | g :: gs => by simp [PyData.plainAll, PyData.plain, plain_bools gs]
theorem depth_bools : ∀ bs : List Bool, PyData.depthAll (bs.map .bool) = 0
  | [] => rfl
  | g :: gs => by simp [PyData.depthAll, PyData.depth, depth_bools gs]
theorem eqv_bools : ∀ bs : List Bool, PyData.eqvAll (bs.map .bool) (bs.map .bool) = true
  | [] => rfl
  | g :: gs => by simp [PyData.eqvAll, PyData.eqv, eqv_bools gs]
theorem ne_bools (bs : List Bool) : fNe (.list (bs.map .bool)) (.list (bs.map .bool)) = some (.bool false) := by
  unfold fNe eqD
  rw [show (PyData.list (bs.map .bool)).plain = true from plain_bools bs]
  simp [PyData.depth, depth_bools, PyData.eqv, eqv_bools]
theorem eq_ints (i j : Int) : fEq (.int i) (.int j) = some (.bool (i == j)) := by
  simp [fEq, eqD, PyData.plain, PyData.depth, PyData.eqv]
theorem eq_strs (y : Str) : fEq (.str y) (.str y) = some (.bool true) := by
  simp [fEq, eqD, PyData.plain, PyData.depth, PyData.eqv]
/-- a comprehension whose step leaves the cells alone -/
theorem lc_go {step : PyData → M (Option PyData)} {n0 : Nat} {sl0 : List (Option VD)} {f : PyData → PyData} {ce : List Cl} (hn : ce.length = n0) : ∀ (ds acc : List PyData), (∀ d ∈ ds, ∀ ce', ∃ sl', step d ⟨sl0, ce'⟩ = .ok (some (f d), ⟨sl', ce'⟩)) → acc.length + ds.length ≤ 1000 →
    lcGo step n0 sl0 ds (ce ++ [(.ls true acc)]) = some (ce ++ [(.ls true (acc ++ ds.map f))])
  | [], acc, _, _ => by simp [lcGo]
  | d :: ds, acc, hs, hz => by
    obtain ⟨sl', e⟩ := hs d List.mem_cons_self (ce ++ [(.ls true acc)])
    unfold lcGo
    rw [e]
    dsimp only
    have g : (ce ++ [(.ls true acc)])[n0]? = some (.ls true acc) := by rw [← hn]; simp
    rw [g]
    dsimp only
    have hz' : acc.length < 16777216 := by simp at hz; omega
    rw [if_pos hz', List.take_left' hn, lc_go hn ds (acc ++ [f d]) (fun x hx => hs x (List.mem_cons_of_mem _ hx)) (by simp at hz ⊢; omega)]
    simp
/-- [p == x for p in range(n)] -/
theorem comp_ok {n : Nat} {k : Nat} {at_ : Int} (hn : n ≤ 1000) (hk : (wipeD S.sl [4])[k]? = some (some (.dat (.int at_)))) (h4 : k ≠ 4) (hl : 4 < (wipeD S.sl [4]).length) : eLc [4] (srcRng (eC (.int n))) (stepC (setSl 4) tYesD (eOp fEq (eVar 4) (eVar k))) S = .ok (.rf S.ce.length, ⟨S.sl, S.ce ++ [(.ls true (((List.range n).map fun (i : Nat) => ((i : Int) == at_)).map .bool))]⟩) := by
  unfold eLc
  rw [bindE (show srcRng (eC (.int n)) S = .ok (rngD 0 n, S) by
    unfold srcRng
    rw [bindE cE]
    dsimp only
    rw [bindE (show chk _ S = .ok ((), S) by unfold chk; rw [decide_eq_true (by omega)]; rfl)]
    rfl)]
  rw [lc_go (f := fun d => match d with | .int i => .bool (i == at_) | _ => .none) rfl (rngD 0 n) [] (fun d hd ce' => ?_) (by simp [rngD]; exact hn)]
  · simp [rngD, Function.comp_def]
  · obtain ⟨i, _, rfl⟩ := List.mem_map.mp hd
    refine ⟨(wipeD S.sl [4]).set 4 (some (.dat (.int (0 + (i : Int))))), ?_⟩
    unfold stepC
    rw [bindE (show setSl 4 (.dat (.int (0 + (i : Int)))) ⟨wipeD S.sl [4], ce'⟩ = .ok ((), ⟨(wipeD S.sl [4]).set 4 (some (.dat (.int (0 + (i : Int))))), ce'⟩) from rfl), bindE (show tYesD _ = .ok (true, _) from rfl)]
    dsimp only
    rw [if_pos rfl, bindE (opB (varE (by show ((wipeD S.sl [4]).set 4 _)[4]? = _; rw [List.getElem?_set_self hl])) (varE (x := .dat (.int at_)) (by show ((wipeD S.sl [4]).set 4 _)[k]? = _; rw [List.getElem?_set_ne (Ne.symm h4)]; exact hk)) (eq_ints _ _))]
    rfl
/-- repr(t) == repr(u), both of the same data -/
theorem repr_eq {t u : M VD} {S1 S2 : DS} {x y : VD} {d : PyData} {z : Str} (h1 : t S = .ok (x, S1)) (p1 : peekS S1 x = some d) (h2 : u S1 = .ok (y, S2)) (p2 : peekS S2 y = some d) (hz : reprD d = some z) : eOp fEq (eRepr t) (eRepr u) S = .ok (.dat (.bool true), S2) := by
  have e1 : eRepr t S = .ok (.dat (.str z), S1) := by
    unfold eRepr
    rw [bindE h1, bindE (show peek x S1 = .ok (d, S1) by unfold peek; rw [p1]), bindE (show ofO (reprD d) S1 = .ok (z, S1) by unfold ofO; rw [hz])]; rfl
  have e2 : eRepr u S1 = .ok (.dat (.str z), S2) := by
    unfold eRepr
    rw [bindE h2, bindE (show peek y S2 = .ok (d, S2) by unfold peek; rw [p2]), bindE (show ofO (reprD d) S2 = .ok (z, S2) by unfold ofO; rw [hz])]; rfl
  exact opE e1 e2 rfl rfl (eq_strs z) rfl
theorem andV {t u : M VD} {S1 : DS} {r : R (VD × DS)} (h1 : t S = .ok (.dat (.bool true), S1)) (h2 : u S1 = r) : eAndD t u S = r := by
  unfold eAndD
  rw [bindE (tofE h1)]
  exact h2
end
end MA
/-! MB1: dens reckoned by simp. -/
namespace MB
open PySem DL L2 MA
section
variable {α β γ : Type} {S : DS}
@[simp] theorem pureS (x : α) (S : DS) : (pure x : M α) S = .ok (x, S) := rfl
@[simp] theorem bindS (t : M α) (f : α → M β) (S : DS) : (t >>= f) S = R.bind (t S) fun p => f p.1 p.2 := rfl
@[simp] theorem bOk (p : α) (f : α → R β) : R.bind (.ok p) f = f p := rfl
@[simp] theorem bBad (f : α → R β) : R.bind .bad f = .bad := rfl
@[simp] theorem bExc (x : Exn) (S : DS) (f : α → R β) : R.bind (.exc x S) f = .exc x S := rfl
@[simp] theorem bIte (c : Prop) [Decidable c] (a b : R α) (f : α → R β) : R.bind (if c then a else b) f = if c then R.bind a f else R.bind b f := by split <;> rfl
@[simp] theorem badS (S : DS) : (M.bad : M α) S = .bad := rfl
@[simp] theorem iteS (c : Prop) [Decidable c] (a b : M α) (S : DS) : (if c then a else b) S = if c then a S else b S := by split <;> rfl
@[simp] theorem chkS (b : Bool) (S : DS) : chk b S = if b = true then .ok ((), S) else .bad := rfl
@[simp] theorem ofOS (x : α) (S : DS) : ofO (some x) S = .ok (x, S) := rfl
@[simp] theorem ofON (S : DS) : ofO (none : Option α) S = .bad := rfl
@[simp] theorem eCS (d : PyData) (S : DS) : eC d S = .ok (.dat d, S) := rfl
@[simp] theorem peekDat (d : PyData) (S : DS) : peek (.dat d) S = .ok (d, S) := rfl
@[simp] theorem peekRf (j : Nat) (S : DS) : peek (.rf j) S = (match S.ce[j]? with | some (.ls _ ds) => .ok (.list ds, S) | _ => .bad) := by
  unfold peek peekS; dsimp only; rcases S.ce[j]? with _ | _ | _ <;> rfl
@[simp] theorem toDDat (d : PyData) (S : DS) : toD (.dat d) S = .ok (d, S) := rfl
@[simp] theorem toDRf (j : Nat) (S : DS) : toD (.rf j) S = (match S.ce[j]? with | some (.ls true ds) => .ok (.list ds, { S with ce := S.ce.set j (.ls false ds) }) | some (.ls false ds) => .ok (.list ds, S) | _ => .bad) := rfl
@[simp] theorem toDsN (S : DS) : toDs [] S = .ok ([], S) := rfl
@[simp] theorem toDsC (x : VD) (xs : List VD) : toDs (x :: xs) = (do let d ← toD x; let ds ← toDs xs; pure (d :: ds)) := rfl
@[simp] theorem eVarS (i : Nat) (S : DS) : eVar i S = (match S.sl[i]? with | some (some x) => .ok (x, S) | _ => .bad) := rfl
@[simp] theorem setSlS (i : Nat) (x : VD) (S : DS) : setSl i x S = .ok ((), { S with sl := S.sl.set i (some x) }) := rfl
@[simp] theorem newLS (ds : List PyData) (S : DS) : newL ds S = .ok (.rf S.ce.length, { S with ce := S.ce ++ [(.ls true ds)] }) := rfl
@[simp] theorem eCallS (n : Nat) (den : Fd) (t : M (List VD)) (S : DS) : eCall n den t S = R.bind (t S) fun p => R.bind (chk (decide (p.1.length = n)) p.2) fun q => match den p.1 ⟨[], q.2.ce⟩ with
    | .ok (x, S') => .ok (x, ⟨q.2.sl, S'.ce⟩)
    | .exc x S' => .exc x ⟨q.2.sl, S'.ce⟩
    | .bad => .bad := rfl
/-- the end of a def -/
def endF (n : Nat) (r : R (Fl × DS)) : R (VD × DS) := match r with
  | .ok (.rt x, S') => gc n x S'.ce
  | .ok (.nx, S') => gc n (.dat .none) S'.ce
  | .ok (_, _) => .bad
  | .exc x S' => .exc x ⟨[], S'.ce.take n⟩
  | .bad => .bad
@[simp] theorem runFS (N : Nat) (body : MS) (xs : List VD) (S : DS) : runF N body xs S = endF S.ce.length (body ⟨xs.map some ++ List.replicate (N - xs.length) none, S.ce⟩) := by
  unfold runF endF
  cases body ⟨xs.map some ++ List.replicate (N - xs.length) none, S.ce⟩ with
  | ok p => obtain ⟨f, S'⟩ := p; cases f <;> rfl
  | exc x S' => rfl
  | bad => rfl
@[simp] theorem endRt (n : Nat) (x : VD) (S : DS) : endF n (.ok (.rt x, S)) = gc n x S.ce := rfl
@[simp] theorem endNx (n : Nat) (S : DS) : endF n (.ok (.nx, S)) = gc n (.dat .none) S.ce := rfl
@[simp] theorem endEx (n : Nat) (x : Exn) (S : DS) : endF n (.exc x S) = .exc x ⟨[], S.ce.take n⟩ := rfl
@[simp] theorem endBad (n : Nat) : endF n .bad = .bad := rfl
@[simp] theorem endIte (n : Nat) (c : Prop) [Decidable c] (a b : R (Fl × DS)) : endF n (if c then a else b) = if c then endF n a else endF n b := by split <;> rfl
@[simp] theorem gcDat (n : Nat) (d : PyData) (ce : Ce) : gc n (.dat d) ce = .ok (.dat d, ⟨[], ce.take n⟩) := rfl
@[simp] theorem gcRf (n j : Nat) (ce : Ce) : gc n (.rf j) ce = (if j < n then .ok (.rf j, ⟨[], ce.take n⟩) else match ce[j]? with | some c => .ok (.rf n, ⟨[], ce.take n ++ [c]⟩) | none => .bad) := rfl
@[simp] theorem takeSelf (ce : Ce) : ce.take ce.length = ce := List.take_length
@[simp] theorem takeApp (ce more : Ce) : (ce ++ more).take ce.length = ce := List.take_left' rfl
@[simp] theorem getNew (ce : Ce) (c : Cl) : (ce ++ [c])[ce.length]? = some c := by simp
@[simp] theorem seqS (t u : MS) (S : DS) : sSeq t u S = R.bind (t S) fun p => (match p.1 with | .nx => u | f => pure f) p.2 := rfl
@[simp] theorem scalI (i : Int) (S : DS) : DL.scal (.int i) S = .ok (.dat (.int i), S) := rfl
@[simp] theorem scalB (b : Bool) (S : DS) : DL.scal (.bool b) S = .ok (.dat (.bool b), S) := rfl
@[simp] theorem scalN (S : DS) : DL.scal .none S = .ok (.dat .none, S) := rfl
@[simp] theorem scalT (x : Str) (S : DS) : DL.scal (.str x) S = .ok (.dat (.str x), S) := rfl
@[simp] theorem scalIte (c : Prop) [Decidable c] (a b : PyData) : DL.scal (if c then a else b) = if c then DL.scal a else DL.scal b := by split <;> rfl
@[simp] theorem sRetS (t : M VD) (S : DS) : sRet t S = R.bind (t S) fun p => .ok (.rt p.1, p.2) := rfl
@[simp] theorem sSetS (i : Nat) (t : M VD) (S : DS) : sSet i t S = R.bind (t S) fun p => .ok (.nx, ⟨p.2.sl.set i (some p.1), p.2.ce⟩) := rfl
@[simp] theorem sIfS (c : M Bool) (t u : MS) (S : DS) : sIf c t u S = R.bind (c S) fun p => if p.1 = true then t p.2 else u p.2 := by
  show R.bind (c S) (fun p => (if p.1 = true then t else u) p.2) = _
  congr 1; funext p; exact iteS _ _ _ _
@[simp] theorem sExpS (t : M VD) (S : DS) : sExp t S = R.bind (t S) fun p => .ok (.nx, p.2) := rfl
@[simp] theorem sNilS (S : DS) : sNil S = .ok (.nx, S) := rfl
@[simp] theorem sAsgS (t : M VD) (g : VD → M Unit) (S : DS) : sAsg t g S = R.bind (t S) fun p => noX (g p.1) p.2 := rfl
@[simp] theorem noXS (t : M Unit) (S : DS) : noX t S = match t S with | .ok p => .ok (.nx, p.2) | _ => .bad := rfl
@[simp] theorem sForS (src : M (List PyData)) (g : VD → M Unit) (b : MS) (S : DS) : sFor src g b S = R.bind (src S) fun p => forD g b p.1 p.2 := rfl
@[simp] theorem sParS (i j : Nat) (t : M (List VD)) (S : DS) : sPar i j t S = R.bind (t S) fun p => (match p.1 with
  | [x, y] => (.ok (.nx, ⟨(p.2.sl.set i (some x)).set j (some y), p.2.ce⟩) : R (Fl × DS))
  | _ => .bad) := by
  show R.bind (t S) (fun p => (match p.1 with | [x, y] => (do setSl i x; setSl j y; pure .nx : MS) | _ => M.bad) p.2) = _
  congr 1; funext p
  obtain ⟨vs, S'⟩ := p
  match vs with
  | [] => rfl
  | [_] => rfl
  | [_, _] => rfl
  | _ :: _ :: _ :: _ => rfl
@[simp] theorem aConsS (a : M VD) (t : M (List VD)) (S : DS) : aCons a t S = R.bind (a S) fun p => R.bind (t p.2) fun q => .ok (p.1 :: q.1, q.2) := rfl
@[simp] theorem eLstS (t : M (List VD)) (S : DS) : eLst t S = R.bind (t S) fun p => R.bind (toDs p.1 p.2) fun q => R.bind (chk (decide (q.1.length ≤ 1000)) q.2) fun z => newL q.1 z.2 := rfl
@[simp] theorem eTupS (t : M (List VD)) (S : DS) : eTup t S = R.bind (t S) fun p => R.bind (toDs p.1 p.2) fun q => R.bind (chk (decide (q.1.length ≤ 1000)) q.2) fun z => .ok (.dat (.tuple q.1), z.2) := rfl
@[simp] theorem toDsCS (x : VD) (xs : List VD) (S : DS) : toDs (x :: xs) S = R.bind (toD x S) fun p => R.bind (toDs xs p.2) fun q => .ok (p.1 :: q.1, q.2) := rfl
@[simp] theorem eOpS (f : PyData → PyData → Option PyData) (a b : M VD) (S : DS) : eOp f a b S = R.bind (a S) fun p => R.bind (b p.2) fun q => R.bind (peek p.1 q.2) fun d => R.bind (peek q.1 d.2) fun e => R.bind (ofO (f d.1 e.1) e.2) fun r => DL.scal r.1 r.2 := rfl
@[simp] theorem eAddS (a b : M VD) (S : DS) : eAdd a b S = R.bind (a S) fun p => R.bind (b p.2) fun q => R.bind (peek p.1 q.2) fun d => R.bind (peek q.1 d.2) fun e => addD d.1 e.1 e.2 := rfl
@[simp] theorem eIdxS (a b : M VD) (S : DS) : eIdx a b S = R.bind (a S) fun p => R.bind (b p.2) fun q => R.bind (peek p.1 q.2) fun d => R.bind (peek q.1 d.2) fun e => R.bind (ofO (idxD d.1 e.1) e.2) fun r => .ok (.dat r.1, r.2) := rfl
@[simp] theorem eFnS (f : PyData → Option PyData) (a : M VD) (S : DS) : eFn f a S = R.bind (a S) fun p => R.bind (peek p.1 p.2) fun d => R.bind (ofO (f d.1) d.2) fun r => DL.scal r.1 r.2 := rfl
@[simp] theorem eTyIsS (T : String) (a : M VD) (S : DS) : eTyIs T a S = R.bind (a S) fun p => R.bind (peek p.1 p.2) fun d => .ok (.dat (.bool (decide (tyName d.1 = T))), d.2) := rfl
@[simp] theorem eIsiS (T : String) (a : M VD) (S : DS) : eIsi T a S = R.bind (a S) fun p => R.bind (peek p.1 p.2) fun d => R.bind (ofO (isT T d.1) d.2) fun r => .ok (.dat (.bool r.1), r.2) := rfl
@[simp] theorem eTupOfS (a : M VD) (S : DS) : eTupOf a S = R.bind (a S) fun p => R.bind (peek p.1 p.2) fun d => R.bind (ofO (asSeq d.1) d.2) fun r => .ok (.dat (.tuple r.1), r.2) := rfl
@[simp] theorem eLstOfS (a : M VD) (S : DS) : eLstOf a S = R.bind (a S) fun p => R.bind (peek p.1 p.2) fun d => R.bind (ofO (asSeq d.1) d.2) fun r => newL r.1 r.2 := rfl
@[simp] theorem eRevS (a : M VD) (S : DS) : eRev a S = R.bind (a S) fun p => R.bind (peek p.1 p.2) fun d => R.bind (ofO (asSeq d.1) d.2) fun r => mkSeq d.1 r.1.reverse r.2 := rfl
@[simp] theorem eReprAS (a : M VD) (S : DS) : eReprA a S = R.bind (a S) fun p => R.bind (peek p.1 p.2) fun d => R.bind (ofO (reprA d.1) d.2) fun r => .ok (.dat (.str r.1), r.2) := rfl
@[simp] theorem eSetOfS (a : M VD) (S : DS) : eSetOf a S = R.bind (a S) fun p => R.bind (peek p.1 p.2) fun d => R.bind (ofO (asSeq d.1) d.2) fun r => R.bind (chk (r.1.all setEl && decide (r.1.length < 64)) r.2) fun z => .ok (.st r.1, z.2) := rfl
@[simp] theorem eSlS (a : M VD) (l h : M (Option Int)) (S : DS) : eSl a l h S = R.bind (a S) fun p => R.bind (l p.2) fun q => R.bind (h q.2) fun z => slV p.1 q.1 z.1 z.2 := rfl
@[simp] theorem oNoneS (S : DS) : oNone S = .ok (none, S) := rfl
@[simp] theorem eIfS (c : M Bool) (t u : M VD) (S : DS) : eIf c t u S = R.bind (c S) fun p => if p.1 = true then t p.2 else u p.2 := by
  show R.bind (c S) (fun p => (if p.1 = true then t else u) p.2) = _
  congr 1; funext p; exact iteS _ _ _ _
@[simp] theorem tOfS (t : M VD) (S : DS) : tOf t S = R.bind (t S) fun p => (match p.1 with
  | .dat (.bool b) => (.ok (b, p.2) : R (Bool × DS))
  | _ => .bad) := by
  show R.bind (t S) (fun p => (match p.1 with | .dat (.bool b) => (pure b : M Bool) | _ => M.bad) p.2) = _
  congr 1; funext p
  obtain ⟨x, S'⟩ := p
  cases x with
  | dat d => cases d <;> rfl
  | _ => rfl
@[simp] theorem tAndS (t u : M Bool) (S : DS) : tAndD t u S = R.bind (t S) fun p => if p.1 = true then u p.2 else .ok (false, p.2) := by
  show R.bind (t S) (fun p => (if p.1 = true then u else pure false) p.2) = _
  congr 1; funext p; exact iteS _ _ _ _
@[simp] theorem tOrS (t u : M Bool) (S : DS) : tOrD t u S = R.bind (t S) fun p => if p.1 = true then .ok (true, p.2) else u p.2 := by
  show R.bind (t S) (fun p => (if p.1 = true then pure true else u) p.2) = _
  congr 1; funext p; exact iteS _ _ _ _
@[simp] theorem tNotS (t : M Bool) (S : DS) : tNotD t S = R.bind (t S) fun p => .ok (!p.1, p.2) := rfl
@[simp] theorem eAndS (t u : M VD) (S : DS) : eAndD t u S = R.bind (tOf t S) fun p => if p.1 = true then u p.2 else .ok (.dat (.bool false), p.2) := by
  show R.bind (tOf t S) (fun p => (if p.1 = true then u else pure (.dat (.bool false))) p.2) = _
  congr 1; funext p; exact iteS _ _ _ _
@[simp] theorem eOrS (t u : M VD) (S : DS) : eOrD t u S = R.bind (tOf t S) fun p => if p.1 = true then .ok (.dat (.bool true), p.2) else u p.2 := by
  show R.bind (tOf t S) (fun p => (if p.1 = true then pure (.dat (.bool true)) else u) p.2) = _
  congr 1; funext p; exact iteS _ _ _ _
@[simp] theorem eNotS (t : M VD) (S : DS) : eNotD t S = R.bind (tOf t S) fun p => .ok (.dat (.bool (!p.1)), p.2) := rfl
@[simp] theorem srcSeqS (t : M VD) (S : DS) : srcSeq t S = R.bind (t S) fun p => R.bind (toD p.1 p.2) fun d => ofO (asSeq d.1) d.2 := rfl
@[simp] theorem tYesS (S : DS) : tYesD S = .ok (true, S) := rfl
@[simp] theorem asSeqT (ds : List PyData) : asSeq (.tuple ds) = some ds := rfl
@[simp] theorem asSeqL (ds : List PyData) : asSeq (.list ds) = some ds := rfl
@[simp] theorem gNilS (S : DS) : gNilD [] S = .ok ((), S) := rfl
@[simp] theorem eChainS (f g : PyData → PyData → Option PyData) (a b c : M VD) (S : DS) : eChain f g a b c S = R.bind (a S) fun p => R.bind (b p.2) fun q => R.bind (peek p.1 q.2) fun d => R.bind (peek q.1 d.2) fun e => R.bind (ofO (f d.1 e.1) e.2) fun r => (match r.1 with
  | .bool true => R.bind (c r.2) fun z => R.bind (peek q.1 z.2) fun e' => R.bind (peek z.1 e'.2) fun d' => R.bind (ofO (g e'.1 d'.1) d'.2) fun r' => DL.scal r'.1 r'.2
  | .bool false => .ok (.dat (.bool false), r.2)
  | _ => .bad) := by
  show R.bind (a S) (fun p => R.bind (b p.2) fun q => R.bind (peek p.1 q.2) fun d => R.bind (peek q.1 d.2) fun e => R.bind (ofO (f d.1 e.1) e.2) fun r => _) = _
  congr 1; funext p; congr 1; funext q; congr 1; funext d; congr 1; funext e; congr 1; funext r
  obtain ⟨r, S'⟩ := r
  cases r with
  | bool b => cases b <;> rfl
  | _ => rfl
@[simp] theorem gConsS (g : VD → M Unit) (gs : List PyData → M Unit) (d : PyData) (ds : List PyData) (S : DS) : gConsD g gs (d :: ds) S = R.bind (g (.dat d) S) fun p => gs ds p.2 := rfl
@[simp] theorem gTupS (n : Nat) (gs : List PyData → M Unit) (ds : List PyData) (S : DS) : gTupD n gs (.dat (.tuple ds)) S = R.bind (chk (decide (ds.length = n)) S) fun p => gs ds p.2 := rfl
@[simp] theorem srcEnumS (t : M VD) (S : DS) : srcEnumT t S = R.bind (t S) fun p => (match p.1 with
  | .dat (.tuple ds) => (.ok (enD ds, p.2) : R (List PyData × DS))
  | _ => .bad) := by
  show R.bind (t S) (fun p => (match p.1 with | .dat (.tuple ds) => (pure (enD ds) : M (List PyData)) | _ => M.bad) p.2) = _
  congr 1; funext p
  obtain ⟨x, S'⟩ := p
  cases x with
  | dat d => cases d <;> rfl
  | _ => rfl
@[simp] theorem eLcS (vs : List Nat) (src : M (List PyData)) (step : PyData → M (Option PyData)) (S : DS) : eLc vs src step S = R.bind (src S) fun p => (match lcGo step p.2.ce.length (wipeD p.2.sl vs) p.1 (p.2.ce ++ [(.ls true [])]) with
  | some ce => (.ok (.rf p.2.ce.length, ⟨p.2.sl, ce⟩) : R (VD × DS))
  | none => .bad) := rfl
@[simp] theorem stepCS (g : VD → M Unit) (tt : M Bool) (te : M VD) (d : PyData) (S : DS) : stepC g tt te d S = R.bind (g (.dat d) S) fun p => R.bind (tt p.2) fun q => if q.1 = true then R.bind (te q.2) fun y => R.bind (toD y.1 y.2) fun e => .ok (some e.1, e.2) else .ok (none, q.2) := by
  show R.bind (g (.dat d) S) (fun p => R.bind (tt p.2) fun q => (if q.1 = true then _ else _ : M (Option PyData)) q.2) = _
  congr 1; funext p; congr 1; funext q
  obtain ⟨b, S'⟩ := q
  cases b <;> rfl
/-- a comprehension whose turns leave the cells alone (but for new ones) -/
theorem lc_pure {step : PyData → M (Option PyData)} {n0 : Nat} {sl0 : List (Option VD)} {o : PyData → Option PyData} {ce : Ce} (hn : ce.length = n0) : ∀ (ds acc : List PyData), (∀ d ∈ ds, ∀ ce', ∃ sl' more, step d ⟨sl0, ce'⟩ = .ok (o d, ⟨sl', ce' ++ more⟩)) → acc.length + ds.length ≤ 16777215 →
    lcGo step n0 sl0 ds (ce ++ [(.ls true acc)]) = some (ce ++ [(.ls true (acc ++ ds.filterMap o))])
  | [], acc, _, _ => by simp [lcGo]
  | d :: ds, acc, hs, hz => by
    obtain ⟨sl', more, e⟩ := hs d List.mem_cons_self (ce ++ [(.ls true acc)])
    unfold lcGo
    rw [e]
    dsimp only
    have g : (ce ++ [(.ls true acc)] ++ more)[n0]? = some (.ls true acc) := by rw [← hn]; simp
    rw [g]
    dsimp only
    have tk : (ce ++ [(Cl.ls true acc)] ++ more).take n0 = ce := by rw [List.append_assoc]; exact List.take_left' hn
    have hz' : acc.length < 16777216 := by simp at hz; omega
    cases ho : o d with
    | none =>
      dsimp only
      rw [tk, lc_pure hn ds acc (fun x hx => hs x (List.mem_cons_of_mem _ hx)) (by simp at hz ⊢; omega), List.filterMap_cons_none ho]
    | some y =>
      dsimp only
      rw [if_pos hz', tk, lc_pure hn ds (acc ++ [y]) (fun x hx => hs x (List.mem_cons_of_mem _ hx)) (by simp at hz ⊢; omega), List.filterMap_cons_some ho]
      simp
end
end MB
/-! MB2: how long a shown datum is. -/
namespace MB
open PySem DL L2 MA
def okStrs : List Str := ["", "0", "put", "kept", "take", "turn", "within", "same", "settled", "untouched", "mend", "shown", "broken", "drop", "keeps", "leads", "spares", "form", "claim", "paper", "hit", "other", "class", "limit", "arity", "parts"]
mutual
def okv : PyData → Bool
  | .none | .bool _ => true
  | .int i => decide (i.natAbs < 10 ^ 50)
  | .str x => okStrs.contains x
  | .list ds | .tuple ds => okvs ds
  | .dict kvs => kvs.isEmpty
def okvs : List PyData → Bool
  | [] => true
  | d :: ds => okv d && okvs ds
end
mutual
def sz : PyData → Nat
  | .list ds | .tuple ds => szs ds + 1
  | .none | .bool _ | .int _ | .str _ | .dict _ => 1
def szs : List PyData → Nat
  | [] => 0
  | d :: ds => sz d + szs ds
end
theorem listText_le (ts : List Str) : (listText ts).length ≤ piled ts + 2 := by
  unfold listText
  rw [strLen_append]
  have e1 : ((("]" : String) : Str)).length = 1 := rfl
  cases ts with
  | nil => simp [textFrom, piled]; decide
  | cons t ts =>
    show (textFrom 1 _ ts).length + _ ≤ _
    rw [textFrom_length_pos ts 1 _ (by decide), strLen_append, strLen_append, e1, piled_cons]
    have q1 : (((("[" : String)) : Str)).length = 1 := rfl
    have q2 : (Str.ofString (if 0 > 0 then ", " else "")).length = 0 := rfl
    rw [q1, q2]
    omega
theorem tupleText_le (ts : List Str) : (tupleText ts).length ≤ piled ts + 3 := by
  unfold tupleText; rw [strLen_append, strLen_append]
  have q1 : (((("(" : String)) : Str)).length = 1 := rfl
  have q2 : (Str.ofString (if (ts.length == 1) = true then ",)" else ")")).length ≤ 2 := by split <;> decide
  by_cases h : ts = []
  · subst h; rw [q1]; show 1 + 0 + _ ≤ _; simp [piled] at *; omega
  · (have := join_length_add ts h)
    rw [q1]; omega
theorem int_len {i : Int} (h : i.natAbs < 10 ^ 50) : (PyData.shown (.int i)).length ≤ 51 := by
  cases i with
  | ofNat m => exact Nat.le_trans (PyProof.Rows.toString_length_le (k := 50) (by exact Int.natCast_nonneg m) (by decide) (Int.ofNat_lt.mpr h)) (by decide)
  | negSucc m =>
    have h' : m + 1 < 10 ^ 50 := h
    have := PyProof.Rows.toString_length_le (v := ((m + 1 : Nat) : Int)) (k := 50) (by omega) (by decide) (by exact_mod_cast h')
    have e : toString (Int.negSucc m) = "-" ++ toString ((m + 1 : Nat) : Int) := rfl
    show (Str.ofString (toString (Int.negSucc m))).length ≤ 51
    rw [ofString_length] at this ⊢
    rw [e, String.length_append]
    have q : ("-" : String).length = 1 := rfl
    omega
theorem str_len {x : Str} (h : okStrs.contains x = true) : (PyData.shown (.str x)).length ≤ 20 := by
  have : ∀ y ∈ okStrs, (reprText y).length ≤ 20 := by decide +kernel
  exact this x (List.contains_iff_mem.mp h)
theorem log_ok {n : Nat} (h : n < 10 ^ 50) : n.log2 < 1920 := by
  by_cases e : n = 0
  · rw [e]; decide
  · exact (Nat.log2_lt e).mpr (Nat.lt_of_lt_of_le h (Nat.le_trans (show 10 ^ 50 ≤ 2 ^ 200 by decide) (Nat.pow_le_pow_right (by decide) (by decide))))
mutual
theorem shown_le : ∀ d : PyData, okv d = true → d.showable = true ∧ d.shown.length + 2 ≤ 60 * sz d
  | .none, _ => ⟨rfl, by show (Str.ofString "None").length + 2 ≤ 60 * 1; decide⟩
  | .bool b, _ => ⟨rfl, by simp only [PyData.shown, sz]; cases b <;> decide⟩
  | .int i, h => by
    simp only [okv, decide_eq_true_eq] at h
    refine ⟨by simp only [PyData.showable, decide_eq_true_eq]; exact log_ok h, ?_⟩
    have := int_len h
    simp only [sz]; omega
  | .str x, h => by
    simp only [okv] at h
    have := str_len h
    exact ⟨rfl, by simp only [sz]; omega⟩
  | .list ds, h => by
    simp only [okv] at h
    obtain ⟨a, b⟩ := shown_les ds h
    refine ⟨by simp only [PyData.showable]; exact a, ?_⟩
    simp only [PyData.shown, sz]
    have := listText_le (PyData.shownAll ds)
    omega
  | .tuple ds, h => by
    simp only [okv] at h
    obtain ⟨a, b⟩ := shown_les ds h
    refine ⟨by simp only [PyData.showable]; exact a, ?_⟩
    simp only [PyData.shown, sz]
    have := tupleText_le (PyData.shownAll ds)
    omega
  | .dict kvs, h => by
    simp only [okv, List.isEmpty_iff] at h
    subst h
    exact ⟨rfl, by show (dictText []).length + 2 ≤ 60 * 1; decide⟩
theorem shown_les : ∀ ds : List PyData, okvs ds = true → PyData.showableAll ds = true ∧ piled (PyData.shownAll ds) ≤ 60 * szs ds
  | [], _ => ⟨rfl, by simp [PyData.shownAll, piled]⟩
  | d :: ds, h => by
    simp only [okvs, Bool.and_eq_true] at h
    obtain ⟨a, b⟩ := shown_le d h.1
    obtain ⟨c, e⟩ := shown_les ds h.2
    refine ⟨by simp [PyData.showableAll, a, c], ?_⟩
    simp only [PyData.shownAll, szs]
    rw [piled_cons]
    omega
end
theorem repr_ok {d : PyData} (h : okv d = true) (k : d.depth ≤ 100) (l : sz d ≤ 200000) : ∃ y, reprA d = some y := by
  obtain ⟨a, b⟩ := shown_le d h
  refine ⟨d.shown, ?_⟩
  unfold reprA
  rw [a, decide_eq_true k, decide_eq_true (show d.shown.length ≤ 16777216 by omega)]
  rfl
end MB
/-! MB3: what draws keep. -/
namespace MB
open PySem DL L2 MA
/-- a pen stands in cell j; its things are ks -/
def Pn (j : Nat) (ks : List Int) (ce : Ce) : Prop := ∃ (gs : List Int) (s p : Int), ce[j]? = some (.ls true (Pen gs s p (.list (ks.map .int))))
/-- only the pen has changed -/
def Kp (j : Nat) (ks : List Int) (ce ce' : Ce) : Prop := ce'.length = ce.length ∧ (∀ i, i ≠ j → ce'[i]? = ce[i]?) ∧ Pn j ks ce'
theorem Pn.lt {j : Nat} {ks : List Int} {ce : Ce} (h : Pn j ks ce) : j < ce.length := by
  obtain ⟨gs, s, p, e⟩ := h; exact (List.getElem?_eq_some_iff.mp e).1
theorem Kp.pn {j : Nat} {ks : List Int} {ce ce' : Ce} (h : Kp j ks ce ce') : Pn j ks ce' := h.2.2
theorem Kp.refl {j : Nat} {ks : List Int} {ce : Ce} (h : Pn j ks ce) : Kp j ks ce ce := ⟨rfl, fun _ _ => rfl, h⟩
theorem Kp.trans {j : Nat} {ks ks' : List Int} {a b c : Ce} (h : Kp j ks a b) (k : Kp j ks' b c) : Kp j ks' a c := ⟨k.1.trans h.1, fun i hi => (k.2.1 i hi).trans (h.2.1 i hi), k.2.2⟩
theorem Kp.of_set {j : Nat} {ks : List Int} {ce : Ce} {gs : List Int} {s p : Int} (h : j < ce.length) : Kp j ks ce (ce.set j (.ls true (Pen gs s p (.list (ks.map .int))))) :=
  ⟨by simp, fun i hi => List.getElem?_set_ne (Ne.symm hi), gs, s, p, List.getElem?_set_self h⟩
/-- new cells behind -/
theorem Pn.app {j : Nat} {ks : List Int} {ce : Ce} (h : Pn j ks ce) (more : Ce) : Pn j ks (ce ++ more) := by
  obtain ⟨gs, s, p, e⟩ := h
  exact ⟨gs, s, p, by rw [List.getElem?_append_left (List.getElem?_eq_some_iff.mp e).1]; exact e⟩
theorem Kp.cut {j : Nat} {ks : List Int} {ce more ce' : Ce} (h : Kp j ks (ce ++ more) ce') (hj : j < ce.length) : Kp j ks ce (ce'.take ce.length) := by
  refine ⟨by have := h.1; simp at this; simp; omega, fun i hi => ?_, ?_⟩
  · by_cases hl : i < ce.length
    · rw [List.getElem?_take_of_lt hl, h.2.1 i hi, List.getElem?_append_left hl]
    · rw [List.getElem?_eq_none (by simp; omega), List.getElem?_eq_none (by omega)]
  · obtain ⟨gs, s, p, e⟩ := h.2.2
    exact ⟨gs, s, p, by rw [List.getElem?_take_of_lt hj]; exact e⟩
/-- the same, with what stands behind -/
theorem Kp.split {j : Nat} {ks : List Int} {ce more ce' : Ce} (h : Kp j ks (ce ++ more) ce') (hj : j < ce.length) : ∃ ce1, ce' = ce1 ++ more ∧ Kp j ks ce ce1 := by
  refine ⟨ce'.take ce.length, ?_, h.cut hj⟩
  apply List.ext_getElem?
  intro i
  by_cases hl : i < ce.length
  · rw [List.getElem?_append_left (by have := h.1; simp at this; simp; omega), List.getElem?_take_of_lt hl]
  · have hne : i ≠ j := by omega
    have e1 : (ce'.take ce.length).length = ce.length := by have := h.1; simp at this; simp; omega
    rw [h.2.1 i hne, List.getElem?_append_right (by omega), List.getElem?_append_right (by omega), e1]
/-- a draw -/
theorem draw_sp {j : Nat} {ks : List Int} {ce : Ce} {b : Int} (h : Pn j ks ce) (hb : 0 < b ∧ b < 1073741824) : ∃ (d : Int) (ce' : Ce), MA.f_law_draw [.rf j, .dat (.int b)] ⟨[], ce⟩ = .ok (.dat (.int d), ⟨[], ce'⟩) ∧ 0 ≤ d ∧ d < b ∧ Kp j ks ce ce' := by
  obtain ⟨gs, s, p, e⟩ := h
  obtain ⟨d, s', p', h1, h2, e'⟩ := draw_ok e hb
  exact ⟨d, _, e', h1, h2, Kp.of_set (List.getElem?_eq_some_iff.mp e).1⟩
theorem one_sp {j i : Nat} {ks : List Int} {ce : Ce} {fl : Bool} {ds : List PyData} (h : Pn j ks ce) (hi : ce[i]? = some (.ls fl ds)) (hij : i ≠ j) (h0 : ds ≠ []) (hl : ds.length < 1073741824) : ∃ (d : PyData) (ce' : Ce), MA.f_law_one_of [.rf j, .rf i] ⟨[], ce⟩ = .ok (.dat d, ⟨[], ce'⟩) ∧ d ∈ ds ∧ Kp j ks ce ce' := by
  obtain ⟨gs, s, p, e⟩ := h
  obtain ⟨d, s', p', h1, e'⟩ := one_of_ok e hi hij h0 hl
  exact ⟨d, _, e', h1, Kp.of_set (List.getElem?_eq_some_iff.mp e).1⟩
/-- a comprehension that draws -/
theorem lc_draw {step : PyData → M (Option PyData)} {j : Nat} {ks : List Int} {sl0 : List (Option VD)} {T : PyData → Prop} {n0 : Nat} (hj : j < n0)
    (hs : ∀ d ce, Pn j ks ce → n0 ≤ ce.length → ∃ e sl' ce' more, step d ⟨sl0, ce⟩ = .ok (some e, ⟨sl', ce' ++ more⟩) ∧ Kp j ks ce ce' ∧ T e) : ∀ (ds acc : List PyData) (ce : Ce), ce.length = n0 → Pn j ks ce → acc.length + ds.length ≤ 16777215 →
    ∃ es ce', lcGo step n0 sl0 ds (ce ++ [(.ls true acc)]) = some (ce' ++ [(.ls true (acc ++ es))]) ∧ Kp j ks ce ce' ∧ (∀ e ∈ es, T e) ∧ es.length = ds.length
  | [], acc, ce, hn, hp, _ => ⟨[], ce, by simp [lcGo], Kp.refl hp, fun _ z => (nomatch z), rfl⟩
  | d :: ds, acc, ce, hn, hp, hz => by
    obtain ⟨e, sl', ce1, more, he, hk, ht⟩ := hs d (ce ++ [(.ls true acc)]) (hp.app _) (by simp; omega)
    obtain ⟨ce2, rfl, hk2⟩ := hk.split (by omega)
    have hl2 : ce2.length = n0 := by rw [hk2.1, hn]
    obtain ⟨es, ce', h1, h2, h3, h4⟩ := lc_draw hj hs ds (acc ++ [e]) ce2 hl2 hk2.pn (by simp at hz ⊢; omega)
    refine ⟨e :: es, ce', ?_, hk2.trans h2, fun x hx => ?_, by simp [h4]⟩
    · unfold lcGo
      rw [he]
      dsimp only
      have g : (ce2 ++ [(.ls true acc)] ++ more)[n0]? = some (.ls true acc) := by rw [← hl2]; simp
      rw [g]
      dsimp only
      have tk : (ce2 ++ [(Cl.ls true acc)] ++ more).take n0 = ce2 := by rw [List.append_assoc]; exact List.take_left' hl2
      rw [if_pos (by simp at hz; omega), tk, h1]
      simp
    · rcases List.mem_cons.mp hx with rfl | hx
      · exact ht
      · exact h3 x hx
end MB
/-! MB4: more dens reckoned by simp; comprehensions with two fors that draw nothing. -/
namespace MB
open PySem DL L2 MA
@[simp] theorem eTyNotS (T : String) (a : M VD) (S : DS) : eTyNot T a S = R.bind (a S) fun p => R.bind (peek p.1 p.2) fun d => .ok (.dat (.bool (!decide (tyName d.1 = T))), d.2) := rfl
@[simp] theorem eMulS (a b : M VD) (S : DS) : eMul a b S = R.bind (a S) fun p => R.bind (b p.2) fun q => R.bind (peek p.1 q.2) fun d => R.bind (peek q.1 d.2) fun e => mulD d.1 e.1 e.2 := rfl
@[simp] theorem eExtAS (o t : M VD) (S : DS) : eExtA o t S = R.bind (o S) fun p => R.bind (isRf p.1 p.2) fun z => R.bind (t z.2) fun q => extA p.1 q.1 q.2 := rfl
@[simp] theorem eSetAS (a : M VD) (S : DS) : eSetA a S = R.bind (a S) fun p => R.bind (peek p.1 p.2) fun d => R.bind (ofO (asSeq d.1) d.2) fun r => setAD r.1 r.2 := rfl
@[simp] theorem srcZipS (a b : M VD) (S : DS) : srcZip a b S = R.bind (a S) fun p => R.bind (b p.2) fun q => R.bind (toD p.1 q.2) fun d => R.bind (toD q.1 d.2) fun e => ofO (pairSeq d.1 e.1) e.2 := by
  show R.bind (R.bind (a S) fun p => R.bind (R.bind (b p.2) fun q => .ok ([q.1], q.2)) fun q => .ok (p.1 :: q.1, q.2)) _ = _
  cases a S with
  | ok p =>
    simp only [bOk]
    cases b p.2 with
    | ok q =>
      show R.bind (R.bind (toD p.1 q.2) fun d => R.bind (R.bind (toD q.1 d.2) fun e => .ok ([e.1], e.2)) fun r => .ok (d.1 :: r.1, r.2)) _ = R.bind (toD p.1 q.2) fun d => R.bind (toD q.1 d.2) fun e => ofO (pairSeq d.1 e.1) e.2
      cases toD p.1 q.2 with
      | ok d =>
        simp only [bOk]
        cases toD q.1 d.2 <;> rfl
      | exc _ _ => rfl
      | bad => rfl
    | exc _ _ => rfl
    | bad => rfl
  | exc _ _ => rfl
  | bad => rfl
@[simp] theorem sParVS (n : Nat) (ta : M (List VD)) (gs : List VD → M Unit) (S : DS) : sParV n ta gs S = R.bind (ta S) fun p => if p.1.length = n ∧ n ≤ 1000 then (match gs p.1 p.2 with
    | .ok q => (.ok (.nx, q.2) : R (Fl × DS))
    | _ => .bad) else .bad := rfl
@[simp] theorem gNilVS (S : DS) : gNilV [] S = .ok ((), S) := rfl
@[simp] theorem gConsVS (g : VD → M Unit) (gs : List VD → M Unit) (x : VD) (xs : List VD) (S : DS) : gConsV g gs (x :: xs) S = R.bind (g x S) fun p => gs xs p.2 := rfl
@[simp] theorem eC2S (c0 : Cl) (acc : Cl → PyData → Option Cl) (vs vs1 : List Nat) (src : M (List PyData)) (pre : PyData → M (Option (List PyData))) (step : PyData → M (Option PyData)) (S : DS) :
    eC2 c0 acc vs vs1 src pre step S = R.bind (src S) fun p => (match go2 acc pre step p.2.ce.length (wipeD p.2.sl vs) vs1 p.1 (p.2.ce ++ [c0]) with
      | some ce => (.ok (.rf p.2.ce.length, ⟨p.2.sl, ce⟩) : R (VD × DS))
      | none => .bad) := rfl
@[simp] theorem preCS (g : VD → M Unit) (tt : M Bool) (src : M (List PyData)) (d : PyData) (S : DS) : preC g tt src d S = R.bind (g (.dat d) S) fun p => R.bind (tt p.2) fun q => if q.1 = true then R.bind (src q.2) fun y => .ok (some y.1, y.2) else .ok (none, q.2) := by
  show R.bind (g (.dat d) S) (fun p => R.bind (tt p.2) fun q => (if q.1 = true then _ else _ : M (Option (List PyData))) q.2) = _
  congr 1; funext p; congr 1; funext q
  obtain ⟨b, S'⟩ := q
  cases b <;> rfl
def accs (acc : Cl → PyData → Option Cl) : Cl → List PyData → Option Cl
  | c, [] => some c
  | c, e :: es => (acc c e).bind fun c' => accs acc c' es
theorem accs_append (acc : Cl → PyData → Option Cl) : ∀ (xs ys : List PyData) (c : Cl), accs acc c (xs ++ ys) = (accs acc c xs).bind fun c' => accs acc c' ys
  | [], ys, c => rfl
  | e :: xs, ys, c => by
    simp only [List.cons_append, accs]
    cases acc c e with
    | none => rfl
    | some c' => exact accs_append acc xs ys c'
theorem goA_pure {acc : Cl → PyData → Option Cl} {step : PyData → M (Option PyData)} {n0 : Nat} {sl0 : List (Option VD)} {o : PyData → Option PyData} : ∀ (ds : List PyData) (ce : Ce) (c : Cl), ce[n0]? = some c → (∀ d ∈ ds, ∀ ce', ∃ sl' more, step d ⟨sl0, ce'⟩ = .ok (o d, ⟨sl', ce' ++ more⟩)) →
    goA acc step n0 ce.length sl0 ds ce = (accs acc c (ds.filterMap o)).map fun c' => ce.set n0 c'
  | [], ce, c, ec, _ => by
    obtain ⟨h1, h2⟩ := List.getElem?_eq_some_iff.mp ec
    subst h2
    simp [goA, accs]
  | d :: ds, ce, c, ec, hs => by
    obtain ⟨sl', more, e⟩ := hs d List.mem_cons_self ce
    have hn : n0 < ce.length := (List.getElem?_eq_some_iff.mp ec).1
    unfold goA
    rw [e]
    dsimp only
    rw [List.getElem?_append_left hn, ec]
    dsimp only
    rw [takeApp]
    cases ho : o d with
    | none =>
      dsimp only
      rw [goA_pure ds ce c ec fun x hx => hs x (List.mem_cons_of_mem _ hx), List.filterMap_cons_none ho]
    | some y =>
      dsimp only
      rw [List.filterMap_cons_some ho]
      unfold accs
      cases acc c y with
      | none => rfl
      | some c' =>
        dsimp only [Option.bind]
        have := goA_pure (acc := acc) (step := step) (n0 := n0) (sl0 := sl0) (o := o) ds (ce.set n0 c') c' (List.getElem?_set_self hn) fun x hx => hs x (List.mem_cons_of_mem _ hx)
        rw [List.length_set] at this
        rw [this]
        simp
theorem go2_pure {acc : Cl → PyData → Option Cl} {pre : PyData → M (Option (List PyData))} {step : PyData → M (Option PyData)} {n0 : Nat} {sl0 : List (Option VD)} {vs1 : List Nat} {inner : PyData → List PyData} {o : PyData → PyData → Option PyData} : ∀ (ds : List PyData) (ce : Ce) (c : Cl), ce.length = n0 + 1 → ce[n0]? = some c →
    (∀ d ∈ ds, ∀ ce', ∃ sl' more, pre d ⟨sl0, ce'⟩ = .ok (some (inner d), ⟨sl', ce' ++ more⟩) ∧ ∀ e ∈ inner d, ∀ ce'', ∃ sl'' more', step e ⟨wipeD sl' vs1, ce''⟩ = .ok (o d e, ⟨sl'', ce'' ++ more'⟩)) →
    go2 acc pre step n0 sl0 vs1 ds ce = (accs acc c (ds.flatMap fun d => (inner d).filterMap (o d))).map fun c' => ce.set n0 c'
  | [], ce, c, hn, ec, _ => by
    obtain ⟨h1, h2⟩ := List.getElem?_eq_some_iff.mp ec
    subst h2
    simp [go2, accs]
  | d :: ds, ce, c, hn, ec, hs => by
    obtain ⟨sl', more, e, he⟩ := hs d List.mem_cons_self ce
    have hlt : n0 < ce.length := by omega
    unfold go2
    rw [e]
    dsimp only
    have ec' : (ce ++ more)[n0]? = some c := by rw [List.getElem?_append_left hlt]; exact ec
    rw [goA_pure (o := o d) (inner d) (ce ++ more) c ec' he, List.flatMap_cons, accs_append]
    cases accs acc c ((inner d).filterMap (o d)) with
    | none => rfl
    | some c' =>
      simp only [Option.map, Option.bind]
      have tk : ((ce ++ more).set n0 c').take (n0 + 1) = ce.set n0 c' := by
        rw [List.set_append_left _ _ hlt, ← hn]
        exact List.take_left' (by simp)
      rw [tk, go2_pure (acc := acc) (pre := pre) (step := step) (sl0 := sl0) (inner := inner) (o := o) ds (ce.set n0 c') c' (by simpa using hn) (List.getElem?_set_self hlt) fun x hx => hs x (List.mem_cons_of_mem _ hx)]
      cases accs acc c' (ds.flatMap fun d => (inner d).filterMap (o d)) with
      | none => rfl
      | some c2 => simp [Option.map]
theorem accs_L : ∀ (es xs : List PyData), xs.length + es.length ≤ 16777216 → accs accL (.ls true xs) es = some (.ls true (xs ++ es))
  | [], xs, _ => by simp [accs]
  | e :: es, xs, h => by
    simp only [List.length_cons] at h
    have : accL (.ls true xs) e = some (.ls true (xs ++ [e])) := by simp only [accL]; rw [if_pos (by omega)]
    simp only [accs, this, Option.bind]
    rw [accs_L es (xs ++ [e]) (by simp; omega)]
    simp
def addAll : List Int → List Int → List Int
  | ns, [] => ns
  | ns, k :: ks => addAll (addNum k ns) ks
theorem addNum_len (k : Int) (ns : List Int) : (addNum k ns).length ≤ ns.length + 1 := by unfold addNum; split <;> simp
theorem mem_addNum {k x : Int} {ns : List Int} : x ∈ addNum k ns ↔ x = k ∨ x ∈ ns := by
  unfold addNum
  split
  · rename_i h
    exact ⟨.inr, fun z => z.elim (fun e => e ▸ h) id⟩
  · exact List.mem_cons
theorem mem_addAll {x : Int} : ∀ {ks ns : List Int}, x ∈ addAll ns ks ↔ x ∈ ns ∨ x ∈ ks
  | [], ns => by simp [addAll]
  | k :: ks, ns => by
    rw [addAll, mem_addAll, mem_addNum, List.mem_cons]
    constructor
    · rintro ((h | h) | h)
      · exact .inr (.inl h)
      · exact .inl h
      · exact .inr (.inr h)
    · rintro (h | h | h)
      · exact .inl (.inr h)
      · exact .inl (.inl h)
      · exact .inr h
theorem accs_S : ∀ (ks ns : List Int), ns.length + ks.length ≤ 1000 → accs accS (.si ns) (ks.map .int) = some (.si (addAll ns ks)) ∧ (addAll ns ks).length ≤ ns.length + ks.length
  | [], ns, _ => by simp [accs, addAll]
  | k :: ks, ns, h => by
    simp only [List.length_cons] at h
    have l := addNum_len k ns
    have : accS (.si ns) (.int k) = some (.si (addNum k ns)) := by simp only [accS]; rw [if_pos (by omega)]
    obtain ⟨a, b⟩ := accs_S ks (addNum k ns) (by omega)
    simp only [List.map_cons, accs, this, Option.bind, a, addAll, List.length_cons]
    exact ⟨trivial, by omega⟩
end MB
/-! MB5: a comprehension that draws and reads other cells. -/
namespace MB
open PySem DL L2 MA
def OffJ (j : Nat) (ce0 ce : Ce) : Prop := ∀ i, i ≠ j → i < ce0.length → ce[i]? = ce0[i]?
theorem OffJ.kp {j : Nat} {ks : List Int} {ce0 ce ce' : Ce} (h : OffJ j ce0 ce) (k : Kp j ks ce ce') : OffJ j ce0 ce' := fun i hi hl => (k.2.1 i hi).trans (h i hi hl)
theorem OffJ.app {j : Nat} {ce0 ce : Ce} (h : OffJ j ce0 ce) (l : ce0.length ≤ ce.length) (more : Ce) : OffJ j ce0 (ce ++ more) := fun i hi hl => by
  rw [List.getElem?_append_left (by omega)]
  exact h i hi hl
theorem OffJ.refl {j : Nat} {ce : Ce} : OffJ j ce ce := fun _ _ _ => rfl
theorem lc_draw2 {step : PyData → M (Option PyData)} {j : Nat} {ks : List Int} {sl0 : List (Option VD)} {T : PyData → Prop} {ce0 : Ce} (hj : j < ce0.length)
    (hs : ∀ d ce, Pn j ks ce → ce0.length ≤ ce.length → OffJ j ce0 ce → ∃ e sl' ce' more, step d ⟨sl0, ce⟩ = .ok (some e, ⟨sl', ce' ++ more⟩) ∧ Kp j ks ce ce' ∧ T e) : ∀ (ds acc : List PyData) (ce : Ce), ce.length = ce0.length → Pn j ks ce → OffJ j ce0 ce → acc.length + ds.length ≤ 16777215 →
    ∃ es ce', lcGo step ce0.length sl0 ds (ce ++ [(.ls true acc)]) = some (ce' ++ [(.ls true (acc ++ es))]) ∧ Kp j ks ce ce' ∧ (∀ e ∈ es, T e) ∧ es.length = ds.length
  | [], acc, ce, hn, hp, _, _ => ⟨[], ce, by simp [lcGo], Kp.refl hp, fun _ z => (nomatch z), rfl⟩
  | d :: ds, acc, ce, hn, hp, ho, hz => by
    obtain ⟨e, sl', ce1, more, he, hk, ht⟩ := hs d (ce ++ [(.ls true acc)]) (hp.app _) (by simp; omega) (ho.app (by omega) _)
    obtain ⟨ce2, rfl, hk2⟩ := hk.split (by omega)
    have hl2 : ce2.length = ce0.length := by rw [hk2.1, hn]
    obtain ⟨es, ce', h1, h2, h3, h4⟩ := lc_draw2 hj hs ds (acc ++ [e]) ce2 hl2 hk2.pn (ho.kp hk2) (by simp at hz ⊢; omega)
    refine ⟨e :: es, ce', ?_, hk2.trans h2, fun x hx => ?_, by simp [h4]⟩
    · unfold lcGo
      rw [he]
      dsimp only
      have g : (ce2 ++ [(.ls true acc)] ++ more)[ce0.length]? = some (.ls true acc) := by rw [← hl2]; simp
      rw [g]
      dsimp only
      have tk : (ce2 ++ [(Cl.ls true acc)] ++ more).take ce0.length = ce2 := by rw [List.append_assoc]; exact List.take_left' hl2
      rw [if_pos (by simp at hz; omega), tk, h1]
      simp
    · rcases List.mem_cons.mp hx with rfl | hx
      · exact ht
      · exact h3 x hx
end MB
/-! MB6: dicts, zip as a value, stars, index, reckoned by simp. -/
namespace MB
open PySem DL L2 MA
@[simp] theorem dkOfRf (j : Nat) (S : DS) : dkOf (.rf j) S = (match S.ce[j]? with | some (.dk kvs) => .ok (kvs, S) | _ => .bad) := rfl
@[simp] theorem intVI (i : Int) (S : DS) : intV (.dat (.int i)) S = .ok (i, S) := rfl
@[simp] theorem newKS (kvs : List (Int × Int)) (S : DS) : newK kvs S = .ok (.rf S.ce.length, { S with ce := S.ce ++ [.dk kvs] }) := rfl
@[simp] theorem eD0S (S : DS) : eD0 S = .ok (.rf S.ce.length, { S with ce := S.ce ++ [.dk []] }) := rfl
def orV (o : Option Int) (z : VD) : VD := match o with
  | some v => .dat (.int v)
  | none => z
@[simp] theorem orVS (v : Int) (z : VD) : orV (some v) z = .dat (.int v) := rfl
@[simp] theorem orVN (z : VD) : orV none z = z := rfl
@[simp] theorem eDGet2S (td ti tx : M VD) (S : DS) : eDGet2 td ti tx S = R.bind (td S) fun p => R.bind (dkOf p.1 p.2) fun q => R.bind (ti q.2) fun y => R.bind (tx y.2) fun z => R.bind (intV y.1 z.2) fun k => R.bind (dkOf p.1 k.2) fun d =>
  .ok (orV (dkGet d.1 k.1) z.1, d.2) := rfl
@[simp] theorem eDIdxS (td ti : M VD) (S : DS) : eDIdx td ti S = R.bind (td S) fun p => R.bind (ti p.2) fun y => R.bind (intV y.1 y.2) fun k => R.bind (dkOf p.1 k.2) fun d => R.bind (ofO (dkGet d.1 k.1) d.2) fun v => .ok (.dat (.int v.1), v.2) := rfl
@[simp] theorem eDInS (f : Bool → Bool) (ti td : M VD) (S : DS) : eDIn f ti td S = R.bind (ti S) fun y => R.bind (td y.2) fun p => R.bind (intV y.1 p.2) fun k => R.bind (dkOf p.1 k.2) fun d => .ok (.dat (.bool (f (dkGet d.1 k.1).isSome)), d.2) := rfl
@[simp] theorem putDkS (j : Nat) (k v : Int) (S : DS) : putDk (.rf j) k v S = (match S.ce[j]? with
    | some (.dk kvs) => if kvs.length < 16777216 then .ok ((), { S with ce := S.ce.set j (.dk (dkPut kvs k v)) }) else .bad
    | _ => .bad) := rfl
@[simp] theorem sDSetS (td ti tv : M VD) (S : DS) : sDSet td ti tv S = R.bind (tv S) fun v => R.bind (td v.2) fun x => R.bind (ti x.2) fun y => R.bind (intV v.1 y.2) fun n => R.bind (intV y.1 n.2) fun k => R.bind (putDk x.1 k.1 n.1 k.2) fun u => .ok (.nx, u.2) := rfl
@[simp] theorem tupOfT (ds : List PyData) (S : DS) : tupOf (.dat (.tuple ds)) S = .ok (ds, S) := rfl
@[simp] theorem eIndexS (ta tb : M VD) (S : DS) : eIndex ta tb S = R.bind (ta S) fun x => R.bind (tupOf x.1 x.2) fun d => R.bind (tb d.2) fun y => R.bind (intV y.1 y.2) fun k => R.bind (ofO (intsOf d.1) k.2) fun n => R.bind (chk (decide (k.1 ∈ n.1)) n.2) fun c => .ok (.dat (.int (n.1.idxOf k.1 : Nat)), c.2) := rfl
@[simp] theorem aStarS (a : M VD) (t : M (List VD)) (S : DS) : aStar a t S = R.bind (a S) fun x => R.bind (peek x.1 x.2) fun c => R.bind (ofO (asSeq c.1) c.2) fun d => R.bind (t d.2) fun xs => .ok (d.1.map .dat ++ xs.1, xs.2) := rfl
@[simp] theorem sCtS (S : DS) : sCt S = .ok (.ct, S) := rfl
@[simp] theorem sPar3S (i j l : Nat) (t : M (List VD)) (S : DS) : sPar3 i j l t S = R.bind (t S) fun p => (match p.1 with
  | [x, y, z] => (.ok (.nx, ⟨((p.2.sl.set i (some x)).set j (some y)).set l (some z), p.2.ce⟩) : R (Fl × DS))
  | _ => .bad) := by
  show R.bind (t S) (fun p => (match p.1 with | [x, y, z] => (do setSl i x; setSl j y; setSl l z; pure .nx : MS) | _ => M.bad) p.2) = _
  congr 1; funext p
  obtain ⟨xs, S'⟩ := p
  match xs with
  | [] => rfl
  | [_] => rfl
  | [_, _] => rfl
  | [_, _, _] => rfl
  | _ :: _ :: _ :: _ :: _ => rfl
@[simp] theorem eDictOfS (ta : M VD) (S : DS) : eDictOf ta S = R.bind (ta S) fun x => R.bind (peek x.1 x.2) fun c => (match c.1 with
  | .list ds => R.bind (ofO (pairsI ds) c.2) fun k => newK (dkMerge [] k.1) k.2
  | _ => .bad) := by
  show R.bind (ta S) (fun x => R.bind (peek x.1 x.2) fun c => (match c.1 with | .list ds => (do let kvs ← ofO (pairsI ds); newK (dkMerge [] kvs) : M VD) | _ => M.bad) c.2) = _
  congr 1; funext x; congr 1; funext c
  obtain ⟨d, S'⟩ := c
  cases d <;> rfl
theorem eZipV_ok {l : Bool} {ta tb : M VD} {S S1 S2 : DS} {d e : PyData} {ds es : List PyData} (h1 : ta S = .ok (.dat d, S1)) (h2 : tb S1 = .ok (.dat e, S2)) (hd : asSeq d = some ds) (he : asSeq e = some es) (hl : (zipD ds es).length ≤ 100000) :
    eZipV l ta tb S = (if l then newL (zipD ds es) S2 else .ok (.dat (.tuple (zipD ds es)), S2)) := by
  have e0 : aCons ta (aCons tb (pure [])) S = .ok ([.dat d, .dat e], S2) := by
    show R.bind (ta S) (fun p => R.bind (R.bind (tb p.2) fun q => .ok ([q.1], q.2)) fun q => .ok (p.1 :: q.1, q.2)) = _
    rw [h1]; simp only [bOk]; rw [h2]; rfl
  have ep : pairSeq d e = some (zipD ds es) := by unfold pairSeq; rw [hd, he]
  show R.bind (aCons ta (aCons tb (pure [])) S) _ = _
  rw [e0]
  show R.bind (ofO (pairSeq d e) S2) _ = _
  rw [ep]
  show R.bind (chk (decide ((zipD ds es).length ≤ 100000)) S2) _ = _
  simp only [chkS, hl, decide_true, if_true, bOk]
  cases l <;> rfl
/-- a list as a cell in the first place -/
theorem eZipV_rf {l : Bool} {ta tb : M VD} {S S1 S2 : DS} {j : Nat} {fl : Bool} {e : PyData} {ds es : List PyData} (h1 : ta S = .ok (.rf j, S1)) (h2 : tb S1 = .ok (.dat e, S2)) (hc : S2.ce[j]? = some (.ls fl ds)) (he : asSeq e = some es) (hl : (zipD ds es).length ≤ 100000) :
    eZipV l ta tb S = (if l then newL (zipD ds es) ⟨S2.sl, S2.ce.set j (.ls false ds)⟩ else .ok (.dat (.tuple (zipD ds es)), ⟨S2.sl, S2.ce.set j (.ls false ds)⟩)) := by
  have e0 : aCons ta (aCons tb (pure [])) S = .ok ([.rf j, .dat e], S2) := by
    show R.bind (ta S) (fun p => R.bind (R.bind (tb p.2) fun q => .ok ([q.1], q.2)) fun q => .ok (p.1 :: q.1, q.2)) = _
    rw [h1]; simp only [bOk]; rw [h2]; rfl
  have et : toD (.rf j) S2 = .ok (.list ds, ⟨S2.sl, S2.ce.set j (.ls false ds)⟩) := by
    rw [toDRf, hc]
    cases fl with
    | true => rfl
    | false =>
      have : S2.ce.set j (.ls false ds) = S2.ce := by
        obtain ⟨h, e⟩ := List.getElem?_eq_some_iff.mp hc
        rw [← e]; simp
      dsimp only
      rw [this]
  have ep : pairSeq (.list ds) e = some (zipD ds es) := by unfold pairSeq; rw [he]; rfl
  show R.bind (aCons ta (aCons tb (pure [])) S) _ = _
  rw [e0]
  show R.bind (R.bind (toD (.rf j) S2) fun d => R.bind (R.bind (toD (.dat e) d.2) fun x => .ok ([x.1], x.2)) fun r => .ok (d.1 :: r.1, r.2)) _ = _
  rw [et]
  simp only [bOk, toDDat]
  show R.bind (ofO (pairSeq (.list ds) e) _) _ = _
  rw [ep]
  show R.bind (chk (decide ((zipD ds es).length ≤ 100000)) _) _ = _
  simp only [chkS, hl, decide_true, if_true, bOk]
  cases l <;> rfl
end MB
namespace K13
open PySem PySem.Spec L2 DL
def top (i : Nat) : Stmt := PySem.Challenge.pw_backasked_k13_cases_before_a_deed.main.body.getD i (.Pass ⟨0, 0, 0, 0⟩)
section
variable {base : Heap} {P : Program} {w : World} {K : PySem.W.Frag} {mg : Str → Option Value}
abbrev stmoved : Stmt := top 2
theorem scmoved : FnScope ["terms", "room", "term"] ["terms", "room"] (defScope stmoved) := ⟨rfl, rfl, rfl, by decide +kernel, rfl, by decide +kernel, by decide +kernel⟩
def bmoved : MS :=
    (sRet (eTupOf (eLc [2] (srcSeq (eVar 0)) (stepC (setSl 2) tYesD (eIf (tOf (eOp fGe (eVar 2) (eC (.int 0)))) (eVar 2) (eOp fSub (eVar 2) (eVar 1)))))))
def fmoved : Fd := runF 3 bmoved
theorem okmoved {f : Addr} {fd : FuncData} (Fn : Fun K "moved" "moved" stmoved f fd) (b_tuple : mg "tuple" = none) : DG.FnG P w K mg base 1 f fd ["terms", "room"] (spD K w mg 2 fmoved) := by
    exact fn_ok Fn scmoved fun cdv A outer s H E hg hr => by
      have hN := scmoved.nd
      exact (s_one (s_ret (d_tupOf (d_lc (own := [("term", 2)]) rfl hN (blkOk_by (by rfl)) (by decide) (i_seq (d_var 0 (pv 0))) (fun _ _ _ _ _ => (g_name 2 hN)) (fun _ _ _ _ _ => ts_nil) (fun _ _ _ _ _ => (d_if (dt_cmp o_ge (d_var 2 (pv 2)) d_int (nomark _)) (d_var 2 (pv 2)) (d_op o_sub (d_var 2 (pv 2)) (d_var 1 (pv 1)))))) b_tuple)))

abbrev stitself : Stmt := top 3
theorem scitself : FnScope ["atom"] ["atom"] (defScope stitself) := ⟨rfl, rfl, rfl, by decide +kernel, rfl, by decide +kernel, by decide +kernel⟩
def bitself : MS :=
    (sRet (eTup (aCons (eC (.tuple [])) (aCons (eTup (aCons (eVar 0) (pure []))) (aCons (eC (.tuple [])) (pure []))))))
def fitself : Fd := runF 1 bitself
theorem okitself {f : Addr} {fd : FuncData} (Fn : Fun K "itself" "itself" stitself f fd) : DG.FnG P w K mg base 1 f fd ["atom"] (spD K w mg 1 fitself) := by
    exact fn_ok Fn scitself fun cdv A outer s H E hg hr => by
      have hN := scitself.nd
      exact (s_one (s_ret (d_tup (d_cons (d_const _ (by rfl)) (d_cons (d_tup (d_cons (d_var 0 (pv 0)) d_nil (star_cons rfl))) (d_cons (d_const _ (by rfl)) d_nil (star_cons rfl)) (star_cons rfl)) (star_cons rfl)))))

abbrev stcase_of_deed : Stmt := top 4
theorem sccase_of_deed : FnScope ["told", "atoms", "unlike", "asked", "room", "equations", "before", "kind", "terms", "pair"] ["told", "atoms", "unlike", "asked", "room"] (defScope stcase_of_deed) := ⟨rfl, rfl, rfl, by decide +kernel, rfl, by decide +kernel, by decide +kernel⟩
def bcase_of_deed : MS :=
    (sSeq (sSet 5 (eZipV false (eCall 2 fmoved (aCons (eVar 0) (aCons (eVar 4) (pure [])))) (eVar 3)))
    (sSeq (sSet 6 (eTupOf (eLc [7, 8] (srcSeq (eVar 1)) (stepC (gTupD 2 (gConsD (setSl 7) (gConsD (setSl 8) gNilD))) tYesD (eTup (aCons (eVar 7) (aCons (eCall 2 fmoved (aCons (eVar 8) (aCons (eVar 4) (pure [])))) (pure []))))))))
    (sRet (eTup (aCons (eVar 5) (aCons (eVar 6) (aCons (eTupOf (eLc [9] (srcSeq (eVar 2)) (stepC (setSl 9) tYesD (eCall 2 fmoved (aCons (eVar 9) (aCons (eVar 4) (pure []))))))) (pure []))))))))
def fcase_of_deed : Fd := runF 10 bcase_of_deed
theorem okcase_of_deed {f : Addr} {fd : FuncData} (Fn : Fun K "case_of_deed" "case_of_deed" stcase_of_deed f fd) (b_tuple : mg "tuple" = none) (b_zip : mg "zip" = none) (cmoved : Fnk P w K mg base "moved" 2 1 fmoved) : DG.FnG P w K mg base 2 f fd ["told", "atoms", "unlike", "asked", "room"] (spD K w mg 5 fcase_of_deed) := by
    exact fn_ok Fn sccase_of_deed fun cdv A outer s H E hg hr => by
      have hN := sccase_of_deed.nd
      exact (s_cons (s_set 5 hN (d_tupZip rfl (d_call (Fnk.has cmoved hg hr passB) (runF_nosl _ _) rfl (d_cons (d_var 0 (pv 0)) (d_cons (d_var 4 (pv 4)) d_nil (star_cons rfl)) (star_cons rfl))) (d_var 3 (pv 3)) b_tuple b_zip))
    (s_cons (s_set 6 hN (d_tupOf (d_lc (own := [("kind", 7), ("terms", 8)]) rfl hN (blkOk_by (by rfl)) (by decide) (i_seq (d_var 1 (pv 1))) (fun _ _ _ _ _ => (g_tup rfl (g_cons (g_name 7 hN) (g_cons (g_name 8 hN) g_nil)))) (fun _ _ _ _ _ => ts_nil) (fun _ _ _ _ _ => (d_tup (d_cons (d_var 7 (pv 7)) (d_cons (d_call (Fnk.has cmoved hg hr passL) (runF_nosl _ _) rfl (d_cons (d_var 8 (pv 8)) (d_cons (d_var 4 (pv 4)) d_nil (star_cons rfl)) (star_cons rfl))) d_nil (star_cons rfl)) (star_cons rfl))))) b_tuple))
    (s_one (s_ret (d_tup (d_cons (d_var 5 (pv 5)) (d_cons (d_var 6 (pv 6)) (d_cons (d_tupOf (d_lc (own := [("pair", 9)]) rfl hN (blkOk_by (by rfl)) (by decide) (i_seq (d_var 2 (pv 2))) (fun _ _ _ _ _ => (g_name 9 hN)) (fun _ _ _ _ _ => ts_nil) (fun _ _ _ _ _ => (d_call (Fnk.has cmoved hg hr passL) (runF_nosl _ _) rfl (d_cons (d_var 9 (pv 9)) (d_cons (d_var 4 (pv 4)) d_nil (star_cons rfl)) (star_cons rfl))))) b_tuple) d_nil (star_cons rfl)) (star_cons rfl)) (star_cons rfl)))))))

abbrev stcases_unmet : Stmt := top 5
theorem sccases_unmet : FnScope ["deed", "atom", "terms", "asked", "found", "pair", "place", "term", "equation"] ["deed", "atom"] (defScope stcases_unmet) := ⟨rfl, rfl, rfl, by decide +kernel, rfl, by decide +kernel, by decide +kernel⟩
def bcases_unmet : MS :=
    (sSeq (sSet 2 (eIdx (eIdx (eVar 0) (eC (.int 1))) (eC (.int 1))))
    (sSeq (sSet 3 (eIdx (eVar 1) (eC (.int 1))))
    (sSeq (sSet 4 (newL []))
    (sSeq (sFor (srcEnumT (eVar 2)) (gTupD 2 (gConsD (setSl 6) (gConsD (setSl 7) gNilD))) (sIf (tOf (eOp fGe (eVar 7) (eC (.int 0)))) (sExp (eApp (eVar 4) (eTup (aCons (eC (.tuple [])) (aCons (eTup (aCons (eVar 1) (pure []))) (aCons (eTup (aCons (eTup (aCons (eIdx (eVar 3) (eVar 6)) (aCons (eVar 7) (pure [])))) (pure []))) (pure []))))))) (sIf (tOf (eOp fLtD (eIndex (eVar 2) (eVar 7)) (eVar 6))) (sExp (eApp (eVar 4) (eTup (aCons (eC (.tuple [])) (aCons (eTup (aCons (eVar 1) (pure []))) (aCons (eTup (aCons (eTup (aCons (eIdx (eVar 3) (eVar 6)) (aCons (eIdx (eVar 3) (eIndex (eVar 2) (eVar 7))) (pure [])))) (pure []))) (pure []))))))) sNil)))
    (sSeq (sFor (srcSeq (eIdx (eVar 0) (eC (.int 2)))) (setSl 5) (sSeq (sSet 8 (eTupOf (eLc [7] (srcSeq (eVar 5)) (stepC (setSl 7) tYesD (eIf (tOf (eOp fGe (eVar 7) (eC (.int 0)))) (eVar 7) (eIdx (eVar 3) (eIndex (eVar 2) (eVar 7))))))))
    (sExp (eApp (eVar 4) (eTup (aCons (eTup (aCons (eVar 8) (pure []))) (aCons (eTup (aCons (eVar 1) (pure []))) (aCons (eC (.tuple [])) (pure [])))))))))
    (sRet (eTupOf (eVar 4))))))))
def fcases_unmet : Fd := runF 9 bcases_unmet
theorem okcases_unmet {f : Addr} {fd : FuncData} (Fn : Fun K "cases_unmet" "cases_unmet" stcases_unmet f fd) (b_enumerate : mg "enumerate" = none) (b_tuple : mg "tuple" = none) : DG.FnG P w K mg base 1 f fd ["deed", "atom"] (spD K w mg 2 fcases_unmet) := by
    exact fn_ok Fn sccases_unmet fun cdv A outer s H E hg hr => by
      have hN := sccases_unmet.nd
      exact (s_cons (s_set 2 hN (d_idx (d_idx (d_var 0 (pv 0)) d_int) d_int))
    (s_cons (s_set 3 hN (d_idx (d_var 1 (pv 1)) d_int))
    (s_cons (s_set 4 hN (d_lstC (by rfl) (by decide)))
    (s_cons (s_for (passes_of rfl) rfl (i_enumT b_enumerate (d_var 2 (pv 2))) (g_tup rfl (g_cons (g_name 6 hN) (g_cons (g_name 7 hN) g_nil))) (s_one (s_if (dt_cmp o_ge (d_var 7 (pv 7)) d_int (nomark _)) (s_one (s_exp (d_app (d_var 4 (pv 4)) (d_tup (d_cons (d_const _ (by rfl)) (d_cons (d_tup (d_cons (d_var 1 (pv 1)) d_nil (star_cons rfl))) (d_cons (d_tup (d_cons (d_tup (d_cons (d_idx (d_var 3 (pv 3)) (d_var 6 (pv 6))) (d_cons (d_var 7 (pv 7)) d_nil (star_cons rfl)) (star_cons rfl))) d_nil (star_cons rfl))) d_nil (star_cons rfl)) (star_cons rfl)) (star_cons rfl)))))) (s_one (s_if (dt_cmp (o_ltD (huB hr)) (d_index (d_var 2 (pv 2)) (d_var 7 (pv 7))) (d_var 6 (pv 6)) (nomark _)) (s_one (s_exp (d_app (d_var 4 (pv 4)) (d_tup (d_cons (d_const _ (by rfl)) (d_cons (d_tup (d_cons (d_var 1 (pv 1)) d_nil (star_cons rfl))) (d_cons (d_tup (d_cons (d_tup (d_cons (d_idx (d_var 3 (pv 3)) (d_var 6 (pv 6))) (d_cons (d_idx (d_var 3 (pv 3)) (d_index (d_var 2 (pv 2)) (d_var 7 (pv 7)))) d_nil (star_cons rfl)) (star_cons rfl))) d_nil (star_cons rfl))) d_nil (star_cons rfl)) (star_cons rfl)) (star_cons rfl)))))) s_nil)))))
    (s_cons (s_for (passes_of rfl) rfl (i_seq (d_idx (d_var 0 (pv 0)) d_int)) (g_name 5 hN) (s_cons (s_set 8 hN (d_tupOf (d_lc (own := [("term", 7)]) rfl hN (blkOk_by (by rfl)) (by decide) (i_seq (d_var 5 (pv 5))) (fun _ _ _ _ _ => (g_name 7 hN)) (fun _ _ _ _ _ => ts_nil) (fun _ _ _ _ _ => (d_if (dt_cmp o_ge (d_var 7 (pv 7)) d_int (nomark _)) (d_var 7 (pv 7)) (d_idx (d_var 3 (pv 3)) (d_index (d_var 2 (pv 2)) (d_var 7 (pv 7))))))) b_tuple))
    (s_one (s_exp (d_app (d_var 4 (pv 4)) (d_tup (d_cons (d_tup (d_cons (d_var 8 (pv 8)) d_nil (star_cons rfl))) (d_cons (d_tup (d_cons (d_var 1 (pv 1)) d_nil (star_cons rfl))) (d_cons (d_const _ (by rfl)) d_nil (star_cons rfl)) (star_cons rfl)) (star_cons rfl))))))))
    (s_one (s_ret (d_tupOf (d_var 4 (pv 4)) b_tuple))))))))

abbrev stcases_apart : Stmt := top 6
theorem sccases_apart : FnScope ["deed", "atom", "room", "asked", "kind", "terms", "_", "met", "unlike", "told", "body"] ["deed", "atom", "room"] (defScope stcases_apart) := ⟨rfl, rfl, rfl, by decide +kernel, rfl, by decide +kernel, by decide +kernel⟩
def bcases_apart : MS :=
    (sSeq (sAsg (eIdx (eVar 0) (eC (.int 1))) (gTupD 2 (gConsD (setSl 4) (gConsD (setSl 5) gNilD))))
    (sSeq (sSet 3 (eIdx (eVar 1) (eC (.int 1))))
    (sSeq (sIf (tOf (eOp fNe (eVar 4) (eIdx (eVar 1) (eC (.int 0))))) (sRet (eTup (aCons (eCall 1 fitself (aCons (eVar 1) (pure []))) (pure [])))) sNil)
    (sSeq (sIf (tOf (eOp fEq (eIdx (eVar 0) (eC (.int 0))) (eC (.str "put")))) (sSeq (sAsg (eVar 0) (gTupD 4 (gConsD (setSl 6) (gConsD (setSl 6) (gConsD (setSl 10) (gConsD (setSl 8) gNilD))))))
    (sRet (eTup (aCons (eCall 1 fitself (aCons (eVar 1) (pure []))) (aCons (eCall 5 fcase_of_deed (aCons (eVar 5) (aCons (eVar 10) (aCons (eVar 8) (aCons (eVar 3) (aCons (eVar 2) (pure []))))))) (pure [])))))) sNil)
    (sSeq (sIf (tOf (eOp fEq (eIdx (eVar 0) (eC (.int 0))) (eC (.str "take")))) (sRet (eCall 2 fcases_unmet (aCons (eVar 0) (aCons (eVar 1) (pure []))))) sNil)
    (sSeq (sAsg (eVar 0) (gTupD 4 (gConsD (setSl 6) (gConsD (setSl 7) (gConsD (setSl 8) (gConsD (setSl 9) gNilD))))))
    (sRet (eTup (aStar (eCall 2 fcases_unmet (aCons (eVar 0) (aCons (eVar 1) (pure [])))) (aCons (eCall 5 fcase_of_deed (aCons (eVar 9) (aCons (eTup (aCons (eVar 7) (pure []))) (aCons (eVar 8) (aCons (eVar 3) (aCons (eVar 2) (pure []))))))) (pure [])))))))))))
def fcases_apart : Fd := runF 11 bcases_apart
theorem okcases_apart {f : Addr} {fd : FuncData} (Fn : Fun K "cases_apart" "cases_apart" stcases_apart f fd) (citself : Fnk P w K mg base "itself" 1 1 fitself) (ccase_of_deed : Fnk P w K mg base "case_of_deed" 5 2 fcase_of_deed) (ccases_unmet : Fnk P w K mg base "cases_unmet" 2 1 fcases_unmet) : DG.FnG P w K mg base 3 f fd ["deed", "atom", "room"] (spD K w mg 3 fcases_apart) := by
    exact fn_ok Fn sccases_apart fun cdv A outer s H E hg hr => by
      have hN := sccases_apart.nd
      exact (s_cons (s_asg (d_idx (d_var 0 (pv 0)) d_int) (g_tup rfl (g_cons (g_name 4 hN) (g_cons (g_name 5 hN) g_nil))))
    (s_cons (s_set 3 hN (d_idx (d_var 1 (pv 1)) d_int))
    (s_cons (s_if (dt_cmp (o_ne (huB hr)) (d_var 4 (pv 4)) (d_idx (d_var 1 (pv 1)) d_int) (nomark _)) (s_one (s_ret (d_tup (d_cons (d_call (Fnk.has citself hg hr passB) (runF_nosl _ _) rfl (d_cons (d_var 1 (pv 1)) d_nil (star_cons rfl))) d_nil (star_cons rfl))))) s_nil)
    (s_cons (s_if (dt_cmp (o_eq (huB hr)) (d_idx (d_var 0 (pv 0)) d_int) d_str (nomark _)) (s_cons (s_asg (d_var 0 (pv 0)) (g_tup rfl (g_cons (g_name 6 hN) (g_cons (g_name 6 hN) (g_cons (g_name 10 hN) (g_cons (g_name 8 hN) g_nil))))))
    (s_one (s_ret (d_tup (d_cons (d_call (Fnk.has citself hg hr passB) (runF_nosl _ _) rfl (d_cons (d_var 1 (pv 1)) d_nil (star_cons rfl))) (d_cons (d_call (Fnk.has ccase_of_deed hg hr passB) (runF_nosl _ _) rfl (d_cons (d_var 5 (pv 5)) (d_cons (d_var 10 (pv 10)) (d_cons (d_var 8 (pv 8)) (d_cons (d_var 3 (pv 3)) (d_cons (d_var 2 (pv 2)) d_nil (star_cons rfl)) (star_cons rfl)) (star_cons rfl)) (star_cons rfl)) (star_cons rfl))) d_nil (star_cons rfl)) (star_cons rfl)))))) s_nil)
    (s_cons (s_if (dt_cmp (o_eq (huB hr)) (d_idx (d_var 0 (pv 0)) d_int) d_str (nomark _)) (s_one (s_ret (d_call (Fnk.has ccases_unmet hg hr passB) (runF_nosl _ _) rfl (d_cons (d_var 0 (pv 0)) (d_cons (d_var 1 (pv 1)) d_nil (star_cons rfl)) (star_cons rfl))))) s_nil)
    (s_cons (s_asg (d_var 0 (pv 0)) (g_tup rfl (g_cons (g_name 6 hN) (g_cons (g_name 7 hN) (g_cons (g_name 8 hN) (g_cons (g_name 9 hN) g_nil))))))
    (s_one (s_ret (d_tup (d_star (d_call (Fnk.has ccases_unmet hg hr passB) (runF_nosl _ _) rfl (d_cons (d_var 0 (pv 0)) (d_cons (d_var 1 (pv 1)) d_nil (star_cons rfl)) (star_cons rfl))) (d_cons (d_call (Fnk.has ccase_of_deed hg hr passB) (runF_nosl _ _) rfl (d_cons (d_var 9 (pv 9)) (d_cons (d_tup (d_cons (d_var 7 (pv 7)) d_nil (star_cons rfl))) (d_cons (d_var 8 (pv 8)) (d_cons (d_var 3 (pv 3)) (d_cons (d_var 2 (pv 2)) d_nil (star_cons rfl)) (star_cons rfl)) (star_cons rfl)) (star_cons rfl)) (star_cons rfl))) d_nil (star_cons rfl)) star_star))))))))))

abbrev stcases : Stmt := top 7
theorem sccases : FnScope ["deed", "atom"] ["deed", "atom"] (defScope stcases) := ⟨rfl, rfl, rfl, by decide +kernel, rfl, by decide +kernel, by decide +kernel⟩
def bcases : MS :=
    (sRet (eCall 3 fcases_apart (aCons (eVar 0) (aCons (eVar 1) (aCons (eC (.int 8)) (pure []))))))
def fcases : Fd := runF 2 bcases
theorem okcases {f : Addr} {fd : FuncData} (Fn : Fun K "cases" "cases" stcases f fd) (ccases_apart : Fnk P w K mg base "cases_apart" 3 3 fcases_apart) (g_MOST_VARIABLES : ∃ t, mg "MOST_VARIABLES" = some (.int 8 t)) : DG.FnG P w K mg base 4 f fd ["deed", "atom"] (spD K w mg 2 fcases) := by
    exact fn_ok Fn sccases fun cdv A outer s H E hg hr => by
      have hN := sccases.nd
      exact (s_one (s_ret (d_call (Fnk.has ccases_apart hg hr passB) (runF_nosl _ _) rfl (d_cons (d_var 0 (pv 0)) (d_cons (d_var 1 (pv 1)) (d_cons (d_globI g_MOST_VARIABLES) d_nil (star_cons rfl)) (star_cons rfl)) (star_cons rfl)))))

abbrev stchoices_at : Stmt := top 8
theorem scchoices_at : FnScope ["deed", "question", "total", "part", "many", "atom"] ["deed", "question"] (defScope stchoices_at) := ⟨rfl, rfl, rfl, by decide +kernel, rfl, by decide +kernel, by decide +kernel⟩
def bchoices_at : MS :=
    (sSeq (sSet 2 (eC (.int 0)))
    (sSeq (sFor (srcSeq (eIdx (eVar 1) (eC (.int 1)))) (setSl 3) (sSeq (sSet 4 (eC (.int 1)))
    (sSeq (sFor (srcSeq (eIdx (eVar 3) (eC (.int 1)))) (setSl 5) (sSet 4 (eMul (eVar 4) (eFn lenD (eCall 2 fcases (aCons (eVar 0) (aCons (eVar 5) (pure []))))))))
    (sSet 2 (eAdd (eVar 2) (eVar 4))))))
    (sRet (eVar 2))))
def fchoices_at : Fd := runF 6 bchoices_at
theorem okchoices_at {f : Addr} {fd : FuncData} (Fn : Fun K "choices_at" "choices_at" stchoices_at f fd) (b_len : mg "len" = none) (ccases : Fnk P w K mg base "cases" 2 4 fcases) : DG.FnG P w K mg base 5 f fd ["deed", "question"] (spD K w mg 2 fchoices_at) := by
    exact fn_ok Fn scchoices_at fun cdv A outer s H E hg hr => by
      have hN := scchoices_at.nd
      exact (s_cons (s_set 2 hN d_int)
    (s_cons (s_for (passes_of rfl) rfl (i_seq (d_idx (d_var 1 (pv 1)) d_int)) (g_name 3 hN) (s_cons (s_set 4 hN d_int)
    (s_cons (s_for (passes_of rfl) rfl (i_seq (d_idx (d_var 3 (pv 3)) d_int)) (g_name 5 hN) (s_one (s_set 4 hN (d_mul (d_var 4 (pv 4)) (d_len (d_call (Fnk.has ccases hg hr passB) (runF_nosl _ _) rfl (d_cons (d_var 0 (pv 0)) (d_cons (d_var 5 (pv 5)) d_nil (star_cons rfl)) (star_cons rfl))) rfl b_len)))))
    (s_one (s_set 2 hN (d_add (d_var 2 (pv 2)) (d_var 4 (pv 4))))))))
    (s_one (s_ret (d_var 2 (pv 2))))))

abbrev st_law_pen : Stmt := top 10
theorem sc_law_pen : FnScope ["script"] ["script"] (defScope st_law_pen) := ⟨rfl, rfl, rfl, by decide +kernel, rfl, by decide +kernel, by decide +kernel⟩
def b_law_pen : MS :=
    (sRet (eLst (aCons (eLstOf (eSl (eVar 0) oNone (oSome (eC (.int 63))))) (aCons (eC (.int 0)) (aCons (eC (.int 0)) (aCons (newL [(.int 1), (.int 5)]) (pure [])))))))
def f_law_pen : Fd := runF 1 b_law_pen
theorem ok_law_pen {f : Addr} {fd : FuncData} (Fn : Fun K "_law_pen" "_law_pen" st_law_pen f fd) (b_list : mg "list" = none) : DG.FnG P w K mg base 1 f fd ["script"] (spD K w mg 1 f_law_pen) := by
    exact fn_ok Fn sc_law_pen fun cdv A outer s H E hg hr => by
      have hN := sc_law_pen.nd
      exact (s_one (s_ret (d_lst (d_cons (d_lstOf (d_sl (d_var 0 (pv 0)) p_none (p_some d_int)) b_list) (d_cons d_int (d_cons d_int (d_cons (d_lstC (by rfl) (by decide)) d_nil (star_cons rfl)) (star_cons rfl)) (star_cons rfl)) (star_cons rfl)))))

abbrev st_law_fresh : Stmt := top 11
theorem sc_law_fresh : FnScope ["pen", "cell", "prime", "state", "found", "lap", "seat", "given"] ["pen"] (defScope st_law_fresh) := ⟨rfl, rfl, rfl, by decide +kernel, rfl, by decide +kernel, by decide +kernel⟩
def b_law_fresh : MS :=
    (sSeq (sPar 6 7 (aCons (eIdx (eVar 0) (eC (.int 1))) (aCons (eIdx (eVar 0) (eC (.int 0))) (pure []))))
    (sSeq (sAsg (eAdd (eVar 6) (eC (.int 1))) (gSubD (eVar 0) (eC (.int 1))))
    (sSeq (sSet 1 (eIf (tOf (eOp fNe (eVar 7) (newL []))) (eIdx (eVar 7) (eOp fMod (eFn intD (eVar 6)) (eFn lenD (eVar 7)))) (eC (.int 0))))
    (sSeq (sIf (tAndD (tOf (eOp fLtD (eVar 6) (eFn lenD (eVar 7)))) (tOf (eOp fGe (eVar 1) (eOp fPow (eC (.int 10)) (eC (.int 18)))))) (sRet (eOp fSub (eVar 1) (eOp fPow (eC (.int 10)) (eC (.int 18))))) sNil)
    (sSeq (sSet 2 (eC (.int 2305843009213693951)))
    (sSeq (sSet 3 (eOp fMod (eFn intD (eAdd (eAdd (eOp fMul (eVar 1) (eC (.int 48271))) (eOp fMul (eC (.int 60013)) (eVar 6))) (eC (.int 31)))) (eVar 2)))
    (sSeq (sSet 4 (eVar 3))
    (sSeq (sFor (srcRng (eC (.int 6))) (setSl 5) (sSeq (sSet 3 (eOp fMod (eFn intD (eAdd (eAdd (eOp fMul (eVar 3) (eVar 3)) (eOp fMul (eOp fMul (eC (.int 70139)) (eAdd (eVar 5) (eC (.int 5)))) (eAdd (eVar 6) (eC (.int 1))))) (eVar 1))) (eVar 2)))
    (sSet 4 (eAdd (eOp fMul (eVar 4) (eVar 2)) (eVar 3)))))
    (sRet (eVar 4))))))))))
def f_law_fresh : Fd := runF 8 b_law_fresh
theorem ok_law_fresh {f : Addr} {fd : FuncData} (Fn : Fun K "_law_fresh" "_law_fresh" st_law_fresh f fd) (b_int : mg "int" = none) (b_len : mg "len" = none) (b_range : mg "range" = none) : DG.FnG P w K mg base 1 f fd ["pen"] (spD K w mg 1 f_law_fresh) := by
    exact fn_ok Fn sc_law_fresh fun cdv A outer s H E hg hr => by
      have hN := sc_law_fresh.nd
      exact (s_cons (s_par (i := 6) (j := 7) rfl hN (d_cons (d_idx (d_var 0 (pv 0)) d_int) (d_cons (d_idx (d_var 0 (pv 0)) d_int) d_nil (star_cons rfl)) (star_cons rfl)))
    (s_cons (s_asg (d_add (d_var 6 (pv 6)) d_int) (g_sub (d_var 0 (pv 0)) d_int))
    (s_cons (s_set 1 hN (d_if (dt_cmp (o_ne (huB hr)) (d_var 7 (pv 7)) (d_lstC (by rfl) (by decide)) (nomark _)) (d_idx (d_var 7 (pv 7)) (d_op o_mod (d_intOf (d_var 6 (pv 6)) b_int) (d_len (d_var 7 (pv 7)) rfl b_len))) d_int))
    (s_cons (s_if (PW.pt (dw_and (dt_cmp (o_ltD (huB hr)) (d_var 6 (pv 6)) (d_len (d_var 7 (pv 7)) rfl b_len) (nomark _)) (dw_and1 (dt_cmp o_ge (d_var 1 (pv 1)) (d_op o_pow d_int d_int) (nomark _))))) (s_one (s_ret (d_op o_sub (d_var 1 (pv 1)) (d_op o_pow d_int d_int)))) s_nil)
    (s_cons (s_set 2 hN d_int)
    (s_cons (s_set 3 hN (d_op o_mod (d_intOf (d_add (d_add (d_op o_mul (d_var 1 (pv 1)) d_int) (d_op o_mul d_int (d_var 6 (pv 6)))) d_int) b_int) (d_var 2 (pv 2))))
    (s_cons (s_set 4 hN (d_var 3 (pv 3)))
    (s_cons (s_for (passes_of rfl) rfl (i_rng rfl b_range d_int) (g_name 5 hN) (s_cons (s_set 3 hN (d_op o_mod (d_intOf (d_add (d_add (d_op o_mul (d_var 3 (pv 3)) (d_var 3 (pv 3))) (d_op o_mul (d_op o_mul d_int (d_add (d_var 5 (pv 5)) d_int)) (d_add (d_var 6 (pv 6)) d_int))) (d_var 1 (pv 1))) b_int) (d_var 2 (pv 2))))
    (s_one (s_set 4 hN (d_add (d_op o_mul (d_var 4 (pv 4)) (d_var 2 (pv 2))) (d_var 3 (pv 3)))))))
    (s_one (s_ret (d_var 4 (pv 4))))))))))))

abbrev st_law_draw : Stmt := top 12
theorem sc_law_draw : FnScope ["pen", "bound", "digit"] ["pen", "bound"] (defScope st_law_draw) := ⟨rfl, rfl, rfl, by decide +kernel, rfl, by decide +kernel, by decide +kernel⟩
def b_law_draw : MS :=
    (sSeq (sIf (tOf (eOp fLtD (eIdx (eVar 0) (eC (.int 2))) (eVar 1))) (sAsg (eCall 1 f_law_fresh (aCons (eVar 0) (pure []))) (gSubD (eVar 0) (eC (.int 2)))) sNil)
    (sSeq (sSet 2 (eOp fMod (eFn intD (eIdx (eVar 0) (eC (.int 2)))) (eVar 1)))
    (sSeq (sAsg (eOp fDiv (eFn intD (eIdx (eVar 0) (eC (.int 2)))) (eVar 1)) (gSubD (eVar 0) (eC (.int 2))))
    (sRet (eVar 2)))))
def f_law_draw : Fd := runF 3 b_law_draw
theorem ok_law_draw {f : Addr} {fd : FuncData} (Fn : Fun K "_law_draw" "_law_draw" st_law_draw f fd) (b_int : mg "int" = none) (c_law_fresh : Fnk P w K mg base "_law_fresh" 1 1 f_law_fresh) : DG.FnG P w K mg base 2 f fd ["pen", "bound"] (spD K w mg 2 f_law_draw) := by
    exact fn_ok Fn sc_law_draw fun cdv A outer s H E hg hr => by
      have hN := sc_law_draw.nd
      exact (s_cons (s_if (dt_cmp (o_ltD (huB hr)) (d_idx (d_var 0 (pv 0)) d_int) (d_var 1 (pv 1)) (nomark _)) (s_one (s_asg (d_call (Fnk.has c_law_fresh hg hr passB) (runF_nosl _ _) rfl (d_cons (d_var 0 (pv 0)) d_nil (star_cons rfl))) (g_sub (d_var 0 (pv 0)) d_int))) s_nil)
    (s_cons (s_set 2 hN (d_op o_mod (d_intOf (d_idx (d_var 0 (pv 0)) d_int) b_int) (d_var 1 (pv 1))))
    (s_cons (s_asg (d_op o_div (d_intOf (d_idx (d_var 0 (pv 0)) d_int) b_int) (d_var 1 (pv 1))) (g_sub (d_var 0 (pv 0)) d_int))
    (s_one (s_ret (d_var 2 (pv 2)))))))

abbrev st_law_one_of : Stmt := top 13
theorem sc_law_one_of : FnScope ["pen", "some"] ["pen", "some"] (defScope st_law_one_of) := ⟨rfl, rfl, rfl, by decide +kernel, rfl, by decide +kernel, by decide +kernel⟩
def b_law_one_of : MS :=
    (sRet (eIdx (eVar 1) (eCall 2 f_law_draw (aCons (eVar 0) (aCons (eFn lenD (eVar 1)) (pure []))))))
def f_law_one_of : Fd := runF 2 b_law_one_of
theorem ok_law_one_of {f : Addr} {fd : FuncData} (Fn : Fun K "_law_one_of" "_law_one_of" st_law_one_of f fd) (b_len : mg "len" = none) (c_law_draw : Fnk P w K mg base "_law_draw" 2 2 f_law_draw) : DG.FnG P w K mg base 3 f fd ["pen", "some"] (spD K w mg 2 f_law_one_of) := by
    exact fn_ok Fn sc_law_one_of fun cdv A outer s H E hg hr => by
      have hN := sc_law_one_of.nd
      exact (s_one (s_ret (d_idx (d_var 1 (pv 1)) (d_call (Fnk.has c_law_draw hg hr passB) (runF_nosl _ _) rfl (d_cons (d_var 0 (pv 0)) (d_cons (d_len (d_var 1 (pv 1)) rfl b_len) d_nil (star_cons rfl)) (star_cons rfl))))))

abbrev st_law_drawn_kinds : Stmt := top 14
theorem sc_law_drawn_kinds : FnScope ["pen"] ["pen"] (defScope st_law_drawn_kinds) := ⟨rfl, rfl, rfl, by decide +kernel, rfl, by decide +kernel, by decide +kernel⟩
def b_law_drawn_kinds : MS :=
    (sSeq (sAsg (eCall 2 f_law_one_of (aCons (eVar 0) (aCons (newL [(.list [(.int 1), (.int 5)]), (.list [(.int 0), (.int 5)]), (.list [(.int 0), (.int 9)]), (.list [(.int 1), (.int 5)])]) (pure [])))) (gSubD (eVar 0) (eC (.int 3))))
    (sRet (eCall 2 f_law_one_of (aCons (eVar 0) (aCons (newL [(.tuple [(.int 1), (.int 1)]), (.tuple [(.int 2)]), (.tuple [(.int 1), (.int 2)]), (.tuple [(.int 2), (.int 2)]), (.tuple [(.int 2), (.int 1), (.int 0)]), (.tuple [(.int 1), (.int 1), (.int 1)]), (.tuple [(.int 1), (.int 0), (.int 1), (.int 2)])]) (pure []))))))
def f_law_drawn_kinds : Fd := runF 1 b_law_drawn_kinds
theorem ok_law_drawn_kinds {f : Addr} {fd : FuncData} (Fn : Fun K "_law_drawn_kinds" "_law_drawn_kinds" st_law_drawn_kinds f fd) (c_law_one_of : Fnk P w K mg base "_law_one_of" 2 3 f_law_one_of) : DG.FnG P w K mg base 4 f fd ["pen"] (spD K w mg 1 f_law_drawn_kinds) := by
    exact fn_ok Fn sc_law_drawn_kinds fun cdv A outer s H E hg hr => by
      have hN := sc_law_drawn_kinds.nd
      exact (s_cons (s_asg (d_call (Fnk.has c_law_one_of hg hr passB) (runF_nosl _ _) rfl (d_cons (d_var 0 (pv 0)) (d_cons (d_lstC (by rfl) (by decide)) d_nil (star_cons rfl)) (star_cons rfl))) (g_sub (d_var 0 (pv 0)) d_int))
    (s_one (s_ret (d_call (Fnk.has c_law_one_of hg hr passB) (runF_nosl _ _) rfl (d_cons (d_var 0 (pv 0)) (d_cons (d_lstC (by rfl) (by decide)) d_nil (star_cons rfl)) (star_cons rfl))))))

abbrev st_law_drawn_atom : Stmt := top 15
theorem sc_law_drawn_atom : FnScope ["pen", "kinds", "terms", "kind", "lap"] ["pen", "kinds", "terms"] (defScope st_law_drawn_atom) := ⟨rfl, rfl, rfl, by decide +kernel, rfl, by decide +kernel, by decide +kernel⟩
def b_law_drawn_atom : MS :=
    (sSeq (sSet 3 (eCall 2 f_law_draw (aCons (eVar 0) (aCons (eFn lenD (eVar 1)) (pure [])))))
    (sRet (eTup (aCons (eVar 3) (aCons (eTupOf (eLc [4] (srcRng (eIdx (eVar 1) (eVar 3))) (stepC (setSl 4) tYesD (eCall 2 f_law_one_of (aCons (eVar 0) (aCons (eVar 2) (pure []))))))) (pure []))))))
def f_law_drawn_atom : Fd := runF 5 b_law_drawn_atom
theorem ok_law_drawn_atom {f : Addr} {fd : FuncData} (Fn : Fun K "_law_drawn_atom" "_law_drawn_atom" st_law_drawn_atom f fd) (b_len : mg "len" = none) (b_range : mg "range" = none) (b_tuple : mg "tuple" = none) (c_law_draw : Fnk P w K mg base "_law_draw" 2 2 f_law_draw) (c_law_one_of : Fnk P w K mg base "_law_one_of" 2 3 f_law_one_of) : DG.FnG P w K mg base 4 f fd ["pen", "kinds", "terms"] (spD K w mg 3 f_law_drawn_atom) := by
    exact fn_ok Fn sc_law_drawn_atom fun cdv A outer s H E hg hr => by
      have hN := sc_law_drawn_atom.nd
      exact (s_cons (s_set 3 hN (d_call (Fnk.has c_law_draw hg hr passB) (runF_nosl _ _) rfl (d_cons (d_var 0 (pv 0)) (d_cons (d_len (d_var 1 (pv 1)) rfl b_len) d_nil (star_cons rfl)) (star_cons rfl))))
    (s_one (s_ret (d_tup (d_cons (d_var 3 (pv 3)) (d_cons (d_tupOf (d_lc (own := [("lap", 4)]) rfl hN (blkOk_by (by rfl)) (by decide) (i_rng rfl b_range (d_idx (d_var 1 (pv 1)) (d_var 3 (pv 3)))) (fun _ _ _ _ _ => (g_name 4 hN)) (fun _ _ _ _ _ => ts_nil) (fun _ _ _ _ _ => (d_call (Fnk.has c_law_one_of hg hr passL) (runF_nosl _ _) rfl (d_cons (d_var 0 (pv 0)) (d_cons (d_var 2 (pv 2)) d_nil (star_cons rfl)) (star_cons rfl))))) b_tuple) d_nil (star_cons rfl)) (star_cons rfl))))))

abbrev st_law_drawn_terms : Stmt := top 16
theorem sc_law_drawn_terms : FnScope ["pen"] ["pen"] (defScope st_law_drawn_terms) := ⟨rfl, rfl, rfl, by decide +kernel, rfl, by decide +kernel, by decide +kernel⟩
def b_law_drawn_terms : MS :=
    (sRet (eAdd (eMul (eIdx (newL [(.list [(.int (-1))]), (.list [(.int (-1)), (.int (-2))]), (.list [(.int (-1)), (.int (-2)), (.int (-3))]), (.list [(.int (-1)), (.int (-4))])]) (eCall 2 f_law_draw (aCons (eVar 0) (aCons (eC (.int 4)) (pure []))))) (eC (.int 3))) (eSl (eIdx (eVar 0) (eC (.int 3))) oNone (oSome (eCall 2 f_law_draw (aCons (eVar 0) (aCons (eC (.int 3)) (pure []))))))))
def f_law_drawn_terms : Fd := runF 1 b_law_drawn_terms
theorem ok_law_drawn_terms {f : Addr} {fd : FuncData} (Fn : Fun K "_law_drawn_terms" "_law_drawn_terms" st_law_drawn_terms f fd) (c_law_draw : Fnk P w K mg base "_law_draw" 2 2 f_law_draw) : DG.FnG P w K mg base 3 f fd ["pen"] (spD K w mg 1 f_law_drawn_terms) := by
    exact fn_ok Fn sc_law_drawn_terms fun cdv A outer s H E hg hr => by
      have hN := sc_law_drawn_terms.nd
      exact (s_one (s_ret (d_add (d_mul (d_idx (d_lstC (by rfl) (by decide)) (d_call (Fnk.has c_law_draw hg hr passB) (runF_nosl _ _) rfl (d_cons (d_var 0 (pv 0)) (d_cons d_int d_nil (star_cons rfl)) (star_cons rfl)))) d_int) (d_sl (d_idx (d_var 0 (pv 0)) d_int) p_none (p_some (d_call (Fnk.has c_law_draw hg hr passB) (runF_nosl _ _) rfl (d_cons (d_var 0 (pv 0)) (d_cons d_int d_nil (star_cons rfl)) (star_cons rfl))))))))

abbrev st_law_drawn_pairs : Stmt := top 17
theorem sc_law_drawn_pairs : FnScope ["pen", "terms", "most", "found", "lap", "one", "other"] ["pen", "terms", "most"] (defScope st_law_drawn_pairs) := ⟨rfl, rfl, rfl, by decide +kernel, rfl, by decide +kernel, by decide +kernel⟩
def b_law_drawn_pairs : MS :=
    (sSeq (sSet 3 (newL []))
    (sSeq (sFor (srcRng (eCall 2 f_law_one_of (aCons (eVar 0) (aCons (newL [(.int 0), (.int 0), (.int 0), (.int 1), (.int 2)]) (pure []))))) (setSl 4) (sSeq (sPar 5 6 (aCons (eCall 2 f_law_one_of (aCons (eVar 0) (aCons (eVar 1) (pure [])))) (aCons (eCall 2 f_law_one_of (aCons (eVar 0) (aCons (eVar 1) (pure [])))) (pure []))))
    (sIf (tOf (eOp fNe (eVar 5) (eVar 6))) (sExp (eApp (eVar 3) (eTup (aCons (eFn2 fMin2 (aCons (eVar 5) (aCons (eVar 6) (pure [])))) (aCons (eFn2 fMax2 (aCons (eVar 5) (aCons (eVar 6) (pure [])))) (pure [])))))) sNil)))
    (sRet (eSl (eTupOf (eSortA (eSetA (eVar 3)))) oNone (oSome (eVar 2))))))
def f_law_drawn_pairs : Fd := runF 7 b_law_drawn_pairs
theorem ok_law_drawn_pairs {f : Addr} {fd : FuncData} (Fn : Fun K "_law_drawn_pairs" "_law_drawn_pairs" st_law_drawn_pairs f fd) (b_max : mg "max" = none) (b_min : mg "min" = none) (b_range : mg "range" = none) (b_set : mg "set" = none) (b_sorted : mg "sorted" = none) (b_tuple : mg "tuple" = none) (c_law_one_of : Fnk P w K mg base "_law_one_of" 2 3 f_law_one_of) : DG.FnG P w K mg base 4 f fd ["pen", "terms", "most"] (spD K w mg 3 f_law_drawn_pairs) := by
    exact fn_ok Fn sc_law_drawn_pairs fun cdv A outer s H E hg hr => by
      have hN := sc_law_drawn_pairs.nd
      exact (s_cons (s_set 3 hN (d_lstC (by rfl) (by decide)))
    (s_cons (s_for (passes_of rfl) rfl (i_rng rfl b_range (d_call (Fnk.has c_law_one_of hg hr passB) (runF_nosl _ _) rfl (d_cons (d_var 0 (pv 0)) (d_cons (d_lstC (by rfl) (by decide)) d_nil (star_cons rfl)) (star_cons rfl)))) (g_name 4 hN) (s_cons (s_par (i := 5) (j := 6) rfl hN (d_cons (d_call (Fnk.has c_law_one_of hg hr passB) (runF_nosl _ _) rfl (d_cons (d_var 0 (pv 0)) (d_cons (d_var 1 (pv 1)) d_nil (star_cons rfl)) (star_cons rfl))) (d_cons (d_call (Fnk.has c_law_one_of hg hr passB) (runF_nosl _ _) rfl (d_cons (d_var 0 (pv 0)) (d_cons (d_var 1 (pv 1)) d_nil (star_cons rfl)) (star_cons rfl))) d_nil (star_cons rfl)) (star_cons rfl)))
    (s_one (s_if (dt_cmp (o_ne (huB hr)) (d_var 5 (pv 5)) (d_var 6 (pv 6)) (nomark _)) (s_one (s_exp (d_app (d_var 3 (pv 3)) (d_tup (d_cons (d_min2 rfl (d_cons (d_var 5 (pv 5)) (d_cons (d_var 6 (pv 6)) d_nil (star_cons rfl)) (star_cons rfl)) b_min) (d_cons (d_max2 rfl (d_cons (d_var 5 (pv 5)) (d_cons (d_var 6 (pv 6)) d_nil (star_cons rfl)) (star_cons rfl)) b_max) d_nil (star_cons rfl)) (star_cons rfl)))))) s_nil))))
    (s_one (s_ret (d_sl (d_tupOf (d_sortA rfl (huB hr) (d_setA rfl (huB hr) (d_var 3 (pv 3)) b_set) b_sorted) b_tuple) p_none (p_some (d_var 2 (pv 2))))))))

abbrev st_law_drawn_body : Stmt := top 18
theorem sc_law_drawn_body : FnScope ["pen", "kinds", "most", "body", "terms", "there", "kind", "some", "lap"] ["pen", "kinds", "most"] (defScope st_law_drawn_body) := ⟨rfl, rfl, rfl, by decide +kernel, rfl, by decide +kernel, by decide +kernel⟩
def b_law_drawn_body : MS :=
    (sSeq (sParV 2 (aCons (eCall 1 f_law_drawn_terms (aCons (eVar 0) (pure []))) (aCons (eLst (aCons (eCall 2 f_law_one_of (aCons (eVar 0) (aCons (eIdx (eVar 0) (eC (.int 3))) (pure [])))) (pure []))) (pure []))) (gConsV (setSl 4) (gConsV (setSl 5) gNilV)))
    (sSeq (sSet 3 (eTupOf (eSl (eLc [8] (srcRng (eCall 2 f_law_one_of (aCons (eVar 0) (aCons (eLst (aCons (eC (.int 1)) (aCons (eC (.int 1)) (aCons (eC (.int 2)) (aCons (eC (.int 2)) (aCons (eVar 2) (aCons (eC (.int 0)) (pure [])))))))) (pure []))))) (stepC (setSl 8) tYesD (eCall 3 f_law_drawn_atom (aCons (eVar 0) (aCons (eVar 1) (aCons (eVar 4) (pure []))))))) oNone (oSome (eVar 2)))))
    (sSeq (sFor (srcSeq (eVar 3)) (gTupD 2 (gConsD (setSl 6) (gConsD (setSl 7) gNilD))) (sExp (eExtA (eVar 5) (eVar 7))))
    (sRet (eTup (aCons (eVar 3) (aCons (eRev (eVar 5)) (pure []))))))))
def f_law_drawn_body : Fd := runF 9 b_law_drawn_body
theorem ok_law_drawn_body {f : Addr} {fd : FuncData} (Fn : Fun K "_law_drawn_body" "_law_drawn_body" st_law_drawn_body f fd) (b_range : mg "range" = none) (b_tuple : mg "tuple" = none) (c_law_one_of : Fnk P w K mg base "_law_one_of" 2 3 f_law_one_of) (c_law_drawn_atom : Fnk P w K mg base "_law_drawn_atom" 3 4 f_law_drawn_atom) (c_law_drawn_terms : Fnk P w K mg base "_law_drawn_terms" 1 3 f_law_drawn_terms) : DG.FnG P w K mg base 5 f fd ["pen", "kinds", "most"] (spD K w mg 3 f_law_drawn_body) := by
    exact fn_ok Fn sc_law_drawn_body fun cdv A outer s H E hg hr => by
      have hN := sc_law_drawn_body.nd
      exact (s_cons (s_parV rfl (d_cons (d_call (Fnk.has c_law_drawn_terms hg hr passB) (runF_nosl _ _) rfl (d_cons (d_var 0 (pv 0)) d_nil (star_cons rfl))) (d_cons (d_lst (d_cons (d_call (Fnk.has c_law_one_of hg hr passB) (runF_nosl _ _) rfl (d_cons (d_var 0 (pv 0)) (d_cons (d_idx (d_var 0 (pv 0)) d_int) d_nil (star_cons rfl)) (star_cons rfl))) d_nil (star_cons rfl))) d_nil (star_cons rfl)) (star_cons rfl)) (v_cons (g_name 4 hN) (v_cons (g_name 5 hN) v_nil)))
    (s_cons (s_set 3 hN (d_tupOf (d_sl (d_lc (own := [("lap", 8)]) rfl hN (blkOk_by (by rfl)) (by decide) (i_rng rfl b_range (d_call (Fnk.has c_law_one_of hg hr passB) (runF_nosl _ _) rfl (d_cons (d_var 0 (pv 0)) (d_cons (d_lst (d_cons d_int (d_cons d_int (d_cons d_int (d_cons d_int (d_cons (d_var 2 (pv 2)) (d_cons d_int d_nil (star_cons rfl)) (star_cons rfl)) (star_cons rfl)) (star_cons rfl)) (star_cons rfl)) (star_cons rfl))) d_nil (star_cons rfl)) (star_cons rfl)))) (fun _ _ _ _ _ => (g_name 8 hN)) (fun _ _ _ _ _ => ts_nil) (fun _ _ _ _ _ => (d_call (Fnk.has c_law_drawn_atom hg hr passL) (runF_nosl _ _) rfl (d_cons (d_var 0 (pv 0)) (d_cons (d_var 1 (pv 1)) (d_cons (d_var 4 (pv 4)) d_nil (star_cons rfl)) (star_cons rfl)) (star_cons rfl))))) p_none (p_some (d_var 2 (pv 2)))) b_tuple))
    (s_cons (s_for (passes_of rfl) rfl (i_seq (d_var 3 (pv 3))) (g_tup rfl (g_cons (g_name 6 hN) (g_cons (g_name 7 hN) g_nil))) (s_one (s_exp (d_extA (d_var 5 (pv 5)) (d_var 7 (pv 7))))))
    (s_one (s_ret (d_tup (d_cons (d_var 3 (pv 3)) (d_cons (d_rev (d_var 5 (pv 5))) d_nil (star_cons rfl)) (star_cons rfl))))))))

abbrev st_law_drawn_deed : Stmt := top 19
theorem sc_law_drawn_deed : FnScope ["pen", "kinds", "word", "atom", "there", "unlike", "body", "term"] ["pen", "kinds"] (defScope st_law_drawn_deed) := ⟨rfl, rfl, rfl, by decide +kernel, rfl, by decide +kernel, by decide +kernel⟩
def b_law_drawn_deed : MS :=
    (sSeq (sSet 2 (eCall 2 f_law_one_of (aCons (eVar 0) (aCons (newL [(.str "put"), (.str "put"), (.str "take"), (.str "turn")]) (pure [])))))
    (sSeq (sIf (tOf (eOp fEq (eVar 2) (eC (.str "put")))) (sSeq (sAsg (eCall 3 f_law_drawn_body (aCons (eVar 0) (aCons (eVar 1) (aCons (eC (.int 2)) (pure []))))) (gTupD 2 (gConsD (setSl 6) (gConsD (setSl 4) gNilD))))
    (sRet (eTup (aCons (eVar 2) (aCons (eCall 3 f_law_drawn_atom (aCons (eVar 0) (aCons (eVar 1) (aCons (eVar 4) (pure []))))) (aCons (eVar 6) (aCons (eCall 3 f_law_drawn_pairs (aCons (eVar 0) (aCons (eVar 4) (aCons (eC (.int 2)) (pure []))))) (pure [])))))))) sNil)
    (sSeq (sSet 3 (eCall 3 f_law_drawn_atom (aCons (eVar 0) (aCons (eVar 1) (aCons (eCall 1 f_law_drawn_terms (aCons (eVar 0) (pure []))) (pure []))))))
    (sSeq (sSet 4 (eAdd (eLstOf (eIdx (eVar 3) (eC (.int 1)))) (eLst (aCons (eCall 2 f_law_one_of (aCons (eVar 0) (aCons (eIdx (eVar 0) (eC (.int 3))) (pure [])))) (pure [])))))
    (sSeq (sSet 5 (eCall 3 f_law_drawn_pairs (aCons (eVar 0) (aCons (eVar 4) (aCons (eC (.int 2)) (pure []))))))
    (sSeq (sIf (tOf (eOp fEq (eVar 2) (eC (.str "take")))) (sRet (eTup (aCons (eVar 2) (aCons (eVar 3) (aCons (eVar 5) (pure [])))))) sNil)
    (sRet (eTup (aCons (eVar 2) (aCons (eVar 3) (aCons (eVar 5) (aCons (eTupOf (eLc [7] (srcSeq (eIdx (eVar 3) (eC (.int 1)))) (stepC (setSl 7) tYesD (eCall 2 f_law_one_of (aCons (eVar 0) (aCons (eVar 4) (pure []))))))) (pure [])))))))))))))
def f_law_drawn_deed : Fd := runF 8 b_law_drawn_deed
theorem ok_law_drawn_deed {f : Addr} {fd : FuncData} (Fn : Fun K "_law_drawn_deed" "_law_drawn_deed" st_law_drawn_deed f fd) (b_list : mg "list" = none) (b_tuple : mg "tuple" = none) (c_law_one_of : Fnk P w K mg base "_law_one_of" 2 3 f_law_one_of) (c_law_drawn_atom : Fnk P w K mg base "_law_drawn_atom" 3 4 f_law_drawn_atom) (c_law_drawn_terms : Fnk P w K mg base "_law_drawn_terms" 1 3 f_law_drawn_terms) (c_law_drawn_pairs : Fnk P w K mg base "_law_drawn_pairs" 3 4 f_law_drawn_pairs) (c_law_drawn_body : Fnk P w K mg base "_law_drawn_body" 3 5 f_law_drawn_body) : DG.FnG P w K mg base 6 f fd ["pen", "kinds"] (spD K w mg 2 f_law_drawn_deed) := by
    exact fn_ok Fn sc_law_drawn_deed fun cdv A outer s H E hg hr => by
      have hN := sc_law_drawn_deed.nd
      exact (s_cons (s_set 2 hN (d_call (Fnk.has c_law_one_of hg hr passB) (runF_nosl _ _) rfl (d_cons (d_var 0 (pv 0)) (d_cons (d_lstC (by rfl) (by decide)) d_nil (star_cons rfl)) (star_cons rfl))))
    (s_cons (s_if (dt_cmp (o_eq (huB hr)) (d_var 2 (pv 2)) d_str (nomark _)) (s_cons (s_asg (d_call (Fnk.has c_law_drawn_body hg hr passB) (runF_nosl _ _) rfl (d_cons (d_var 0 (pv 0)) (d_cons (d_var 1 (pv 1)) (d_cons d_int d_nil (star_cons rfl)) (star_cons rfl)) (star_cons rfl))) (g_tup rfl (g_cons (g_name 6 hN) (g_cons (g_name 4 hN) g_nil))))
    (s_one (s_ret (d_tup (d_cons (d_var 2 (pv 2)) (d_cons (d_call (Fnk.has c_law_drawn_atom hg hr passB) (runF_nosl _ _) rfl (d_cons (d_var 0 (pv 0)) (d_cons (d_var 1 (pv 1)) (d_cons (d_var 4 (pv 4)) d_nil (star_cons rfl)) (star_cons rfl)) (star_cons rfl))) (d_cons (d_var 6 (pv 6)) (d_cons (d_call (Fnk.has c_law_drawn_pairs hg hr passB) (runF_nosl _ _) rfl (d_cons (d_var 0 (pv 0)) (d_cons (d_var 4 (pv 4)) (d_cons d_int d_nil (star_cons rfl)) (star_cons rfl)) (star_cons rfl))) d_nil (star_cons rfl)) (star_cons rfl)) (star_cons rfl)) (star_cons rfl)))))) s_nil)
    (s_cons (s_set 3 hN (d_call (Fnk.has c_law_drawn_atom hg hr passB) (runF_nosl _ _) rfl (d_cons (d_var 0 (pv 0)) (d_cons (d_var 1 (pv 1)) (d_cons (d_call (Fnk.has c_law_drawn_terms hg hr passB) (runF_nosl _ _) rfl (d_cons (d_var 0 (pv 0)) d_nil (star_cons rfl))) d_nil (star_cons rfl)) (star_cons rfl)) (star_cons rfl))))
    (s_cons (s_set 4 hN (d_add (d_lstOf (d_idx (d_var 3 (pv 3)) d_int) b_list) (d_lst (d_cons (d_call (Fnk.has c_law_one_of hg hr passB) (runF_nosl _ _) rfl (d_cons (d_var 0 (pv 0)) (d_cons (d_idx (d_var 0 (pv 0)) d_int) d_nil (star_cons rfl)) (star_cons rfl))) d_nil (star_cons rfl)))))
    (s_cons (s_set 5 hN (d_call (Fnk.has c_law_drawn_pairs hg hr passB) (runF_nosl _ _) rfl (d_cons (d_var 0 (pv 0)) (d_cons (d_var 4 (pv 4)) (d_cons d_int d_nil (star_cons rfl)) (star_cons rfl)) (star_cons rfl))))
    (s_cons (s_if (dt_cmp (o_eq (huB hr)) (d_var 2 (pv 2)) d_str (nomark _)) (s_one (s_ret (d_tup (d_cons (d_var 2 (pv 2)) (d_cons (d_var 3 (pv 3)) (d_cons (d_var 5 (pv 5)) d_nil (star_cons rfl)) (star_cons rfl)) (star_cons rfl))))) s_nil)
    (s_one (s_ret (d_tup (d_cons (d_var 2 (pv 2)) (d_cons (d_var 3 (pv 3)) (d_cons (d_var 5 (pv 5)) (d_cons (d_tupOf (d_lc (own := [("term", 7)]) rfl hN (blkOk_by (by rfl)) (by decide) (i_seq (d_idx (d_var 3 (pv 3)) d_int)) (fun _ _ _ _ _ => (g_name 7 hN)) (fun _ _ _ _ _ => ts_nil) (fun _ _ _ _ _ => (d_call (Fnk.has c_law_one_of hg hr passL) (runF_nosl _ _) rfl (d_cons (d_var 0 (pv 0)) (d_cons (d_var 4 (pv 4)) d_nil (star_cons rfl)) (star_cons rfl))))) b_tuple) d_nil (star_cons rfl)) (star_cons rfl)) (star_cons rfl)) (star_cons rfl)))))))))))

abbrev st_law_unmet : Stmt := top 20
theorem sc_law_unmet : FnScope ["deed", "atom", "found", "first", "term", "own", "one", "other"] ["deed", "atom"] (defScope st_law_unmet) := ⟨rfl, rfl, rfl, by decide +kernel, rfl, by decide +kernel, by decide +kernel⟩
def b_law_unmet : MS :=
    (sSeq (sParV 2 (aCons (newL []) (aCons eD0 (pure []))) (gConsV (setSl 2) (gConsV (setSl 3) gNilV)))
    (sSeq (sFor (srcZip (eIdx (eIdx (eVar 0) (eC (.int 1))) (eC (.int 1))) (eIdx (eVar 1) (eC (.int 1)))) (gTupD 2 (gConsD (setSl 4) (gConsD (setSl 5) gNilD))) (sIf (tOrD (tOf (eOp fGe (eVar 4) (eC (.int 0)))) (tOf (eDIn id (eVar 4) (eVar 3)))) (sExp (eApp (eVar 2) (eTup (aCons (newL []) (aCons (eLst (aCons (eVar 1) (pure []))) (aCons (eLst (aCons (eTup (aCons (eVar 5) (aCons (eDGet2 (eVar 3) (eVar 4) (eVar 4)) (pure [])))) (pure []))) (pure []))))))) (sDSet (eVar 3) (eVar 4) (eVar 5))))
    (sRet (eAdd (eVar 2) (eLc [6, 7] (srcSeq (eIdx (eVar 0) (eC (.int 2)))) (stepC (gTupD 2 (gConsD (setSl 6) (gConsD (setSl 7) gNilD))) tYesD (eTup (aCons (eLst (aCons (eTup (aCons (eDGet2 (eVar 3) (eVar 6) (eVar 6)) (aCons (eDGet2 (eVar 3) (eVar 7) (eVar 7)) (pure [])))) (pure []))) (aCons (eLst (aCons (eVar 1) (pure []))) (aCons (newL []) (pure [])))))))))))
def f_law_unmet : Fd := runF 8 b_law_unmet
theorem ok_law_unmet {f : Addr} {fd : FuncData} (Fn : Fun K "_law_unmet" "_law_unmet" st_law_unmet f fd) (b_zip : mg "zip" = none) : DG.FnG P w K mg base 1 f fd ["deed", "atom"] (spD K w mg 2 f_law_unmet) := by
    exact fn_ok Fn sc_law_unmet fun cdv A outer s H E hg hr => by
      have hN := sc_law_unmet.nd
      exact (s_cons (s_parV rfl (d_cons (d_lstC (by rfl) (by decide)) (d_cons d_d0 d_nil (star_cons rfl)) (star_cons rfl)) (v_cons (g_name 2 hN) (v_cons (g_name 3 hN) v_nil)))
    (s_cons (s_for (passes_of rfl) rfl (i_zip rfl b_zip (d_idx (d_idx (d_var 0 (pv 0)) d_int) d_int) (d_idx (d_var 1 (pv 1)) d_int)) (g_tup rfl (g_cons (g_name 4 hN) (g_cons (g_name 5 hN) g_nil))) (s_one (s_if (PW.pt (dw_or (dt_cmp o_ge (d_var 4 (pv 4)) d_int (nomark _)) (dw_or1 (dt_din (huB hr) (d_var 4 (pv 4)) (d_var 3 (pv 3)) (by with_unfolding_all rfl))))) (s_one (s_exp (d_app (d_var 2 (pv 2)) (d_tup (d_cons (d_lstC (by rfl) (by decide)) (d_cons (d_lst (d_cons (d_var 1 (pv 1)) d_nil (star_cons rfl))) (d_cons (d_lst (d_cons (d_tup (d_cons (d_var 5 (pv 5)) (d_cons (d_dget2 (huB hr) (d_var 3 (pv 3)) (d_var 4 (pv 4)) (d_var 4 (pv 4)) ⟨rfl, rfl, rfl, rfl⟩) d_nil (star_cons rfl)) (star_cons rfl))) d_nil (star_cons rfl))) d_nil (star_cons rfl)) (star_cons rfl)) (star_cons rfl)))))) (s_one (s_dset (huB hr) (d_var 3 (pv 3)) (d_var 4 (pv 4)) (d_var 5 (pv 5)))))))
    (s_one (s_ret (d_add (d_var 2 (pv 2)) (d_lc (own := [("one", 6), ("other", 7)]) rfl hN (blkOk_by (by rfl)) (by decide) (i_seq (d_idx (d_var 0 (pv 0)) d_int)) (fun _ _ _ _ _ => (g_tup rfl (g_cons (g_name 6 hN) (g_cons (g_name 7 hN) g_nil)))) (fun _ _ _ _ _ => ts_nil) (fun _ _ _ _ _ => (d_tup (d_cons (d_lst (d_cons (d_tup (d_cons (d_dget2 (huB hr) (d_var 3 (pv 3)) (d_var 6 (pv 6)) (d_var 6 (pv 6)) ⟨rfl, rfl, rfl, rfl⟩) (d_cons (d_dget2 (huB hr) (d_var 3 (pv 3)) (d_var 7 (pv 7)) (d_var 7 (pv 7)) ⟨rfl, rfl, rfl, rfl⟩) d_nil (star_cons rfl)) (star_cons rfl))) d_nil (star_cons rfl))) (d_cons (d_lst (d_cons (d_var 1 (pv 1)) d_nil (star_cons rfl))) (d_cons (d_lstC (by rfl) (by decide)) d_nil (star_cons rfl)) (star_cons rfl)) (star_cons rfl))))))))))

abbrev st_law_cases : Stmt := top 21
theorem sc_law_cases : FnScope ["deed", "atom", "far", "new", "own", "found", "body", "pairs", "terms", "term", "kind", "one", "other"] ["deed", "atom", "far"] (defScope st_law_cases) := ⟨rfl, rfl, rfl, by decide +kernel, rfl, by decide +kernel, by decide +kernel⟩
def b_law_cases : MS :=
    (sSeq (sIf (tOf (eOp fNe (eIdx (eIdx (eVar 0) (eC (.int 1))) (eC (.int 0))) (eIdx (eVar 1) (eC (.int 0))))) (sRet (eLst (aCons (eTup (aCons (newL []) (aCons (eLst (aCons (eVar 1) (pure []))) (aCons (newL []) (pure []))))) (pure [])))) sNil)
    (sSeq (sSet 3 (eDictOf (eLc [9] (srcSeq (eC (.tuple [(.int (-1)), (.int (-2)), (.int (-3)), (.int (-4))]))) (stepC (setSl 9) tYesD (eTup (aCons (eVar 9) (aCons (eOp fSub (eVar 9) (eVar 2)) (pure []))))))))
    (sSeq (sSet 4 (eTupOf (eLc [9] (srcSeq (eIdx (eIdx (eVar 0) (eC (.int 1))) (eC (.int 1)))) (stepC (setSl 9) tYesD (eDGet2 (eVar 3) (eVar 9) (eVar 9))))))
    (sSeq (sIf (tOf (eOp fEq (eIdx (eVar 0) (eC (.int 0))) (eC (.str "put")))) (sSeq (sSet 6 (eLc [10, 8] (srcSeq (eIdx (eVar 0) (eC (.int 2)))) (stepC (gTupD 2 (gConsD (setSl 10) (gConsD (setSl 8) gNilD))) tYesD (eTup (aCons (eVar 10) (aCons (eTupOf (eLc [9] (srcSeq (eVar 8)) (stepC (setSl 9) tYesD (eDGet2 (eVar 3) (eVar 9) (eVar 9))))) (pure [])))))))
    (sSeq (sSet 7 (eLc [11, 12] (srcSeq (eIdx (eVar 0) (eC (.int 3)))) (stepC (gTupD 2 (gConsD (setSl 11) (gConsD (setSl 12) gNilD))) tYesD (eTup (aCons (eDGet2 (eVar 3) (eVar 11) (eVar 11)) (aCons (eDGet2 (eVar 3) (eVar 12) (eVar 12)) (pure [])))))))
    (sRet (eLst (aCons (eTup (aCons (newL []) (aCons (eLst (aCons (eVar 1) (pure []))) (aCons (newL []) (pure []))))) (aCons (eTup (aCons (eZipV true (eVar 4) (eIdx (eVar 1) (eC (.int 1)))) (aCons (eVar 6) (aCons (eVar 7) (pure []))))) (pure []))))))) sNil)
    (sSeq (sSet 5 (eCall 2 f_law_unmet (aCons (eVar 0) (aCons (eVar 1) (pure [])))))
    (sSeq (sIf (tOf (eOp fEq (eIdx (eVar 0) (eC (.int 0))) (eC (.str "turn")))) (sSeq (sSet 8 (eLc [9] (srcSeq (eIdx (eVar 0) (eC (.int 3)))) (stepC (setSl 9) tYesD (eDGet2 (eVar 3) (eVar 9) (eVar 9)))))
    (sSeq (sSet 7 (eLc [11, 12] (srcSeq (eIdx (eVar 0) (eC (.int 2)))) (stepC (gTupD 2 (gConsD (setSl 11) (gConsD (setSl 12) gNilD))) tYesD (eTup (aCons (eDGet2 (eVar 3) (eVar 11) (eVar 11)) (aCons (eDGet2 (eVar 3) (eVar 12) (eVar 12)) (pure [])))))))
    (sExp (eApp (eVar 5) (eTup (aCons (eZipV true (eVar 8) (eIdx (eVar 1) (eC (.int 1)))) (aCons (eLst (aCons (eTup (aCons (eIdx (eVar 1) (eC (.int 0))) (aCons (eVar 4) (pure [])))) (pure []))) (aCons (eVar 7) (pure []))))))))) sNil)
    (sRet (eVar 5))))))))
def f_law_cases : Fd := runF 13 b_law_cases
theorem ok_law_cases {f : Addr} {fd : FuncData} (Fn : Fun K "_law_cases" "_law_cases" st_law_cases f fd) (b_dict : mg "dict" = none) (b_list : mg "list" = none) (b_tuple : mg "tuple" = none) (b_zip : mg "zip" = none) (c_law_unmet : Fnk P w K mg base "_law_unmet" 2 1 f_law_unmet) : DG.FnG P w K mg base 2 f fd ["deed", "atom", "far"] (spD K w mg 3 f_law_cases) := by
    exact fn_ok Fn sc_law_cases fun cdv A outer s H E hg hr => by
      have hN := sc_law_cases.nd
      exact (s_cons (s_if (dt_cmp (o_ne (huB hr)) (d_idx (d_idx (d_var 0 (pv 0)) d_int) d_int) (d_idx (d_var 1 (pv 1)) d_int) (nomark _)) (s_one (s_ret (d_lst (d_cons (d_tup (d_cons (d_lstC (by rfl) (by decide)) (d_cons (d_lst (d_cons (d_var 1 (pv 1)) d_nil (star_cons rfl))) (d_cons (d_lstC (by rfl) (by decide)) d_nil (star_cons rfl)) (star_cons rfl)) (star_cons rfl))) d_nil (star_cons rfl))))) s_nil)
    (s_cons (s_set 3 hN (d_dictOf rfl (d_lc (own := [("term", 9)]) rfl hN (blkOk_by (by rfl)) (by decide) (i_seq (d_const _ (by rfl))) (fun _ _ _ _ _ => (g_name 9 hN)) (fun _ _ _ _ _ => ts_nil) (fun _ _ _ _ _ => (d_tup (d_cons (d_var 9 (pv 9)) (d_cons (d_op o_sub (d_var 9 (pv 9)) (d_var 2 (pv 2))) d_nil (star_cons rfl)) (star_cons rfl))))) b_dict))
    (s_cons (s_set 4 hN (d_tupOf (d_lc (own := [("term", 9)]) rfl hN (blkOk_by (by rfl)) (by decide) (i_seq (d_idx (d_idx (d_var 0 (pv 0)) d_int) d_int)) (fun _ _ _ _ _ => (g_name 9 hN)) (fun _ _ _ _ _ => ts_nil) (fun _ _ _ _ _ => (d_dget2 (huB hr) (d_var 3 (pv 3)) (d_var 9 (pv 9)) (d_var 9 (pv 9)) ⟨rfl, rfl, rfl, rfl⟩))) b_tuple))
    (s_cons (s_if (dt_cmp (o_eq (huB hr)) (d_idx (d_var 0 (pv 0)) d_int) d_str (nomark _)) (s_cons (s_setLc 6 (own := [("kind", 10), ("terms", 8)]) rfl hN (blkOk_by (by rfl)) (by decide) (i_seq (d_idx (d_var 0 (pv 0)) d_int)) (fun _ _ _ _ _ => (g_tup rfl (g_cons (g_name 10 hN) (g_cons (g_name 8 hN) g_nil)))) (fun _ _ _ _ _ => ts_nil) (fun _ _ _ _ _ => (d_tup (d_cons (d_var 10 (pv 10)) (d_cons (d_tupOf (d_lc (own := [("term", 9)]) rfl hN (blkOk_by (by rfl)) (by decide) (i_seq (d_var 8 (pv 8))) (fun _ _ _ _ _ => (g_name 9 hN)) (fun _ _ _ _ _ => ts_nil) (fun _ _ _ _ _ => (d_dget2 (huB hr) (d_var 3 (pv 3)) (d_var 9 (pv 9)) (d_var 9 (pv 9)) ⟨rfl, rfl, rfl, rfl⟩))) b_tuple) d_nil (star_cons rfl)) (star_cons rfl)))))
    (s_cons (s_setLc 7 (own := [("one", 11), ("other", 12)]) rfl hN (blkOk_by (by rfl)) (by decide) (i_seq (d_idx (d_var 0 (pv 0)) d_int)) (fun _ _ _ _ _ => (g_tup rfl (g_cons (g_name 11 hN) (g_cons (g_name 12 hN) g_nil)))) (fun _ _ _ _ _ => ts_nil) (fun _ _ _ _ _ => (d_tup (d_cons (d_dget2 (huB hr) (d_var 3 (pv 3)) (d_var 11 (pv 11)) (d_var 11 (pv 11)) ⟨rfl, rfl, rfl, rfl⟩) (d_cons (d_dget2 (huB hr) (d_var 3 (pv 3)) (d_var 12 (pv 12)) (d_var 12 (pv 12)) ⟨rfl, rfl, rfl, rfl⟩) d_nil (star_cons rfl)) (star_cons rfl)))))
    (s_one (s_ret (d_lst (d_cons (d_tup (d_cons (d_lstC (by rfl) (by decide)) (d_cons (d_lst (d_cons (d_var 1 (pv 1)) d_nil (star_cons rfl))) (d_cons (d_lstC (by rfl) (by decide)) d_nil (star_cons rfl)) (star_cons rfl)) (star_cons rfl))) (d_cons (d_tup (d_cons (d_lstZip rfl (d_var 4 (pv 4)) (d_idx (d_var 1 (pv 1)) d_int) b_list b_zip) (d_cons (d_var 6 (pv 6)) (d_cons (d_var 7 (pv 7)) d_nil (star_cons rfl)) (star_cons rfl)) (star_cons rfl))) d_nil (star_cons rfl)) (star_cons rfl))))))) s_nil)
    (s_cons (s_set 5 hN (d_call (Fnk.has c_law_unmet hg hr passB) (runF_nosl _ _) rfl (d_cons (d_var 0 (pv 0)) (d_cons (d_var 1 (pv 1)) d_nil (star_cons rfl)) (star_cons rfl))))
    (s_cons (s_if (dt_cmp (o_eq (huB hr)) (d_idx (d_var 0 (pv 0)) d_int) d_str (nomark _)) (s_cons (s_setLc 8 (own := [("term", 9)]) rfl hN (blkOk_by (by rfl)) (by decide) (i_seq (d_idx (d_var 0 (pv 0)) d_int)) (fun _ _ _ _ _ => (g_name 9 hN)) (fun _ _ _ _ _ => ts_nil) (fun _ _ _ _ _ => (d_dget2 (huB hr) (d_var 3 (pv 3)) (d_var 9 (pv 9)) (d_var 9 (pv 9)) ⟨rfl, rfl, rfl, rfl⟩)))
    (s_cons (s_setLc 7 (own := [("one", 11), ("other", 12)]) rfl hN (blkOk_by (by rfl)) (by decide) (i_seq (d_idx (d_var 0 (pv 0)) d_int)) (fun _ _ _ _ _ => (g_tup rfl (g_cons (g_name 11 hN) (g_cons (g_name 12 hN) g_nil)))) (fun _ _ _ _ _ => ts_nil) (fun _ _ _ _ _ => (d_tup (d_cons (d_dget2 (huB hr) (d_var 3 (pv 3)) (d_var 11 (pv 11)) (d_var 11 (pv 11)) ⟨rfl, rfl, rfl, rfl⟩) (d_cons (d_dget2 (huB hr) (d_var 3 (pv 3)) (d_var 12 (pv 12)) (d_var 12 (pv 12)) ⟨rfl, rfl, rfl, rfl⟩) d_nil (star_cons rfl)) (star_cons rfl)))))
    (s_one (s_exp (d_app (d_var 5 (pv 5)) (d_tup (d_cons (d_lstZip rfl (d_var 8 (pv 8)) (d_idx (d_var 1 (pv 1)) d_int) b_list b_zip) (d_cons (d_lst (d_cons (d_tup (d_cons (d_idx (d_var 1 (pv 1)) d_int) (d_cons (d_var 4 (pv 4)) d_nil (star_cons rfl)) (star_cons rfl))) d_nil (star_cons rfl))) (d_cons (d_var 7 (pv 7)) d_nil (star_cons rfl)) (star_cons rfl)) (star_cons rfl)))))))) s_nil)
    (s_one (s_ret (d_var 5 (pv 5))))))))))

abbrev st_law_right : Stmt := top 22
theorem sc_law_right : FnScope ["deed", "atom", "kept", "due", "equations", "atoms", "pairs"] ["deed", "atom"] (defScope st_law_right) := ⟨rfl, rfl, rfl, by decide +kernel, rfl, by decide +kernel, by decide +kernel⟩
def b_law_right : MS :=
    (sSeq (sSet 2 (eReprA (eTup (aCons (eVar 0) (aCons (eVar 1) (pure []))))))
    (sSeq (sSet 3 (eLc [4, 5, 6] (srcSeq (eCall 3 f_law_cases (aCons (eVar 0) (aCons (eVar 1) (aCons (eC (.int 8)) (pure [])))))) (stepC (gTupD 3 (gConsD (setSl 4) (gConsD (setSl 5) (gConsD (setSl 6) gNilD)))) tYesD (eTup (aCons (eTupOf (eVar 4)) (aCons (eTupOf (eVar 5)) (aCons (eTupOf (eVar 6)) (pure []))))))))
    (sRet (eAndD (eOp fEq (eReprA (eCall 2 fcases (aCons (eVar 0) (aCons (eVar 1) (pure []))))) (eReprA (eTupOf (eVar 3)))) (eOp fEq (eReprA (eTup (aCons (eVar 0) (aCons (eVar 1) (pure []))))) (eVar 2))))))
def f_law_right : Fd := runF 7 b_law_right
theorem ok_law_right {f : Addr} {fd : FuncData} (Fn : Fun K "_law_right" "_law_right" st_law_right f fd) (b_repr : mg "repr" = none) (b_tuple : mg "tuple" = none) (ccases : Fnk P w K mg base "cases" 2 4 fcases) (c_law_cases : Fnk P w K mg base "_law_cases" 3 2 f_law_cases) : DG.FnG P w K mg base 5 f fd ["deed", "atom"] (spD K w mg 2 f_law_right) := by
    exact fn_ok Fn sc_law_right fun cdv A outer s H E hg hr => by
      have hN := sc_law_right.nd
      exact (s_cons (s_set 2 hN (d_reprA hg (huB hr) (d_tup (d_cons (d_var 0 (pv 0)) (d_cons (d_var 1 (pv 1)) d_nil (star_cons rfl)) (star_cons rfl))) b_repr))
    (s_cons (s_setLc 3 (own := [("equations", 4), ("atoms", 5), ("pairs", 6)]) rfl hN (blkOk_by (by rfl)) (by decide) (i_seq (d_call (Fnk.has c_law_cases hg hr passB) (runF_nosl _ _) rfl (d_cons (d_var 0 (pv 0)) (d_cons (d_var 1 (pv 1)) (d_cons d_int d_nil (star_cons rfl)) (star_cons rfl)) (star_cons rfl)))) (fun _ _ _ _ _ => (g_tup rfl (g_cons (g_name 4 hN) (g_cons (g_name 5 hN) (g_cons (g_name 6 hN) g_nil))))) (fun _ _ _ _ _ => ts_nil) (fun _ _ _ _ _ => (d_tup (d_cons (d_tupOf (d_var 4 (pv 4)) b_tuple) (d_cons (d_tupOf (d_var 5 (pv 5)) b_tuple) (d_cons (d_tupOf (d_var 6 (pv 6)) b_tuple) d_nil (star_cons rfl)) (star_cons rfl)) (star_cons rfl)))))
    (s_one (s_ret (d_and (d_cmp (o_eq (huB hr)) (d_reprA hg (huB hr) (d_call (Fnk.has ccases hg hr passB) (runF_nosl _ _) rfl (d_cons (d_var 0 (pv 0)) (d_cons (d_var 1 (pv 1)) d_nil (star_cons rfl)) (star_cons rfl))) b_repr) (d_reprA hg (huB hr) (d_tupOf (d_var 3 (pv 3)) b_tuple) b_repr) (nomark _)) (d_one (d_cmp (o_eq (huB hr)) (d_reprA hg (huB hr) (d_tup (d_cons (d_var 0 (pv 0)) (d_cons (d_var 1 (pv 1)) d_nil (star_cons rfl)) (star_cons rfl))) b_repr) (d_var 2 (pv 2)) (nomark _))))))))

abbrev st_law_wide_atom : Stmt := top 23
theorem sc_law_wide_atom : FnScope ["pen", "kinds", "kind", "lap"] ["pen", "kinds", "kind"] (defScope st_law_wide_atom) := ⟨rfl, rfl, rfl, by decide +kernel, rfl, by decide +kernel, by decide +kernel⟩
def b_law_wide_atom : MS :=
    (sRet (eTup (aCons (eVar 2) (aCons (eTupOf (eLc [3] (srcRng (eIdx (eVar 1) (eVar 2))) (stepC (setSl 3) tYesD (eCall 2 f_law_one_of (aCons (eVar 0) (aCons (newL [(.int (-1)), (.int (-2)), (.int (-3)), (.int (-8)), (.int 0), (.int 1), (.int 3), (.int 5), (.int 9)]) (pure []))))))) (pure [])))))
def f_law_wide_atom : Fd := runF 4 b_law_wide_atom
theorem ok_law_wide_atom {f : Addr} {fd : FuncData} (Fn : Fun K "_law_wide_atom" "_law_wide_atom" st_law_wide_atom f fd) (b_range : mg "range" = none) (b_tuple : mg "tuple" = none) (c_law_one_of : Fnk P w K mg base "_law_one_of" 2 3 f_law_one_of) : DG.FnG P w K mg base 4 f fd ["pen", "kinds", "kind"] (spD K w mg 3 f_law_wide_atom) := by
    exact fn_ok Fn sc_law_wide_atom fun cdv A outer s H E hg hr => by
      have hN := sc_law_wide_atom.nd
      exact (s_one (s_ret (d_tup (d_cons (d_var 2 (pv 2)) (d_cons (d_tupOf (d_lc (own := [("lap", 3)]) rfl hN (blkOk_by (by rfl)) (by decide) (i_rng rfl b_range (d_idx (d_var 1 (pv 1)) (d_var 2 (pv 2)))) (fun _ _ _ _ _ => (g_name 3 hN)) (fun _ _ _ _ _ => ts_nil) (fun _ _ _ _ _ => (d_call (Fnk.has c_law_one_of hg hr passL) (runF_nosl _ _) rfl (d_cons (d_var 0 (pv 0)) (d_cons (d_lstC (by rfl) (by decide)) d_nil (star_cons rfl)) (star_cons rfl))))) b_tuple) d_nil (star_cons rfl)) (star_cons rfl)))))

abbrev stlaw : Stmt := top 24
theorem sclaw : FnScope ["script", "pen", "lap", "kinds", "kind", "deed", "many", "body", "atom", "part", "bare", "parts", "due"] ["script"] (defScope stlaw) := ⟨rfl, rfl, rfl, by decide +kernel, rfl, by decide +kernel, by decide +kernel⟩
def blaw : MS :=
    (sSeq (sSet 1 (eCall 1 f_law_pen (aCons (eVar 0) (pure []))))
    (sSeq (sFor (srcRng (eC (.int 8))) (setSl 2) (sSeq (sSet 3 (eCall 1 f_law_drawn_kinds (aCons (eVar 1) (pure []))))
    (sSeq (sPar3 5 6 7 (aCons (eCall 2 f_law_drawn_deed (aCons (eVar 1) (aCons (eVar 3) (pure [])))) (aCons (eC (.int 1)) (aCons (newL []) (pure [])))))
    (sSeq (sFor (srcSeq (eLst (aCons (eIdx (eIdx (eVar 5) (eC (.int 1))) (eC (.int 0))) (aCons (eIdx (eIdx (eVar 5) (eC (.int 1))) (eC (.int 0))) (aCons (eCall 2 f_law_draw (aCons (eVar 1) (aCons (eFn lenD (eVar 3)) (pure [])))) (pure [])))))) (setSl 4) (sSeq (sSet 8 (eCall 3 f_law_wide_atom (aCons (eVar 1) (aCons (eVar 3) (aCons (eVar 4) (pure []))))))
    (sSeq (sIf (tNotD (tOf (eCall 2 f_law_right (aCons (eVar 5) (aCons (eVar 8) (pure [])))))) (sRet (eC (.bool false))) sNil)
    (sPar 6 7 (aCons (eMul (eVar 6) (eFn lenD (eCall 2 fcases (aCons (eVar 5) (aCons (eVar 8) (pure [])))))) (aCons (eAdd (eVar 7) (eLst (aCons (eVar 8) (pure [])))) (pure [])))))))
    (sSeq (sPar 9 10 (aCons (eTup (aCons (eC (.tuple [])) (aCons (eTupOf (eVar 7)) (aCons (eC (.tuple [])) (pure []))))) (aCons (eC (.tuple [(.tuple []), (.tuple []), (.tuple [])])) (pure []))))
    (sFor (srcSeq (eTup (aCons (eTup (aCons (eTup (aCons (eVar 9) (pure []))) (aCons (eVar 6) (pure [])))) (aCons (eC (.tuple [(.tuple []), (.int 0)])) (aCons (eTup (aCons (eTup (aCons (eVar 10) (pure []))) (aCons (eC (.int 1)) (pure [])))) (aCons (eTup (aCons (eTup (aCons (eVar 10) (aCons (eVar 9) (pure [])))) (aCons (eAdd (eVar 6) (eC (.int 1))) (pure [])))) (pure []))))))) (gTupD 2 (gConsD (setSl 11) (gConsD (setSl 12) gNilD))) (sIf (tOf (eOp fNe (eReprA (eCall 2 fchoices_at (aCons (eVar 5) (aCons (eTup (aCons (eC (.int 0)) (aCons (eVar 11) (pure [])))) (pure []))))) (eReprA (eVar 12)))) (sRet (eC (.bool false))) sNil)))))))
    (sRet (eC (.bool true)))))
def flaw : Fd := runF 13 blaw
theorem oklaw {f : Addr} {fd : FuncData} (Fn : Fun K "law" "law" stlaw f fd) (b_len : mg "len" = none) (b_range : mg "range" = none) (b_repr : mg "repr" = none) (b_tuple : mg "tuple" = none) (ccases : Fnk P w K mg base "cases" 2 4 fcases) (cchoices_at : Fnk P w K mg base "choices_at" 2 5 fchoices_at) (c_law_pen : Fnk P w K mg base "_law_pen" 1 1 f_law_pen) (c_law_draw : Fnk P w K mg base "_law_draw" 2 2 f_law_draw) (c_law_drawn_kinds : Fnk P w K mg base "_law_drawn_kinds" 1 4 f_law_drawn_kinds) (c_law_drawn_deed : Fnk P w K mg base "_law_drawn_deed" 2 6 f_law_drawn_deed) (c_law_right : Fnk P w K mg base "_law_right" 2 5 f_law_right) (c_law_wide_atom : Fnk P w K mg base "_law_wide_atom" 3 4 f_law_wide_atom) : DG.FnG P w K mg base 7 f fd ["script"] (spD K w mg 1 flaw) := by
    exact fn_ok Fn sclaw fun cdv A outer s H E hg hr => by
      have hN := sclaw.nd
      exact (s_cons (s_set 1 hN (d_call (Fnk.has c_law_pen hg hr passB) (runF_nosl _ _) rfl (d_cons (d_var 0 (pv 0)) d_nil (star_cons rfl))))
    (s_cons (s_for (passes_of rfl) rfl (i_rng rfl b_range d_int) (g_name 2 hN) (s_cons (s_set 3 hN (d_call (Fnk.has c_law_drawn_kinds hg hr passB) (runF_nosl _ _) rfl (d_cons (d_var 1 (pv 1)) d_nil (star_cons rfl))))
    (s_cons (s_par3 (i := 5) (j := 6) (l := 7) rfl hN (d_cons (d_call (Fnk.has c_law_drawn_deed hg hr passB) (runF_nosl _ _) rfl (d_cons (d_var 1 (pv 1)) (d_cons (d_var 3 (pv 3)) d_nil (star_cons rfl)) (star_cons rfl))) (d_cons d_int (d_cons (d_lstC (by rfl) (by decide)) d_nil (star_cons rfl)) (star_cons rfl)) (star_cons rfl)))
    (s_cons (s_for (passes_of rfl) rfl (i_seq (d_lst (d_cons (d_idx (d_idx (d_var 5 (pv 5)) d_int) d_int) (d_cons (d_idx (d_idx (d_var 5 (pv 5)) d_int) d_int) (d_cons (d_call (Fnk.has c_law_draw hg hr passB) (runF_nosl _ _) rfl (d_cons (d_var 1 (pv 1)) (d_cons (d_len (d_var 3 (pv 3)) rfl b_len) d_nil (star_cons rfl)) (star_cons rfl))) d_nil (star_cons rfl)) (star_cons rfl)) (star_cons rfl)))) (g_name 4 hN) (s_cons (s_set 8 hN (d_call (Fnk.has c_law_wide_atom hg hr passB) (runF_nosl _ _) rfl (d_cons (d_var 1 (pv 1)) (d_cons (d_var 3 (pv 3)) (d_cons (d_var 4 (pv 4)) d_nil (star_cons rfl)) (star_cons rfl)) (star_cons rfl))))
    (s_cons (s_if (dt_not (dt_val (d_call (Fnk.has c_law_right hg hr passB) (runF_nosl _ _) rfl (d_cons (d_var 5 (pv 5)) (d_cons (d_var 8 (pv 8)) d_nil (star_cons rfl)) (star_cons rfl))))) (s_one (s_ret d_bl)) s_nil)
    (s_one (s_par (i := 6) (j := 7) rfl hN (d_cons (d_mul (d_var 6 (pv 6)) (d_len (d_call (Fnk.has ccases hg hr passB) (runF_nosl _ _) rfl (d_cons (d_var 5 (pv 5)) (d_cons (d_var 8 (pv 8)) d_nil (star_cons rfl)) (star_cons rfl))) rfl b_len)) (d_cons (d_add (d_var 7 (pv 7)) (d_lst (d_cons (d_var 8 (pv 8)) d_nil (star_cons rfl)))) d_nil (star_cons rfl)) (star_cons rfl)))))))
    (s_cons (s_par (i := 9) (j := 10) rfl hN (d_cons (d_tup (d_cons (d_const _ (by rfl)) (d_cons (d_tupOf (d_var 7 (pv 7)) b_tuple) (d_cons (d_const _ (by rfl)) d_nil (star_cons rfl)) (star_cons rfl)) (star_cons rfl))) (d_cons (d_const _ (by rfl)) d_nil (star_cons rfl)) (star_cons rfl)))
    (s_one (s_for (passes_of rfl) rfl (i_seq (d_tup (d_cons (d_tup (d_cons (d_tup (d_cons (d_var 9 (pv 9)) d_nil (star_cons rfl))) (d_cons (d_var 6 (pv 6)) d_nil (star_cons rfl)) (star_cons rfl))) (d_cons (d_const _ (by rfl)) (d_cons (d_tup (d_cons (d_tup (d_cons (d_var 10 (pv 10)) d_nil (star_cons rfl))) (d_cons d_int d_nil (star_cons rfl)) (star_cons rfl))) (d_cons (d_tup (d_cons (d_tup (d_cons (d_var 10 (pv 10)) (d_cons (d_var 9 (pv 9)) d_nil (star_cons rfl)) (star_cons rfl))) (d_cons (d_add (d_var 6 (pv 6)) d_int) d_nil (star_cons rfl)) (star_cons rfl))) d_nil (star_cons rfl)) (star_cons rfl)) (star_cons rfl)) (star_cons rfl)))) (g_tup rfl (g_cons (g_name 11 hN) (g_cons (g_name 12 hN) g_nil))) (s_one (s_if (dt_cmp (o_ne (huB hr)) (d_reprA hg (huB hr) (d_call (Fnk.has cchoices_at hg hr passB) (runF_nosl _ _) rfl (d_cons (d_var 5 (pv 5)) (d_cons (d_tup (d_cons d_int (d_cons (d_var 11 (pv 11)) d_nil (star_cons rfl)) (star_cons rfl))) d_nil (star_cons rfl)) (star_cons rfl))) b_repr) (d_reprA hg (huB hr) (d_var 12 (pv 12)) b_repr) (nomark _)) (s_one (s_ret d_bl)) s_nil)))))))))
    (s_one (s_ret d_bl))))

end
end K13
namespace K13
open PySem DL L2 MA MB
/-! what is shared with other laws: drawn kinds, atoms, terms, pairs, bodies -/
abbrev kT (ks : List Int) : PyData := .tuple (ks.map .int)
theorem idx_nat {ks : List Int} {k : Int} (h : 0 ≤ k ∧ k < ks.length) : idxD (kT ks) (.int k) = some (.int (ks.getD k.toNat 0)) := by
  show atI (ks.map PyData.int) k = _
  have hn : k.toNat < ks.length := by omega
  unfold atI ixN
  rw [if_pos h.1, if_pos (by simpa using h.2)]
  simp [List.getElem?_eq_getElem hn]
theorem len_kT (ks : List Int) : lenD (kT ks) = some (.int ks.length) := by simp [lenD, asSeq]
@[simp] theorem len_tup (ds : List PyData) : lenD (.tuple ds) = some (.int ds.length) := rfl
@[simp] theorem isT_tup (ds : List PyData) : isT "tuple" (.tuple ds) = some true := rfl
@[simp] theorem eq_ints' (i j : Int) : fEq (.int i) (.int j) = some (.bool (i == j)) := eq_ints i j
@[simp] theorem ne_ints (i j : Int) : fNe (.int i) (.int j) = some (.bool (!(i == j))) := by
  simp [fNe, eqD, PyData.plain, PyData.depth, PyData.eqv]
theorem lt_int (i j : Int) : fLtD (.int i) (.int j) = some (.bool (decide (i < j))) := by
  rw [ltD_int, W.dataLt_int]
theorem kind_le {ks : List Int} (h : ∀ k ∈ ks, 0 ≤ k ∧ k ≤ 2) {k : Int} (hk : 0 ≤ k ∧ k < ks.length) : 0 ≤ ks.getD k.toNat 0 ∧ ks.getD k.toNat 0 ≤ 2 := by
  have hn : k.toNat < ks.length := by omega
  refine h _ ?_
  simp [List.getD_eq_getElem?_getD, List.getElem?_eq_getElem hn]
@[simp] theorem oSomeS (t : M VD) (S : DS) : oSome t S = R.bind (t S) fun p => (match p.1 with
  | .dat (.int i) => (.ok (some i, p.2) : R (Option Int × DS))
  | _ => .bad) := by
  show R.bind (t S) (fun p => (match p.1 with | .dat (.int i) => (pure (some i) : M (Option Int)) | _ => M.bad) p.2) = _
  congr 1; funext p
  obtain ⟨x, S'⟩ := p
  cases x with
  | dat d => cases d <;> rfl
  | _ => rfl
@[simp] theorem isRfS (j : Nat) (S : DS) : isRf (.rf j) S = (match S.ce[j]? with
  | some (.ls _ _) => .ok ((), S)
  | _ => .bad) := by
  first | rfl | (unfold isRf; dsimp only; rcases S.ce[j]? with _ | _ | _ <;> rfl)
@[simp] theorem eAppS (to te : M VD) (S : DS) : eApp to te S = R.bind (to S) fun p => R.bind (isRf p.1 p.2) fun u => R.bind (te u.2) fun q => pushC p.1 q.1 q.2 := rfl
@[simp] theorem pushCD (j : Nat) (d : PyData) (S : DS) : pushC (.rf j) (.dat d) S = (match S.ce[j]? with
    | some (.ls true ds) => if ds.length < 16777216 then .ok (.dat .none, { S with ce := S.ce.set j (.ls true (ds ++ [d])) }) else .bad
    | _ => .bad) := rfl
@[simp] theorem setNew (ce : Ce) (c c' : Cl) : (ce ++ [c]).set ce.length c' = ce ++ [c'] := by
  rw [List.set_append_right _ _ (Nat.le_refl _)]; simp
@[simp] theorem addDL (xs ys : List PyData) (S : DS) : addD (.list xs) (.list ys) S = R.bind (chk (decide (xs.length + ys.length ≤ 16777216)) S) fun p => newL (xs ++ ys) p.2 := rfl
@[simp] theorem addDT (xs ys : List PyData) (S : DS) : addD (.tuple xs) (.tuple ys) S = R.bind (chk (decide (xs.length + ys.length ≤ 16777216)) S) fun p => .ok (.dat (.tuple (xs ++ ys)), p.2) := rfl
@[simp] theorem addDI (i j : Int) (S : DS) : addD (.int i) (.int j) S = .ok (.dat (.int (i + j)), S) := rfl
def encA (a : Int × List Int) : PyData := .tuple [.int a.1, kT a.2]
theorem same_fresh : f_law_fresh = MA.f_law_fresh := rfl
theorem same_draw : f_law_draw = MA.f_law_draw := rfl
theorem same_one : f_law_one_of = MA.f_law_one_of := rfl
abbrev penKs : List (List Int) := [[1, 5], [0, 5], [0, 9]]
abbrev kindsL : List (List Int) := [[1, 1], [2], [1, 2], [2, 2], [2, 1, 0], [1, 1, 1], [1, 0, 1, 2]]
theorem kinds_gen {A B : List PyData} {j : Nat} {ks : List Int} {ce : Ce} (h : Pn j ks ce) (hA : ∀ d ∈ A, ∃ k ∈ penKs, d = .list (k.map .int)) (h0 : A ≠ []) (h1 : B ≠ []) (hl : A.length ≤ 1000) (hb : B.length ≤ 1000) :
    ∃ (d : PyData) (ks' : List Int) (ce' : Ce), runF 1 (sSeq (sAsg (eCall 2 f_law_one_of (aCons (eVar 0) (aCons (newL A) (pure [])))) (gSubD (eVar 0) (eC (.int 3)))) (sRet (eCall 2 f_law_one_of (aCons (eVar 0) (aCons (newL B) (pure [])))))) [.rf j] ⟨[], ce⟩ = .ok (.dat d, ⟨[], ce'⟩) ∧ d ∈ B ∧ ks' ∈ penKs ∧ Kp j ks' ce ce' := by
  have hj := h.lt
  obtain ⟨d1, ce1, e1, hd1, hk1⟩ := one_sp (i := ce.length) (h.app [(.ls true A)]) (ds := A) (fl := true) (by simp) (by omega) h0 (by omega)
  obtain ⟨k, hk, rfl⟩ := hA d1 hd1
  obtain ⟨gs, s, p, ep⟩ := hk1.pn
  have l1 : ce1.length = ce.length + 1 := by have := hk1.1; simpa using this
  have hj1 : j < ce1.length := by omega
  have kp2 : Kp j k (ce ++ [(.ls true A)]) (ce1.set j (.ls true (Pen gs s p (.list (k.map .int))))) := hk1.trans (Kp.of_set hj1)
  obtain ⟨d2, ce2, e2, hd2, hk2⟩ := one_sp (i := ce1.length) (kp2.pn.app [(.ls true B)]) (ds := B) (fl := true) (by simp) (by omega) h1 (by omega)
  obtain ⟨c3, rfl, hk3⟩ := hk2.split (by simp; omega)
  have kk := (kp2.trans hk3).cut hj
  refine ⟨d2, k, c3.take ce.length, ?_, hd2, hk, kk⟩
  rw [runFS]
  have ix : ixN 4 3 = some 3 := rfl
  have st : (Pen gs s p (.list (ks.map .int))).set 3 (.list (k.map .int)) = Pen gs s p (.list (k.map .int)) := rfl
  have tk : (c3 ++ [(Cl.ls true B)]).take ce.length = c3.take ce.length := by rw [List.take_append_of_le_length]; have := hk3.1; simp at this; omega
  simp [same_one, e1, gSubD, setC, ep, ix, e2, tk, -List.take_append]
theorem kinds_sp {j : Nat} {ks : List Int} {ce : Ce} (h : Pn j ks ce) : ∃ (kk ks' : List Int) (ce' : Ce), f_law_drawn_kinds [.rf j] ⟨[], ce⟩ = .ok (.dat (kT kk), ⟨[], ce'⟩) ∧ kk ∈ kindsL ∧ ks' ∈ penKs ∧ Kp j ks' ce ce' := by
  obtain ⟨d, ks', ce', e, hd, hk, kp⟩ := kinds_gen (A := [(.list [(.int 1), (.int 5)]), (.list [(.int 0), (.int 5)]), (.list [(.int 0), (.int 9)]), (.list [(.int 1), (.int 5)])]) (B := kindsL.map kT) h
    (by
      intro d hd
      simp only [List.mem_cons, List.not_mem_nil, or_false] at hd
      rcases hd with rfl | rfl | rfl | rfl
      · exact ⟨[1, 5], by simp, rfl⟩
      · exact ⟨[0, 5], by simp, rfl⟩
      · exact ⟨[0, 9], by simp, rfl⟩
      · exact ⟨[1, 5], by simp, rfl⟩) (by simp) (by simp [kindsL]) (by simp) (by simp [kindsL])
  obtain ⟨kk, hkk, rfl⟩ := List.mem_map.mp hd
  exact ⟨kk, ks', ce', e, hkk, hk, kp⟩
structure KOk (kk : List Int) : Prop where
  le : ∀ k ∈ kk, 0 ≤ k ∧ k ≤ 2
  l0 : 0 < kk.length
  l4 : kk.length ≤ 4
theorem kinds_ok {kk : List Int} (h : kk ∈ kindsL) : KOk kk := by
  simp only [kindsL, List.mem_cons, List.not_mem_nil, or_false] at h
  rcases h with rfl | rfl | rfl | rfl | rfl | rfl | rfl <;> exact ⟨by decide, by decide, by decide⟩
theorem ints_of {P : Int → Prop} : ∀ {es : List PyData}, (∀ e ∈ es, ∃ t : Int, e = .int t ∧ P t) → ∃ ts : List Int, es = ts.map .int ∧ ∀ t ∈ ts, P t
  | [], _ => ⟨[], rfl, fun _ z => nomatch z⟩
  | e :: es, h => by
    obtain ⟨t, rfl, ht⟩ := h e List.mem_cons_self
    obtain ⟨ts, rfl, hts⟩ := ints_of fun x hx => h x (List.mem_cons_of_mem _ hx)
    exact ⟨t :: ts, rfl, fun x hx => by
      rcases (List.mem_cons.mp hx) with rfl | hx
      · exact ht
      · exact hts x hx⟩
@[simp] theorem srcRngS (t : M VD) (S : DS) : srcRng t S = R.bind (t S) fun p => (match p.1 with
  | .dat (.int j) => R.bind (chk (decide (-(2 ^ 62) ≤ j ∧ j < 2 ^ 62)) p.2) fun q => (.ok (rngD 0 j.toNat, q.2) : R (List PyData × DS))
  | _ => .bad) := by
  show R.bind (t S) (fun p => (match p.1 with | .dat (.int j) => (do chk (decide (-(2 ^ 62) ≤ j ∧ j < 2 ^ 62)); pure (rngD 0 j.toNat) : M (List PyData)) | _ => M.bad) p.2) = _
  congr 1; funext p
  obtain ⟨x, S'⟩ := p
  cases x with
  | dat d => cases d <;> rfl
  | _ => rfl
theorem rng_len (n : Nat) : (rngD 0 n).length = n := by simp [rngD]
theorem atom_sp {j i : Nat} {ks kk T : List Int} {ce : Ce} {fl : Bool} (h : Pn j ks ce) (hk : KOk kk) (hi : ce[i]? = some (.ls fl (T.map .int))) (hij : i ≠ j) (h0 : T ≠ []) (hl : T.length ≤ 1000) :
    ∃ (a : Int × List Int) (ce' : Ce), f_law_drawn_atom [.rf j, .dat (kT kk), .rf i] ⟨[], ce⟩ = .ok (.dat (encA a), ⟨[], ce'⟩) ∧ (0 ≤ a.1 ∧ a.1 < kk.length) ∧ (a.2.length : Int) = kk.getD a.1.toNat 0 ∧ (∀ t ∈ a.2, t ∈ T) ∧ Kp j ks ce ce' := by
  have hj := h.lt
  obtain ⟨k, ce1, e1, k0, k1, kp1⟩ := draw_sp (b := (kk.length : Int)) h ⟨by have := hk.l0; omega, by have := hk.l4; omega⟩
  have hix := idx_nat (ks := kk) ⟨k0, k1⟩
  have hq2 := kind_le hk.le (k := k) ⟨k0, k1⟩
  generalize hQ : kk.getD k.toNat 0 = q at hix hq2
  have l1 := kp1.1
  have hi1 : ce1[i]? = some (.ls fl (T.map .int)) := by rw [kp1.2.1 i hij]; exact hi
  have hil : i < ce1.length := (List.getElem?_eq_some_iff.mp hi1).1
  obtain ⟨es, ce2, lc, kp2, hT, hl2⟩ := lc_draw2 (j := j) (ks := ks) (ce0 := ce1) (T := fun e => ∃ t : Int, e = .int t ∧ t ∈ T) (sl0 := [some (.rf j), some (.dat (kT kk)), some (.rf i), some (.dat (.int k)), none])
    (step := stepC (setSl 4) tYesD (eCall 2 f_law_one_of (aCons (eVar 0) (aCons (eVar 2) (pure []))))) (by omega)
    (fun d ce hp hlen ho => by
      have hi2 : ce[i]? = some (.ls fl (T.map .int)) := by rw [ho i hij hil]; exact hi1
      obtain ⟨d1, c3, e3, hd1, hk3⟩ := one_sp hp hi2 hij (by simpa using h0) (by simp; omega)
      obtain ⟨t, ht, rfl⟩ := List.mem_map.mp hd1
      refine ⟨.int t, [some (.rf j), some (.dat (kT kk)), some (.rf i), some (.dat (.int k)), some (.dat d)], c3, [], ?_, hk3, t, rfl, ht⟩
      simp [same_one, e3]) (rngD 0 q.toNat) [] ce1 rfl kp1.pn OffJ.refl (by simp [rng_len]; omega)
  obtain ⟨ts, rfl, hts⟩ := ints_of hT
  have kk2 := kp1.trans kp2
  have l2 := kk2.1
  refine ⟨(k, ts), ce2, ?_, ⟨k0, k1⟩, by simp [rng_len] at hl2; show (ts.length : Int) = kk.getD k.toNat 0; rw [hQ]; omega, hts, kk2⟩
  unfold f_law_drawn_atom b_law_drawn_atom
  rw [runFS]
  have hb : -4611686018427387904 ≤ q ∧ q < 4611686018427387904 := by omega
  have l3 : ce2.take ce.length = ce2 := by rw [← l2]; exact List.take_length
  have tk : (ce2 ++ [(Cl.ls true (ts.map PyData.int))]).take ce.length = ce2 := List.take_left' l2
  have g : (ce2 ++ [(.ls true (ts.map PyData.int))])[ce1.length]? = some (.ls true (ts.map PyData.int)) := by rw [← kp2.1]; simp
  simp at lc
  simp [len_kT, same_draw, e1, hix, hb, wipeD, lc, g, tk, encA, -List.take_append]
end K13
namespace K13
open PySem DL L2 MA MB
/-! drawn terms, pairs, bodies -/
theorem alike_ints : ∀ xs ys : List Int, W.alikeAll (xs.map .int) (ys.map .int) = true
  | [], _ => by simp [W.alikeAll]
  | _ :: _, [] => by simp [W.alikeAll]
  | x :: xs, y :: ys => by simp [W.alikeAll, W.alike, alike_ints xs ys]
theorem forD_cons (g : VD → M Unit) (body : MS) (d : PyData) (ds : List PyData) (S : DS) : forD g body (d :: ds) S = R.bind (noX (g (.dat d)) S) fun p => R.bind (body p.2) fun q => (match q.1 with
    | .nx => forD g body ds q.2
    | .ct => forD g body ds q.2
    | .bk => .ok (.nx, q.2)
    | .rt x => .ok (.rt x, q.2)) := by
  show R.bind (noX (g (.dat d)) S) (fun p => R.bind (body p.2) fun q => (match q.1 with | .nx => forD g body ds | .ct => forD g body ds | .bk => pure .nx | .rt x => pure (.rt x)) q.2) = _
  congr 1; funext p; congr 1; funext q
  obtain ⟨f, S'⟩ := q
  cases f <;> rfl
@[simp] theorem forD_nil (g : VD → M Unit) (body : MS) (S : DS) : forD g body [] S = .ok (.nx, S) := rfl
theorem idx_mem {L : List PyData} {o : Int} (h0 : 0 ≤ o) (h1 : o < L.length) : ∃ d ∈ L, idxD (.list L) (.int o) = some d := by
  have hn : o.toNat < L.length := by omega
  refine ⟨L[o.toNat], List.getElem_mem _, ?_⟩
  show atI L o = _
  unfold atI ixN
  rw [if_pos h0, if_pos h1]
  exact List.getElem?_eq_getElem hn
theorem idx_memT {L : List PyData} {o : Int} (h0 : 0 ≤ o) (h1 : o < L.length) : idxD (.tuple L) (.int o) = L[o.toNat]? := by
  show atI L o = _
  unfold atI ixN
  rw [if_pos h0, if_pos h1]
  rfl
theorem eSortA_si {a : M VD} {S S' : DS} {j : Nat} {ns : List Int} (h : a S = .ok (.rf j, S')) (hc : S'.ce[j]? = some (.si ns)) (hl : ns.length < 64) : eSortA a S = .ok (.rf S'.ce.length, ⟨S'.sl, S'.ce ++ [.ls true ((sortI ns).map .int)]⟩) := by
  show R.bind (a S) (fun p => (match p.1 with
    | .st ds => (do chk (sortB ds); newL (sortSD ds) : M VD)
    | .rf j => fun S => match S.ce[j]? with
      | some (.si ns) => if ns.length < 64 then newL ((sortI ns).map .int) S else .bad
      | _ => .bad
    | _ => M.bad) p.2) = _
  rw [h]
  simp [hc, hl]
@[simp] theorem slVT (ds : List PyData) (lo hi : Option Int) (S : DS) : slV (.dat (.tuple ds)) lo hi S = .ok (.dat (.tuple (cutD ds lo hi)), S) := rfl
@[simp] theorem extAT (j : Nat) (es : List PyData) (S : DS) : extA (.rf j) (.dat (.tuple es)) S = (match S.ce[j]? with
    | some (.ls true ds) => if ds.length + es.length ≤ 16777216 then .ok (.dat .none, { S with ce := S.ce.set j (.ls true (ds ++ es)) }) else .bad
    | _ => .bad) := rfl
@[simp] theorem ge_ints (i j : Int) : fGe (.int i) (.int j) = some (.bool (decide (j ≤ i))) := by simp [fGe, fI]
@[simp] theorem mkSeqT (ds es : List PyData) (S : DS) : mkSeq (.tuple ds) es S = .ok (.dat (.tuple es), S) := rfl
@[simp] theorem slVL (ds : List PyData) (lo hi : Option Int) (S : DS) : slV (.dat (.list ds)) lo hi S = newL (cutD ds lo hi) S := rfl
@[simp] theorem slVR (j : Nat) (lo hi : Option Int) (S : DS) : slV (.rf j) lo hi S = (match S.ce[j]? with | some (.ls _ ds) => newL (cutD ds lo hi) S | _ => .bad) := by
  show R.bind (peek (.rf j) S) (fun p => R.bind (ofO (asSeq p.1) p.2) fun q => mkSeq p.1 (cutD q.1 lo hi) q.2) = _
  rw [MB.peekRf]
  rcases S.ce[j]? with _ | _ | _ <;> rfl
@[simp] theorem mulDL (xs : List PyData) (k : Int) (S : DS) : mulD (.list xs) (.int k) S = R.bind (chk (decide (0 ≤ k ∧ k ≤ 1000 ∧ xs.length ≤ 1000)) S) fun p => newL (repD k.toNat xs) p.2 := rfl
@[simp] theorem mulDT (xs : List PyData) (k : Int) (S : DS) : mulD (.tuple xs) (.int k) S = R.bind (chk (decide (2 ≤ k ∧ k ≤ 1000 ∧ xs.length ≤ 1000 ∧ xs ≠ []))  S) fun p => .ok (.dat (.tuple (repD k.toNat xs)), p.2) := rfl
theorem cut_nums (ks : List Int) (lo hi : Option Int) : ∃ zs : List Int, cutD (ks.map .int) lo hi = zs.map .int ∧ (∀ t ∈ zs, t ∈ ks) ∧ zs.length ≤ ks.length := by
  refine ⟨(ks.drop (HT.sIx ks.length 0 lo)).take (HT.sIx ks.length ks.length hi - HT.sIx ks.length 0 lo), ?_, fun t h => List.mem_of_mem_drop (List.mem_of_mem_take h), ?_⟩
  · simp [cutD, List.map_drop, List.map_take]
  · simp; omega
theorem pen9 {ks : List Int} (h : ks ∈ penKs) : (∀ k ∈ ks, 0 ≤ k ∧ k ≤ 9) ∧ ks.length = 2 := by
  simp only [penKs, List.mem_cons, List.not_mem_nil, or_false] at h
  rcases h with rfl | rfl | rfl <;> exact ⟨by decide, rfl⟩
abbrev varL : List PyData := [(.list [(.int (-1))]), (.list [(.int (-1)), (.int (-2))]), (.list [(.int (-1)), (.int (-2)), (.int (-3))]), (.list [(.int (-1)), (.int (-4))])]
theorem var_at {d : Int} (h0 : 0 ≤ d) (h1 : d < 4) : ∃ xs : List Int, idxD (.list varL) (.int d) = some (.list (xs.map .int)) ∧ xs ≠ [] ∧ xs.length ≤ 3 ∧ ∀ t ∈ xs, -4 ≤ t ∧ t ≤ 9 := by
  have : d = 0 ∨ d = 1 ∨ d = 2 ∨ d = 3 := by omega
  rcases this with rfl | rfl | rfl | rfl
  · exact ⟨[-1], rfl, by decide, by decide, by decide⟩
  · exact ⟨[-1, -2], rfl, by decide, by decide, by decide⟩
  · exact ⟨[-1, -2, -3], rfl, by decide, by decide, by decide⟩
  · exact ⟨[-1, -4], rfl, by decide, by decide, by decide⟩
structure TmL (T : List Int) : Prop where
  n0 : T ≠ []
  le : T.length ≤ 1000
  bd : ∀ t ∈ T, -4 ≤ t ∧ t ≤ 9
theorem terms_sp {j : Nat} {ks : List Int} {ce : Ce} (h : Pn j ks ce) (hk : ks ∈ penKs) : ∃ (T : List Int) (ce' : Ce), f_law_drawn_terms [.rf j] ⟨[], ce⟩ = .ok (.rf ce.length, ⟨[], ce' ++ [.ls true (T.map .int)]⟩) ∧ TmL T ∧ Kp j ks ce ce' := by
  have hj := h.lt
  obtain ⟨d, c1, e1, d0, d1, kp1⟩ := draw_sp (b := 4) (h.app [.ls true varL]) ⟨by decide, by decide⟩
  obtain ⟨c2, rfl, kq1⟩ := kp1.split hj
  obtain ⟨xs, hx, hx0, hxl, hxb⟩ := var_at d0 d1
  have l2 := kq1.1
  have rp : repD 3 (xs.map PyData.int) = (xs ++ xs ++ xs).map .int := by simp [repD, List.replicate]
  obtain ⟨e, c3, e2, x0, x1, kp2⟩ := draw_sp (b := 3) (kq1.pn.app [.ls true varL, .ls true ((xs ++ xs ++ xs).map .int)]) ⟨by decide, by decide⟩
  obtain ⟨c4, rfl, kq2⟩ := kp2.split (by omega)
  have l4 := kq2.1
  obtain ⟨zs, hz, hzm, hzl⟩ := cut_nums ks none (some e)
  have k9 := pen9 hk
  obtain ⟨gs, s, p, ep⟩ := kq1.pn
  obtain ⟨gs', s', p', ep'⟩ := kq2.pn
  have ix : ixN 4 3 = some 3 := rfl
  have hj2 : j < c2.length := by omega
  refine ⟨xs ++ xs ++ xs ++ zs, c4, ?_, ⟨by simp [hx0], by simp; omega, fun t ht => ?_⟩, kq1.trans kq2⟩
  · unfold f_law_drawn_terms b_law_drawn_terms
    rw [runFS]
    have hv : newL varL ⟨[some (.rf j)], ce⟩ = .ok (.rf ce.length, ⟨[some (.rf j)], ce ++ [.ls true varL]⟩) := rfl
    have x1000 : xs.length ≤ 1000 := by omega
    have b1 : xs.length + (xs.length + xs.length) + zs.length ≤ 16777216 := by omega
    have g1 : (c2 ++ [Cl.ls true varL])[ce.length]? = some (.ls true varL) := by rw [← l2]; simp
    simp [hv, same_draw, e1, g1, hx, x1000, rp]
    simp at e2 rp
    have t2 : c4.take ce.length = c4 := by rw [← l2, ← l4]; exact List.take_length
    have gp : ∀ more : Ce, (c2 ++ more)[j]? = some (.ls true (Pen gs s p (.list (ks.map .int)))) := fun more => by rw [List.getElem?_append_left hj2]; exact ep
    have i3 : idxD (.list (Pen gs s p (.list (ks.map .int)))) (.int 3) = some (.list (ks.map .int)) := rfl
    have g2 : ∀ z : Cl, (c4 ++ [Cl.ls true varL, Cl.ls true (xs.map PyData.int ++ (xs.map PyData.int ++ xs.map PyData.int)), z])[c2.length + 1]? = some (.ls true (xs.map PyData.int ++ (xs.map PyData.int ++ xs.map PyData.int))) := fun z => by rw [← l4]; simp [List.getElem?_append]
    have tk : ∀ more : Ce, (c4 ++ more).take ce.length = c4 := fun more => List.take_left' (by rw [l4, l2])
    have b2 : xs.length + (xs.length + xs.length) + zs.length ≤ 16777216 := by omega
    have n1 : ¬ (c4.length + 3 < ce.length) := by omega
    simp [gp, i3, same_draw, e2, hz, g2, tk, b2, n1, List.getElem?_append, -List.take_append]
  · simp only [List.mem_append] at ht
    rcases ht with ((ht | ht) | ht) | ht
    · exact hxb t ht
    · exact hxb t ht
    · exact hxb t ht
    · have := k9.1 t (hzm t ht); omega
theorem once_le : ∀ ks : List NestedKey, (NS.once ks).length ≤ ks.length
  | [] => Nat.le_refl _
  | k :: ks => by
    have := once_le ks
    unfold NS.once
    split <;> simp <;> omega
theorem sortSD_sub {ds : List PyData} {x : PyData} (h : x ∈ sortSD ds) : x ∈ ds := by
  unfold sortSD at h
  rw [List.mem_mergeSort, List.mem_map] at h
  obtain ⟨k, hk, rfl⟩ := h
  have hk := NS.mem_once.mp hk
  unfold keysD at hk
  obtain ⟨d, hd, e⟩ := List.mem_filterMap.mp hk
  rw [NS.data_key d k e]
  exact hd
theorem sortSD_len (ds : List PyData) : (sortSD ds).length ≤ ds.length := by
  unfold sortSD
  rw [List.length_mergeSort, List.length_map]
  refine Nat.le_trans (once_le _) ?_
  unfold keysD
  exact List.length_filterMap_le _ _
theorem setEl_tup {d : PyData} (h : setEl d = true) : ∃ es, d = .tuple es := by
  obtain ⟨_, _, _, h⟩ := setEl_key h
  exact h
theorem intsOf_tup {d : PyData} {ds : List PyData} (h : setEl d = true) : intsOf (d :: ds) = none := by
  obtain ⟨es, rfl⟩ := setEl_tup h
  rfl
theorem sset_sp {a : M VD} {S S' : DS} {j : Nat} {fl : Bool} {ds : List PyData} (ha : a S = .ok (.rf j, S')) (hc : S'.ce[j]? = some (.ls fl ds)) (he : ∀ d ∈ ds, setEl d = true) (hl : ds.length < 64) (hb : sortB ds = true) :
    ∃ (gs : List PyData) (more : Ce), eSortA (eSetA a) S = .ok (.rf (S'.ce ++ more).length, ⟨S'.sl, S'.ce ++ more ++ [.ls true gs]⟩) ∧ (∀ g ∈ gs, g ∈ ds) ∧ gs.length ≤ ds.length := by
  have es : eSetA a S = setAD ds S' := by simp [ha, hc]
  cases ds with
  | nil =>
    have e1 : eSetA a S = .ok (.rf S'.ce.length, ⟨S'.sl, S'.ce ++ [.si []]⟩) := by rw [es]; rfl
    have := eSortA_si (ns := []) e1 (by simp) (by simp)
    exact ⟨[], [.si []], by rw [this]; rfl, by simp, by simp⟩
  | cons d ds =>
    have e1 : setAD (d :: ds) S' = .ok (.st (d :: ds), S') := by
      unfold setAD
      rw [intsOf_tup (he d List.mem_cons_self)]
      have h1 : (d :: ds).all setEl = true := List.all_eq_true.mpr he
      have h2 : ds.length + 1 < 64 := by simpa using hl
      simp only [List.all_cons, Bool.and_eq_true] at h1
      simp [h1.1, h2]
      simpa using h1.2
    refine ⟨sortSD (d :: ds), [], ?_, fun g hg => sortSD_sub hg, sortSD_len _⟩
    show R.bind (eSetA a S) (fun p => (match p.1 with
      | .st ds => (do chk (sortB ds); newL (sortSD ds) : M VD)
      | .rf j => fun S => match S.ce[j]? with
        | some (.si ns) => if ns.length < 64 then newL ((sortI ns).map .int) S else .bad
        | _ => .bad
      | _ => M.bad) p.2) = _
    rw [es, e1]
    simp [hb]
theorem keysOf_ints : ∀ ts : List Int, NS.keysOf (ts.map .int) = some (ts.map .num)
  | [] => rfl
  | t :: ts => by simp [NS.keysOf, NS.keyOf, keysOf_ints ts]
theorem depth_nums : ∀ ts : List Int, NestedKey.depthAll (ts.map .num) = 0
  | [] => rfl
  | t :: ts => by simp [NestedKey.depthAll, NestedKey.depth, depth_nums ts]
theorem setEl_kT (ts : List Int) : setEl (kT ts) = true := by
  have k : NS.keyOf (kT ts) = some (.tup (ts.map .num)) := by simp [NS.keyOf, keysOf_ints]
  unfold setEl
  dsimp only
  rw [k]
  simp [NestedKey.depth, depth_nums]
theorem sortB_K {us : List (List Int)} (h : ∀ u ∈ us, u ≠ []) : sortB (us.map kT) = true := by
  unfold sortB
  simp only [Bool.and_eq_true, List.all_eq_true, decide_eq_true_eq]
  refine ⟨fun x hx y hy => ?_, fun x hx => ?_, fun x hx => ?_⟩
  · obtain ⟨p, _, rfl⟩ := List.mem_map.mp hx
    obtain ⟨q, _, rfl⟩ := List.mem_map.mp hy
    simp [W.alike, alike_ints]
  · obtain ⟨p, hp, rfl⟩ := List.mem_map.mp hx
    cases p with
    | nil => exact absurd rfl (h _ hp)
    | cons _ _ => rfl
  · obtain ⟨p, _, rfl⟩ := List.mem_map.mp hx
    simp [PyData.depth, depth_ints]
theorem back_K : ∀ {gs : List PyData} {us : List (List Int)}, (∀ g ∈ gs, g ∈ us.map kT) → ∃ vs : List (List Int), gs = vs.map kT ∧ ∀ v ∈ vs, v ∈ us
  | [], _, _ => ⟨[], rfl, fun _ z => nomatch z⟩
  | g :: gs, us, h => by
    obtain ⟨vs, rfl, hv⟩ := back_K fun x hx => h x (List.mem_cons_of_mem _ hx)
    obtain ⟨u, hu, rfl⟩ := List.mem_map.mp (h g List.mem_cons_self)
    exact ⟨u :: vs, rfl, fun v hv' => by rcases List.mem_cons.mp hv' with rfl | z; exact hu; exact hv v z⟩
@[simp] theorem eFn2S (f : PyData → PyData → Option PyData) (t : M (List VD)) (S : DS) : eFn2 f t S = R.bind (t S) fun p => (match p.1 with
  | [x, y] => R.bind (peek x p.2) fun d => R.bind (peek y d.2) fun e => R.bind (ofO (f d.1 e.1) e.2) fun r => DL.scal r.1 r.2
  | _ => .bad) := by
  show R.bind (t S) (fun p => (match p.1 with | [x, y] => (do let d ← peek x; let e ← peek y; let r ← ofO (f d e); scal r : M VD) | _ => M.bad) p.2) = _
  congr 1; funext p
  obtain ⟨vs, S'⟩ := p
  match vs with
  | [] => rfl
  | [_] => rfl
  | [_, _] => rfl
  | _ :: _ :: _ :: _ => rfl
theorem one_spL {j : Nat} {ks : List Int} {ce : Ce} {ds : List PyData} (h : Pn j ks ce) (h0 : ds ≠ []) (hl : ds.length < 1073741824) : ∃ (d : PyData) (ce' : Ce), f_law_one_of [.rf j, .dat (.list ds)] ⟨[], ce⟩ = .ok (.dat d, ⟨[], ce'⟩) ∧ d ∈ ds ∧ Kp j ks ce ce' := by
  have hp : 0 < ds.length := List.length_pos_iff.mpr h0
  obtain ⟨o, ce1, e1, o0, o1, kp⟩ := draw_sp (b := (ds.length : Int)) h ⟨by omega, by omega⟩
  obtain ⟨d, hd, e2⟩ := idx_mem o0 o1
  have l1 := kp.1
  have tk : ce1.take ce.length = ce1 := by rw [← l1]; exact List.take_length
  refine ⟨d, ce1, ?_, hd, kp⟩
  unfold f_law_one_of b_law_one_of
  rw [runFS]
  have ln : lenD (.list ds) = some (.int ds.length) := rfl
  simp [ln, same_draw, e1, e2, tk]
def PrOk (T u : List Int) : Prop := ∃ a b : Int, u = [a, b] ∧ a ∈ T ∧ b ∈ T
abbrev dpB : MS := (sSeq (sPar 5 6 (aCons (eCall 2 f_law_one_of (aCons (eVar 0) (aCons (eVar 1) (pure [])))) (aCons (eCall 2 f_law_one_of (aCons (eVar 0) (aCons (eVar 1) (pure [])))) (pure []))))
    (sIf (tOf (eOp fNe (eVar 5) (eVar 6))) (sExp (eApp (eVar 3) (eTup (aCons (eFn2 fMin2 (aCons (eVar 5) (aCons (eVar 6) (pure [])))) (aCons (eFn2 fMax2 (aCons (eVar 5) (aCons (eVar 6) (pure [])))) (pure [])))))) sNil))
/-- what a draw of one takes from -/
def Src (j : Nat) (ks T : List Int) (ce0 : Ce) (x1 : VD) : Prop := ∀ ce2, Pn j ks ce2 → OffJ j ce0 ce2 → ∃ (d : PyData) (ce' : Ce), f_law_one_of [.rf j, x1] ⟨[], ce2⟩ = .ok (.dat d, ⟨[], ce'⟩) ∧ d ∈ T.map .int ∧ Kp j ks ce2 ce'
theorem src_dat {j : Nat} {ks T : List Int} {ce0 : Ce} (h0 : T ≠ []) (hT : T.length ≤ 100000) : Src j ks T ce0 (.dat (.list (T.map .int))) := fun ce2 hp _ => one_spL hp (by simpa using h0) (by simp; omega)
theorem src_rf {j i : Nat} {ks T : List Int} {ce0 : Ce} {fl : Bool} (h0 : T ≠ []) (hT : T.length ≤ 100000) (hi : ce0[i]? = some (.ls fl (T.map .int))) (hij : i ≠ j) : Src j ks T ce0 (.rf i) := fun ce2 hp ho => by
  rw [same_one]
  exact one_sp hp (by rw [ho i hij (List.getElem?_eq_some_iff.mp hi).1]; exact hi) hij (by simpa using h0) (by simp; omega)
theorem dp_go {j n : Nat} {ks T : List Int} {x1 : VD} {ce0 : Ce} {x2 : Option VD} {more : Ce} (hs : Src j ks T ce0 x1) (hc0 : ce0.length ≤ n) : ∀ (ds : List PyData) (found : List (List Int)) (ce : Ce) (x4 x5 x6 : Option VD), Pn j ks ce → OffJ j ce0 ce → ce.length = n → found.length + ds.length ≤ 60 → (∀ u ∈ found, PrOk T u) →
    ∃ (ce' : Ce) (found' : List (List Int)) (y4 y5 y6 : Option VD), forD (setSl 4) dpB ds ⟨[some (.rf j), some x1, x2, some (.rf n), x4, x5, x6], ce ++ .ls true (found.map kT) :: more⟩ = .ok (.nx, ⟨[some (.rf j), some x1, x2, some (.rf n), y4, y5, y6], ce' ++ .ls true (found'.map kT) :: more⟩) ∧ Kp j ks ce ce' ∧ (∀ u ∈ found', PrOk T u) ∧ found'.length ≤ found.length + ds.length
  | [], found, ce, x4, x5, x6, hp, ho, hn, hl, hf => ⟨ce, found, x4, x5, x6, by simp, Kp.refl hp, hf, by simp⟩
  | d :: ds, found, ce, x4, x5, x6, hp, ho, hn, hl, hf => by
    have hj := hp.lt
    obtain ⟨d1, c1, e1, m1, k1⟩ := hs _ (hp.app (.ls true (found.map kT) :: more)) (ho.app (by omega) _)
    obtain ⟨c2, rfl, q1⟩ := k1.split hj
    obtain ⟨d2, c3, e2, m2, k2⟩ := hs _ (q1.pn.app (.ls true (found.map kT) :: more)) ((ho.kp q1).app (by have := q1.1; omega) _)
    obtain ⟨c4, rfl, q2⟩ := k2.split (by have := q1.1; omega)
    obtain ⟨a, ha, rfl⟩ := List.mem_map.mp m1
    obtain ⟨b, hb, rfl⟩ := List.mem_map.mp m2
    have l4 : c4.length = n := by rw [q2.1, q1.1, hn]
    have g : (c4 ++ Cl.ls true (found.map kT) :: more)[n]? = some (.ls true (found.map kT)) := by rw [← l4]; simp
    have st : (c4 ++ Cl.ls true (found.map kT) :: more).set n (.ls true (found.map kT ++ [kT [if b < a then b else a, if b > a then b else a]])) = c4 ++ .ls true (found.map kT ++ [kT [if b < a then b else a, if b > a then b else a]]) :: more := by rw [← l4]; simp [List.set_append]
    have hfl : found.length < 16777216 := by simp only [List.length_cons] at hl; omega
    simp only [List.length_cons] at hl
    by_cases hab : a = b
    · obtain ⟨ce', found', y4, y5, y6, e, kp, hf', hl'⟩ := dp_go (x2 := x2) (more := more) hs hc0 ds found c4 (some (.dat d)) (some (.dat (.int a))) (some (.dat (.int b))) q2.pn ((ho.kp q1).kp q2) l4 (by omega) hf
      refine ⟨ce', found', y4, y5, y6, ?_, q1.trans (q2.trans kp), hf', by simp only [List.length_cons]; omega⟩
      rw [forD_cons]
      simp [e1, e2, hab]
      rw [hab] at e
      exact e
    · obtain ⟨ce', found', y4, y5, y6, e, kp, hf', hl'⟩ := dp_go (x2 := x2) (more := more) hs hc0 ds (found ++ [[if b < a then b else a, if b > a then b else a]]) c4 (some (.dat d)) (some (.dat (.int a))) (some (.dat (.int b))) q2.pn ((ho.kp q1).kp q2) l4 (by simp; omega) (fun u hu => by
        rcases (List.mem_append.mp hu) with hu | hu
        · exact hf u hu
        · simp only [List.mem_singleton] at hu
          refine ⟨_, _, hu, ?_, ?_⟩
          · split <;> assumption
          · split <;> assumption)
      refine ⟨ce', found', y4, y5, y6, ?_, q1.trans (q2.trans kp), hf', by simp only [List.length_append, List.length_cons, List.length_nil] at hl' ⊢; omega⟩
      rw [forD_cons]
      simp at e st
      simp [e1, e2, hab, fMin2, fMax2, g, hfl]
      exact Eq.trans (congrArg (fun c : Ce => forD (setSl 4) dpB ds ⟨[some (.rf j), some x1, x2, some (.rf n), some (.dat d), some (.dat (.int a)), some (.dat (.int b))], c⟩) st) e
theorem pairs_sp {m : Int} {j : Nat} {ks T : List Int} {ce : Ce} {x1 : VD} (h : Pn j ks ce) (hs : Src j ks T ce x1) : ∃ (us : List (List Int)) (ce' : Ce), f_law_drawn_pairs [.rf j, x1, .dat (.int m)] ⟨[], ce⟩ = .ok (.dat (.tuple (us.map kT)), ⟨[], ce'⟩) ∧ us.length ≤ 2 ∧ (∀ u ∈ us, PrOk T u) ∧ Kp j ks ce ce' := by
  have hj := h.lt
  generalize hL : ([.int 0, .int 0, .int 0, .int 1, .int 2] : List PyData) = L
  obtain ⟨d, c1, e1, hd, k1⟩ := one_sp (i := ce.length + 1) (h.app [.ls true [], .ls true L]) (ds := L) (fl := true) (by simp) (by omega) (by subst hL; simp) (by subst hL; simp)
  obtain ⟨c2, rfl, q1⟩ := k1.split hj
  obtain ⟨n, rfl, hn0, hn2⟩ : ∃ n : Int, d = .int n ∧ 0 ≤ n ∧ n ≤ 2 := by
    subst hL
    simp only [List.mem_cons, List.not_mem_nil, or_false] at hd
    rcases hd with rfl | rfl | rfl | rfl | rfl
    · exact ⟨0, rfl, by decide, by decide⟩
    · exact ⟨0, rfl, by decide, by decide⟩
    · exact ⟨0, rfl, by decide, by decide⟩
    · exact ⟨1, rfl, by decide, by decide⟩
    · exact ⟨2, rfl, by decide, by decide⟩
  have rl : (rngD 0 n.toNat).length ≤ 2 := by rw [rng_len]; omega
  obtain ⟨c3, us, y4, y5, y6, e2, k2, hu, hl⟩ := dp_go (j := j) (n := ce.length) (ks := ks) (T := T) (x2 := some (.dat (.int m))) (more := [.ls true L]) hs (Nat.le_refl _) (rngD 0 n.toNat) [] c2 none none none q1.pn (OffJ.refl.kp q1) q1.1 (by simp; omega) (by simp)
  have hl' : us.length ≤ 2 := by simp at hl; omega
  have l3 : c3.length = ce.length := by rw [k2.1, q1.1]
  have une : ∀ u ∈ us, u ≠ [] := fun u hx => by obtain ⟨a, b, rfl, _⟩ := hu u hx; simp
  obtain ⟨gs, more, es, hg, hgl⟩ := sset_sp (a := eVar 3) (S := ⟨[some (.rf j), some x1, some (.dat (.int m)), some (.rf ce.length), y4, y5, y6], c3 ++ .ls true (us.map kT) :: [.ls true L]⟩) (S' := ⟨[some (.rf j), some x1, some (.dat (.int m)), some (.rf ce.length), y4, y5, y6], c3 ++ .ls true (us.map kT) :: [.ls true L]⟩) (j := ce.length) (fl := true) (ds := us.map kT) (by simp) (by rw [← l3]; simp) (fun d hd => by
    obtain ⟨u, _, rfl⟩ := List.mem_map.mp hd
    exact setEl_kT u) (by simp; omega) (sortB_K une)
  obtain ⟨vs, rfl, hv⟩ := back_K hg
  obtain ⟨ws, hw, hwm, hwl⟩ : ∃ ws : List (List Int), cutD (vs.map kT) none (some m) = ws.map kT ∧ (∀ w ∈ ws, w ∈ vs) ∧ ws.length ≤ vs.length := by
    refine ⟨(vs.drop (HT.sIx vs.length 0 none)).take (HT.sIx vs.length vs.length (some m) - HT.sIx vs.length 0 none), ?_, fun t h => List.mem_of_mem_drop (List.mem_of_mem_take h), ?_⟩
    · simp [cutD, List.map_drop, List.map_take]
    · simp; omega
  refine ⟨ws, c3, ?_, by simp at hgl; omega, fun w hw' => hu w (hv w (hwm w hw')), q1.trans k2⟩
  unfold f_law_drawn_pairs b_law_drawn_pairs
  rw [runFS]
  have hb : -4611686018427387904 ≤ n ∧ n < 4611686018427387904 := by omega
  have tk : ∀ mm : Ce, (c3 ++ mm).take ce.length = c3 := fun mm => List.take_left' l3
  rw [← same_one] at e1
  simp [hL, e1, hb]
  try simp at e2
  try simp at es
  simp [e2, es, hw, tk, -List.take_append]
@[simp] theorem mkSeqL (ds es : List PyData) (S : DS) : mkSeq (.list ds) es S = newL es S := rfl
abbrev dbT : VD → M Unit := (gTupD 2 (gConsD (setSl 6) (gConsD (setSl 7) gNilD)))
abbrev dbB : MS := (sExp (eExtA (eVar 5) (eVar 7)))
theorem db_go {a0 a1 a2 a3 a4 a8 : Option VD} {ce : Ce} {c1 : Cl} {more : Ce} : ∀ (as : List (Int × List Int)) (f : List Int) (x6 x7 : Option VD), f.length + (as.flatMap (·.2)).length ≤ 1000000 → ∃ y6 y7, forD dbT dbB (as.map encA) ⟨[a0, a1, a2, a3, a4, some (.rf (ce.length + 1)), x6, x7, a8], ce ++ c1 :: .ls true (f.map .int) :: more⟩ = .ok (.nx, ⟨[a0, a1, a2, a3, a4, some (.rf (ce.length + 1)), y6, y7, a8], ce ++ c1 :: .ls true ((f ++ as.flatMap (·.2)).map .int) :: more⟩)
  | [], f, x6, x7, _ => ⟨x6, x7, by simp⟩
  | a :: as, f, x6, x7, h => by
    simp only [List.flatMap_cons, List.length_append] at h
    obtain ⟨y6, y7, e⟩ := db_go (a0 := a0) (a1 := a1) (a2 := a2) (a3 := a3) (a4 := a4) (a8 := a8) (ce := ce) (c1 := c1) (more := more) as (f ++ a.2) (some (.dat (.int a.1))) (some (.dat (kT a.2))) (by simp only [List.length_append]; omega)
    refine ⟨y6, y7, ?_⟩
    have hb : f.length + a.2.length ≤ 16777216 := by omega
    rw [List.map_cons, forD_cons]
    simp at e
    simp [encA, hb, List.set_append, e]
structure AtOk (kk : List Int) (a : Int × List Int) : Prop where
  k : 0 ≤ a.1 ∧ a.1 < kk.length
  l : (a.2.length : Int) = kk.getD a.1.toNat 0
  b : ∀ t ∈ a.2, -4 ≤ t ∧ t ≤ 9
theorem AtOk.l2 {kk : List Int} {a : Int × List Int} (h : AtOk kk a) (hk : KOk kk) : a.2.length ≤ 2 := by
  have := kind_le hk.le h.k
  have := h.l
  omega
theorem back_A {P : Int × List Int → Prop} : ∀ {es : List PyData}, (∀ e ∈ es, ∃ a, e = encA a ∧ P a) → ∃ as : List (Int × List Int), es = as.map encA ∧ ∀ a ∈ as, P a
  | [], _ => ⟨[], rfl, fun _ z => nomatch z⟩
  | e :: es, h => by
    obtain ⟨a, rfl, pa⟩ := h e List.mem_cons_self
    obtain ⟨as, rfl, ps⟩ := back_A fun x hx => h x (List.mem_cons_of_mem _ hx)
    exact ⟨a :: as, rfl, fun x hx => by rcases List.mem_cons.mp hx with rfl | hx; exact pa; exact ps x hx⟩
theorem cut_A (as : List (Int × List Int)) (m : Int) (h0 : 0 ≤ m) : ∃ bs : List (Int × List Int), cutD (as.map encA) none (some m) = bs.map encA ∧ (∀ b ∈ bs, b ∈ as) ∧ (bs.length : Int) ≤ m := by
  refine ⟨(as.drop (HT.sIx as.length 0 none)).take (HT.sIx as.length as.length (some m) - HT.sIx as.length 0 none), ?_, fun t h => List.mem_of_mem_drop (List.mem_of_mem_take h), ?_⟩
  · simp [cutD, List.map_drop, List.map_take]
  · simp [HT.sIx]
    split <;> omega
theorem body_sp {j : Nat} {ks kk : List Int} {ce : Ce} {most : Int} (h : Pn j ks ce) (hk : KOk kk) (hp : ks ∈ penKs) (hm : 0 ≤ most ∧ most ≤ 3) : ∃ (as : List (Int × List Int)) (T : List Int) (ce' : Ce), f_law_drawn_body [.rf j, .dat (kT kk), .dat (.int most)] ⟨[], ce⟩ = .ok (.dat (.tuple [.tuple (as.map encA), .list (T.map .int)]), ⟨[], ce'⟩) ∧ (as.length : Int) ≤ most ∧ (∀ a ∈ as, AtOk kk a) ∧ (T ≠ [] ∧ T.length ≤ 7 ∧ ∀ t ∈ T, -4 ≤ t ∧ t ≤ 9) ∧ Kp j ks ce ce' := by
  have hj := h.lt
  obtain ⟨T, c1, e1, hT, k1⟩ := terms_sp h hp
  have l1 := k1.1
  have p9 := pen9 hp
  have ks0 : ks ≠ [] := fun z => by rw [z] at p9; cases p9.2
  obtain ⟨d, c2', e2, hd, k2⟩ := one_spL (ds := ks.map .int) (k1.pn.app [.ls true (T.map .int)]) (by simpa using ks0) (by simp; omega)
  obtain ⟨c2, rfl, q2⟩ := k2.split (by omega)
  obtain ⟨t0, ht0, rfl⟩ := List.mem_map.mp hd
  have l2 := q2.1
  generalize hL : ([.int 1, .int 1, .int 2, .int 2, .int most, .int 0] : List PyData) = L
  obtain ⟨d3, c3', e3, hd3, k3⟩ := one_sp (i := c2.length + 2) (q2.pn.app [.ls true (T.map .int), .ls true [.int t0], .ls true L]) (ds := L) (fl := true) (by simp [List.getElem?_append]) (by omega) (by subst hL; simp) (by subst hL; simp)
  obtain ⟨c3, rfl, q3⟩ := k3.split (by omega)
  have l3 := q3.1
  obtain ⟨n, rfl, hn0, hn3⟩ : ∃ n : Int, d3 = .int n ∧ 0 ≤ n ∧ n ≤ 3 := by
    subst hL
    simp only [List.mem_cons, List.not_mem_nil, or_false] at hd3
    rcases hd3 with rfl | rfl | rfl | rfl | rfl | rfl
    · exact ⟨1, rfl, by decide, by decide⟩
    · exact ⟨1, rfl, by decide, by decide⟩
    · exact ⟨2, rfl, by decide, by decide⟩
    · exact ⟨2, rfl, by decide, by decide⟩
    · exact ⟨most, rfl, hm.1, hm.2⟩
    · exact ⟨0, rfl, by decide, by decide⟩
  obtain ⟨es, c4', lc, k4, hes, hel⟩ := lc_draw2 (j := j) (ks := ks) (ce0 := c3 ++ [.ls true (T.map .int), .ls true [.int t0], .ls true L]) (T := fun e => ∃ a, e = encA a ∧ AtOk kk a) (sl0 := [some (.rf j), some (.dat (kT kk)), some (.dat (.int most)), none, some (.rf ce.length), some (.rf (c2.length + 1)), none, none, none])
    (step := stepC (setSl 8) tYesD (eCall 3 f_law_drawn_atom (aCons (eVar 0) (aCons (eVar 1) (aCons (eVar 4) (pure [])))))) (by simp; omega)
    (fun d ce2 hp2 hlen ho => by
      have hi : ce2[ce.length]? = some (.ls true (T.map .int)) := by
        rw [ho ce.length (by omega) (by simp; omega), ← l1, ← l2, ← l3]
        simp
      obtain ⟨a, c5, e5, a1, a2, a3, k5⟩ := atom_sp hp2 hk hi (by omega) hT.n0 hT.le
      refine ⟨encA a, [some (.rf j), some (.dat (kT kk)), some (.dat (.int most)), none, some (.rf ce.length), some (.rf (c2.length + 1)), none, none, some (.dat d)], c5, [], ?_, k5, a, rfl, a1, a2, fun t ht => hT.bd t (a3 t ht)⟩
      simp [e5]) (rngD 0 n.toNat) [] _ rfl (q3.pn.app _) OffJ.refl (by simp [rng_len]; omega)
  obtain ⟨c4, rfl, q4⟩ := k4.split (by omega)
  have l4 := q4.1
  obtain ⟨as0, rfl, has0⟩ := back_A hes
  obtain ⟨as, hcut, hsub, hle⟩ := cut_A as0 most hm.1
  have hasO : ∀ a ∈ as, AtOk kk a := fun a ha => has0 a (hsub a ha)
  have htl : (as.flatMap (·.2)).length ≤ 2 * as.length := by
    clear hcut hsub hle
    induction as with
    | nil => simp
    | cons a as ih =>
      have := (hasO a List.mem_cons_self).l2 hk
      have := ih fun x hx => hasO x (List.mem_cons_of_mem _ hx)
      simp only [List.flatMap_cons, List.length_append, List.length_cons]; omega
  obtain ⟨y6, y7, e6⟩ := db_go (a0 := some (.rf j)) (a1 := some (.dat (kT kk))) (a2 := some (.dat (.int most))) (a3 := some (.dat (.tuple (as.map encA)))) (a4 := some (.rf ce.length)) (a8 := none) (ce := c4) (c1 := .ls true (T.map .int)) (more := [.ls true L, .ls true (as0.map encA), .ls true (as.map encA)]) as [t0] none none (by simp only [List.length_cons, List.length_nil]; omega)
  refine ⟨as, ([t0] ++ as.flatMap (·.2)).reverse, c4, ?_, hle, hasO, ⟨by simp, by simp only [List.length_reverse, List.length_append, List.length_cons, List.length_nil]; omega, fun t ht => ?_⟩, k1.trans (q2.trans (q3.trans q4))⟩
  · unfold f_law_drawn_body b_law_drawn_body
    rw [runFS]
    obtain ⟨gs, s, p, ep⟩ := k1.pn
    have gp : ∀ more : Ce, (c1 ++ more)[j]? = some (.ls true (Pen gs s p (.list (ks.map .int)))) := fun more => by rw [List.getElem?_append_left (by omega)]; exact ep
    have i3 : idxD (.list (Pen gs s p (.list (ks.map .int)))) (.int 3) = some (.list (ks.map .int)) := rfl
    have hb : -4611686018427387904 ≤ n ∧ n < 4611686018427387904 := by omega
    have tk : ∀ m : Ce, (c4 ++ m).take ce.length = c4 := fun m => List.take_left' (by omega)
    rw [← same_one] at e3
    simp [e1, gp, i3, e2, hL]
    have hL1 : L.length ≤ 1000 := by rw [← hL]; simp
    have m0 : ce.length = c4.length := by omega
    have m2 : c2.length = c4.length := by omega
    have m3 : c3.length = c4.length := by omega
    simp at lc e6
    rw [m3, m0, m2] at lc
    rw [m0] at e6
    rw [m2] at e3
    simp [hL1, m0, m2, e3, hb, wipeD, lc, m3, List.getElem?_append, hcut, e6]
  · rw [List.mem_reverse, List.mem_append] at ht
    rcases ht with ht | ht
    · simp at ht; subst ht; have := p9.1 t ht0; omega
    · obtain ⟨a, ha, hta⟩ := List.mem_flatMap.mp ht
      exact (hasO a ha).b t hta
end K13
namespace K13
open PySem DL L2 MA MB
/-! drawn deeds -/
theorem atom_spG {j : Nat} {ks kk T : List Int} {ce : Ce} {x2 : VD} (h : Pn j ks ce) (hk : KOk kk) (hs : Src j ks T ce x2) :
    ∃ (a : Int × List Int) (ce' : Ce), f_law_drawn_atom [.rf j, .dat (kT kk), x2] ⟨[], ce⟩ = .ok (.dat (encA a), ⟨[], ce'⟩) ∧ (0 ≤ a.1 ∧ a.1 < kk.length) ∧ (a.2.length : Int) = kk.getD a.1.toNat 0 ∧ (∀ t ∈ a.2, t ∈ T) ∧ Kp j ks ce ce' := by
  have hj := h.lt
  obtain ⟨k, ce1, e1, k0, k1, kp1⟩ := draw_sp (b := (kk.length : Int)) h ⟨by have := hk.l0; omega, by have := hk.l4; omega⟩
  have hix := idx_nat (ks := kk) ⟨k0, k1⟩
  have hq2 := kind_le hk.le (k := k) ⟨k0, k1⟩
  generalize hQ : kk.getD k.toNat 0 = q at hix hq2
  have l1 := kp1.1
  obtain ⟨es, ce2, lc, kp2, hT, hl2⟩ := lc_draw2 (j := j) (ks := ks) (ce0 := ce1) (T := fun e => ∃ t : Int, e = .int t ∧ t ∈ T) (sl0 := [some (.rf j), some (.dat (kT kk)), some x2, some (.dat (.int k)), none])
    (step := stepC (setSl 4) tYesD (eCall 2 f_law_one_of (aCons (eVar 0) (aCons (eVar 2) (pure []))))) (by omega)
    (fun d ce hp hlen ho => by
      obtain ⟨d1, c3, e3, hd1, hk3⟩ := hs _ hp (fun i h1 h2 => (ho i h1 (by omega)).trans (kp1.2.1 i h1))
      obtain ⟨t, ht, rfl⟩ := List.mem_map.mp hd1
      refine ⟨.int t, [some (.rf j), some (.dat (kT kk)), some x2, some (.dat (.int k)), some (.dat d)], c3, [], ?_, hk3, t, rfl, ht⟩
      simp [e3]) (rngD 0 q.toNat) [] ce1 rfl kp1.pn OffJ.refl (by simp [rng_len]; omega)
  obtain ⟨ts, rfl, hts⟩ := ints_of hT
  have kk2 := kp1.trans kp2
  have l2 := kk2.1
  refine ⟨(k, ts), ce2, ?_, ⟨k0, k1⟩, by simp [rng_len] at hl2; show (ts.length : Int) = kk.getD k.toNat 0; rw [hQ]; omega, hts, kk2⟩
  unfold f_law_drawn_atom b_law_drawn_atom
  rw [runFS]
  have hb : -4611686018427387904 ≤ q ∧ q < 4611686018427387904 := by omega
  have l3 : ce2.take ce.length = ce2 := by rw [← l2]; exact List.take_length
  have tk : (ce2 ++ [(Cl.ls true (ts.map PyData.int))]).take ce.length = ce2 := List.take_left' l2
  have g : (ce2 ++ [(.ls true (ts.map PyData.int))])[ce1.length]? = some (.ls true (ts.map PyData.int)) := by rw [← kp2.1]; simp
  simp at lc
  simp [len_kT, same_draw, e1, hix, hb, wipeD, lc, g, tk, encA, -List.take_append]
/-- a pair of a deed's condition -/
def PrB (ts u : List Int) : Prop := ∃ x y : Int, u = [x, y] ∧ (-4 ≤ x ∧ x ≤ 9) ∧ (-4 ≤ y ∧ y ≤ 9) ∧ (0 ≤ x ∨ x ∈ ts) ∧ (0 ≤ y ∨ y ∈ ts)
inductive DOk (kk : List Int) : PyData → Prop
  | put {a : Int × List Int} {bs : List (Int × List Int)} {us : List (List Int)} : AtOk kk a → (∀ b ∈ bs, AtOk kk b) → bs.length ≤ 2 → us.length ≤ 2 → (∀ u ∈ us, ∃ x y : Int, u = [x, y] ∧ (-4 ≤ x ∧ x ≤ 9) ∧ (-4 ≤ y ∧ y ≤ 9)) → DOk kk (.tuple [.str "put", encA a, .tuple (bs.map encA), .tuple (us.map kT)])
  | take {a : Int × List Int} {us : List (List Int)} : AtOk kk a → us.length ≤ 2 → (∀ u ∈ us, PrB a.2 u) → DOk kk (.tuple [.str "take", encA a, .tuple (us.map kT)])
  | turn {a : Int × List Int} {us : List (List Int)} {ts : List Int} : AtOk kk a → us.length ≤ 2 → (∀ u ∈ us, PrB a.2 u) → ts.length = a.2.length → (∀ t ∈ ts, -4 ≤ t ∧ t ≤ 9) → DOk kk (.tuple [.str "turn", encA a, .tuple (us.map kT), kT ts])
@[simp] theorem eq_strs2 (x y : Str) : fEq (.str x) (.str y) = some (.bool (decide (x = y))) := by
  simp [fEq, eqD, PyData.plain, PyData.depth, PyData.eqv]
  first | rfl | (rw [Bool.eq_iff_iff]; simp)
abbrev wdL : List PyData := [.str "put", .str "put", .str "take", .str "turn"]
theorem prB_of {ts u : List Int} {t0 : Int} (h0 : 0 ≤ t0 ∧ t0 ≤ 9) (hb : ∀ t ∈ ts, -4 ≤ t ∧ t ≤ 9) (h : PrOk (ts ++ [t0]) u) : PrB ts u := by
  obtain ⟨x, y, e, hx, hy⟩ := h
  have k : ∀ z ∈ ts ++ [t0], (-4 ≤ z ∧ z ≤ 9) ∧ (0 ≤ z ∨ z ∈ ts) := fun z hz => by
    rcases (List.mem_append.mp hz) with hz | hz
    · exact ⟨hb z hz, .inr hz⟩
    · simp at hz; subst hz; exact ⟨by omega, .inl h0.1⟩
  exact ⟨x, y, e, (k x hx).1, (k y hy).1, (k x hx).2, (k y hy).2⟩
theorem ne_tp : ¬ (Str.ofString "take" = Str.ofString "put") := by decide
theorem ne_up : ¬ (Str.ofString "turn" = Str.ofString "put") := by decide
theorem ne_ut : ¬ (Str.ofString "turn" = Str.ofString "take") := by decide
theorem deed_sp {j : Nat} {ks kk : List Int} {ce : Ce} (h : Pn j ks ce) (hk : KOk kk) (hp : ks ∈ penKs) : ∃ (d : PyData) (ce' : Ce), f_law_drawn_deed [.rf j, .dat (kT kk)] ⟨[], ce⟩ = .ok (.dat d, ⟨[], ce'⟩) ∧ DOk kk d ∧ Kp j ks ce ce' := by
  have hj := h.lt
  have p9 := pen9 hp
  have ks0 : ks ≠ [] := fun z => by rw [z] at p9; cases p9.2
  generalize hW : Cl.ls true wdL = W
  obtain ⟨w, c1', e1, hw, k1'⟩ := one_sp (i := ce.length) (h.app [W]) (ds := wdL) (fl := true) (by simp [hW]) (by omega) (by simp) (by simp)
  obtain ⟨c1, rfl, k1⟩ := k1'.split hj
  rw [← same_one] at e1
  have l1 := k1.1
  have hw' : w = .str "put" ∨ w = .str "take" ∨ w = .str "turn" := by
    simp only [wdL, List.mem_cons, List.not_mem_nil, or_false] at hw
    rcases hw with rfl | rfl | rfl | rfl <;> simp
  by_cases hput : w = .str "put"
  · subst hput
    obtain ⟨as, T, c2', e2, hal, haO, hT, k2'⟩ := body_sp (most := 2) (k1.pn.app [W]) hk hp (by decide)
    obtain ⟨c2, rfl, k2⟩ := k2'.split (by omega)
    have l2 := k2.1
    have sT : ∀ ce0, Src j ks T ce0 (.dat (.list (T.map .int))) := fun ce0 => src_dat hT.1 (by have := hT.2.1; omega)
    obtain ⟨a, c3', e3, a1, a2, a3, k3'⟩ := atom_spG (x2 := .dat (.list (T.map .int))) (k2.pn.app [W]) hk (sT _)
    obtain ⟨c3, rfl, k3⟩ := k3'.split (by omega)
    have l3 := k3.1
    obtain ⟨us, c4', e4, ul, uO, k4'⟩ := pairs_sp (m := 2) (x1 := .dat (.list (T.map .int))) (k3.pn.app [W]) (sT _)
    obtain ⟨c4, rfl, k4⟩ := k4'.split (by omega)
    have l4 := k4.1
    refine ⟨_, c4, ?_, .put (a := a) (bs := as) (us := us) ⟨a1, a2, fun t ht => hT.2.2 t (a3 t ht)⟩ haO (by omega) ul (fun u hu => ?_), k1.trans (k2.trans (k3.trans k4))⟩
    · unfold f_law_drawn_deed b_law_drawn_deed
      rw [runFS]
      have tk : (c4 ++ [W]).take ce.length = c4 := List.take_left' (by omega)
      try simp at e2
      try simp at e3
      try simp at e4
      simp [hW, e1, e2, e3, e4, tk, -List.take_append]
    · obtain ⟨x, y, e, hx, hy⟩ := uO u hu
      exact ⟨x, y, e, hT.2.2 x hx, hT.2.2 y hy⟩
  have hw2 : w = .str "take" ∨ w = .str "turn" := hw'.resolve_left hput
  obtain ⟨T, c2', e2, hT, k2'⟩ := terms_sp (k1.pn.app [W]) hp
  obtain ⟨c2, rfl, k2⟩ := k2'.split (by omega)
  have l2 := k2.1
  generalize hTl : Cl.ls true (T.map .int) = Tl at e2
  obtain ⟨a, c3', e3, a1, a2, a3, k3'⟩ := atom_spG (x2 := .rf (c2.length + 1)) (k2.pn.app [W, Tl]) hk (src_rf (fl := true) hT.n0 (by have := hT.le; omega) (by subst hTl; simp) (by omega))
  obtain ⟨c3, rfl, k3⟩ := k3'.split (by omega)
  have l3 := k3.1
  have aO : AtOk kk a := ⟨a1, a2, fun t ht => hT.bd t (a3 t ht)⟩
  have al := aO.l2 hk
  obtain ⟨d4, c4', e4, hd4, k4'⟩ := one_spL (ds := ks.map .int) (k3.pn.app [W, Tl, .ls true (a.2.map .int)]) (by simpa using ks0) (by simp; omega)
  obtain ⟨c4, rfl, k4⟩ := k4'.split (by omega)
  obtain ⟨t0, ht0, rfl⟩ := List.mem_map.mp hd4
  have l4 := k4.1
  have b0 := p9.1 t0 ht0
  have sB : ∀ more : Ce, Src j ks (a.2 ++ [t0]) (c4 ++ [W, Tl, .ls true (a.2.map .int), .ls true [.int t0], .ls true (a.2.map .int ++ [.int t0])]) (.rf (c4.length + 4)) := fun _ => src_rf (fl := true) (by simp) (by simp; omega) (by simp [List.getElem?_append]) (by omega)
  obtain ⟨us, c5', e5, ul, uO, k5'⟩ := pairs_sp (m := 2) (x1 := .rf (c4.length + 4)) (k4.pn.app [W, Tl, .ls true (a.2.map .int), .ls true [.int t0], .ls true (a.2.map .int ++ [.int t0])]) (sB [])
  obtain ⟨c5, rfl, k5⟩ := k5'.split (by omega)
  have l5 := k5.1
  have uB : ∀ u ∈ us, PrB a.2 u := fun u hu => prB_of b0 aO.b (uO u hu)
  obtain ⟨gs, s, p, ep⟩ := k3.pn
  have gp : ∀ more : Ce, (c3 ++ more)[j]? = some (.ls true (Pen gs s p (.list (ks.map .int)))) := fun more => by rw [List.getElem?_append_left (by omega)]; exact ep
  have i3 : idxD (.list (Pen gs s p (.list (ks.map .int)))) (.int 3) = some (.list (ks.map .int)) := rfl
  have ia : idxD (encA a) (.int 1) = some (kT a.2) := rfl
  have bl : a.2.length + 1 ≤ 16777216 := by omega
  have m1 : c1.length = c5.length := by omega
  have m2 : c2.length = c5.length := by omega
  have m3 : c3.length = c5.length := by omega
  have m4 : c4.length = c5.length := by omega
  have m0 : ce.length = c5.length := by omega
  have tk : ∀ m : Ce, (c5 ++ m).take c5.length = c5 := fun m => List.take_left' rfl
  try simp at e2
  try simp at e3
  try simp at e4
  try simp at e5
  rw [m0] at e1
  rw [m1] at e2
  rw [m2] at e3
  rw [m4] at e5
  by_cases htk : w = .str "take"
  · subst htk
    refine ⟨_, c5, ?_, .take (a := a) (us := us) aO ul uB, k1.trans (k2.trans (k3.trans (k4.trans k5)))⟩
    unfold f_law_drawn_deed b_law_drawn_deed
    rw [runFS]
    simp [hW, e1, ne_tp, e2, hTl, m2, e3, ia, bl, m3, gp, i3, e4, m4, List.getElem?_append, m0, e5, tk, -List.take_append]
  · have htu : w = .str "turn" := hw2.resolve_left htk
    subst htu
    have sC : Src j ks (a.2 ++ [t0]) (c5 ++ [W, Tl, .ls true (a.2.map .int), .ls true [.int t0], .ls true (a.2.map .int ++ [.int t0])]) (.rf (c5.length + 4)) := src_rf (fl := true) (by simp) (by simp; omega) (by simp [List.getElem?_append]) (by omega)
    obtain ⟨es, c6', lc, k6', hT6, hl6⟩ := lc_draw2 (j := j) (ks := ks) (ce0 := c5 ++ [W, Tl, .ls true (a.2.map .int), .ls true [.int t0], .ls true (a.2.map .int ++ [.int t0])]) (T := fun e => ∃ t : Int, e = .int t ∧ t ∈ a.2 ++ [t0])
      (sl0 := [some (.rf j), some (.dat (kT kk)), some (.dat (.str "turn")), some (.dat (encA a)), some (.rf (c5.length + 4)), some (.dat (.tuple (us.map kT))), none, none])
      (step := stepC (setSl 7) tYesD (eCall 2 f_law_one_of (aCons (eVar 0) (aCons (eVar 4) (pure []))))) (by simp; omega)
      (fun d ce2 hp2 hlen ho => by
        obtain ⟨d1, c3, e3, hd1, hk3⟩ := sC ce2 hp2 ho
        obtain ⟨t, ht, rfl⟩ := List.mem_map.mp hd1
        refine ⟨.int t, [some (.rf j), some (.dat (kT kk)), some (.dat (.str "turn")), some (.dat (encA a)), some (.rf (c5.length + 4)), some (.dat (.tuple (us.map kT))), none, some (.dat d)], c3, [], ?_, hk3, t, rfl, ht⟩
        simp [e3]) (a.2.map .int) [] _ rfl (k5.pn.app _) OffJ.refl (by simp; omega)
    obtain ⟨c6, rfl, k6⟩ := k6'.split (by omega)
    obtain ⟨ts, rfl, hts⟩ := ints_of hT6
    have l6 := k6.1
    have tk6 : ∀ m : Ce, (c6 ++ m).take c5.length = c6 := fun m => List.take_left' l6
    refine ⟨_, c6, ?_, .turn (a := a) (us := us) (ts := ts) aO ul uB (by simpa using hl6) (fun t ht => ?_), k1.trans (k2.trans (k3.trans (k4.trans (k5.trans k6))))⟩
    · unfold f_law_drawn_deed b_law_drawn_deed
      rw [runFS]
      simp at lc
      simp [hW, e1, ne_up, ne_ut, e2, hTl, m2, e3, ia, bl, m3, gp, i3, e4, m4, List.getElem?_append, m0, e5, wipeD, lc, l6, tk6, -List.take_append]
    · rcases List.mem_append.mp (hts t ht) with z | z
      · exact aO.b t z
      · simp at z; subst z; omega

end K13
namespace K13
open PySem DL L2 MA MB
/-! the program's cases -/
def mv (r t : Int) : Int := if 0 ≤ t then t else t - r
theorem lc_enc {α : Type} {enc out : α → PyData} {step : PyData → M (Option PyData)} {sl0 : List (Option VD)} {ce : Ce} : ∀ (xs : List α) (acc : List PyData), (∀ x ∈ xs, ∀ ce', ∃ sl' more, step (enc x) ⟨sl0, ce'⟩ = .ok (some (out x), ⟨sl', ce' ++ more⟩)) → acc.length + xs.length ≤ 16777215 →
    lcGo step ce.length sl0 (xs.map enc) (ce ++ [(.ls true acc)]) = some (ce ++ [(.ls true (acc ++ xs.map out))])
  | [], acc, _, _ => by simp [lcGo]
  | d :: ds, acc, hs, hz => by
    obtain ⟨sl', more, e⟩ := hs d List.mem_cons_self (ce ++ [(.ls true acc)])
    rw [List.map_cons]
    unfold lcGo
    rw [e]
    dsimp only
    have g : (ce ++ [(.ls true acc)] ++ more)[ce.length]? = some (.ls true acc) := by simp
    rw [g]
    dsimp only
    rw [if_pos (by simp at hz; omega)]
    have tk : (ce ++ [(Cl.ls true acc)] ++ more).take ce.length = ce := by rw [List.append_assoc]; exact List.take_left' rfl
    rw [tk, lc_enc ds (acc ++ [out d]) (fun x hx => hs x (List.mem_cons_of_mem _ hx)) (by simp at hz ⊢; omega)]
    simp
theorem r_moved (ts : List Int) (r : Int) (hl : ts.length ≤ 1000000) (ce : Ce) : fmoved [.dat (kT ts), .dat (.int r)] ⟨[], ce⟩ = .ok (.dat (kT (ts.map (mv r))), ⟨[], ce⟩) := by
  unfold fmoved bmoved
  rw [runFS]
  have lc := lc_enc (enc := PyData.int) (out := fun t => .int (mv r t)) (step := stepC (setSl 2) tYesD (eIf (tOf (eOp fGe (eVar 2) (eC (.int 0)))) (eVar 2) (eOp fSub (eVar 2) (eVar 1)))) (sl0 := [some (.dat (kT ts)), some (.dat (.int r)), none]) (ce := ce) ts [] (fun t _ ce' => by
      by_cases h0 : 0 ≤ t
      · exact ⟨_, [], by simp [h0, mv]; rfl⟩
      · exact ⟨_, [], by simp [h0, mv, fSub, fI]; rfl⟩) (by simp; omega)
  simp at lc
  simp [wipeD, lc]
def itD (b : Int × List Int) : PyData := .tuple [.tuple [], .tuple [encA b], .tuple []]
theorem r_itself (b : Int × List Int) (ce : Ce) : fitself [.dat (encA b)] ⟨[], ce⟩ = .ok (.dat (itD b), ⟨[], ce⟩) := by
  unfold fitself bitself
  rw [runFS]
  simp [itD]
def prsD (xs ys : List Int) : List PyData := zipD (xs.map .int) (ys.map .int)
def caseD (told : List Int) (bs : List (Int × List Int)) (us : List (List Int)) (asked : List Int) (r : Int) : PyData :=
  .tuple [.tuple (prsD (told.map (mv r)) asked), .tuple (bs.map fun a => encA (a.1, a.2.map (mv r))), .tuple (us.map fun u => kT (u.map (mv r)))]
theorem r_case (told : List Int) (bs : List (Int × List Int)) (us : List (List Int)) (asked : List Int) (r : Int) (h1 : told.length ≤ 1000) (h2 : bs.length ≤ 1000) (h3 : us.length ≤ 1000) (h4 : ∀ b ∈ bs, b.2.length ≤ 1000) (h5 : ∀ u ∈ us, u.length ≤ 1000) (ce : Ce) :
    fcase_of_deed [.dat (kT told), .dat (.tuple (bs.map encA)), .dat (.tuple (us.map kT)), .dat (kT asked), .dat (.int r)] ⟨[], ce⟩ = .ok (.dat (caseD told bs us asked r), ⟨[], ce⟩) := by
  unfold fcase_of_deed bcase_of_deed
  rw [runFS]
  have lz : (zipD ((told.map (mv r)).map PyData.int) (asked.map .int)).length ≤ 100000 := by rw [zipD_len]; simp; omega
  have z : ∀ S : DS, S.sl[0]? = some (some (.dat (kT told))) → S.sl[4]? = some (some (.dat (.int r))) → S.sl[3]? = some (some (.dat (kT asked))) → eZipV false (eCall 2 fmoved (aCons (eVar 0) (aCons (eVar 4) (pure [])))) (eVar 3) S = .ok (.dat (.tuple (prsD (told.map (mv r)) asked)), S) := fun S g0 g4 g3 => by
    have e1 : eCall 2 fmoved (aCons (eVar 0) (aCons (eVar 4) (pure []))) S = .ok (.dat (kT (told.map (mv r))), S) := by
      simp [g0, g4]
      rw [r_moved told r (by omega)]
    have e2 : eVar 3 S = .ok (.dat (kT asked), S) := by simp [g3]
    rw [eZipV_ok (l := false) e1 e2 rfl rfl lz]
    rfl
  have lb := lc_enc (enc := encA) (out := fun a => encA (a.1, a.2.map (mv r))) (step := stepC (gTupD 2 (gConsD (setSl 7) (gConsD (setSl 8) gNilD))) tYesD (eTup (aCons (eVar 7) (aCons (eCall 2 fmoved (aCons (eVar 8) (aCons (eVar 4) (pure [])))) (pure [])))))
    (sl0 := [some (.dat (kT told)), some (.dat (.tuple (bs.map encA))), some (.dat (.tuple (us.map kT))), some (.dat (kT asked)), some (.dat (.int r)), some (.dat (.tuple (prsD (told.map (mv r)) asked))), none, none, none, none]) (ce := ce) bs [] (fun a ha ce' => by
      have := r_moved a.2 r (by have := h4 a ha; omega) ce'
      exact ⟨_, [], by simp [encA, this]; rfl⟩) (by simp; omega)
  have lu := lc_enc (enc := kT) (out := fun u => kT (u.map (mv r))) (step := stepC (setSl 9) tYesD (eCall 2 fmoved (aCons (eVar 9) (aCons (eVar 4) (pure [])))))
    (sl0 := [some (.dat (kT told)), some (.dat (.tuple (bs.map encA))), some (.dat (.tuple (us.map kT))), some (.dat (kT asked)), some (.dat (.int r)), some (.dat (.tuple (prsD (told.map (mv r)) asked))), some (.dat (.tuple (bs.map fun a => encA (a.1, a.2.map (mv r))))), none, none, none]) (ce := ce ++ [.ls true (bs.map fun a => encA (a.1, a.2.map (mv r)))]) us [] (fun u hu ce' => by
      have := r_moved u r (by have := h5 u hu; omega) ce'
      exact ⟨_, [], by simp [this]; rfl⟩) (by simp; omega)
  simp at lb lu
  simp [z, wipeD, lb, lu, caseD]
/-- what stands in the question's atom for a term of the deed's -/
def fv (ts asked : List Int) (t : Int) : Int := if 0 ≤ t then t else asked.getD (ts.idxOf t) 0
/-- the conditions of the places -/
def plD : List Int → List Int → List (List Int)
  | [t], [x] => if 0 ≤ t then [[x, t]] else []
  | [t, u], [x, y] => (if 0 ≤ t then [[x, t]] else []) ++ (if 0 ≤ u then [[y, u]] else if u = t then [[y, x]] else [])
  | _, _ => []
def placeC (b : Int × List Int) (p : List Int) : PyData := .tuple [.tuple [], .tuple [encA b], .tuple [kT p]]
def pairC (b : Int × List Int) (ts u : List Int) : PyData := .tuple [.tuple [kT (u.map (fv ts b.2))], .tuple [encA b], .tuple []]
def unmetD (ts : List Int) (us : List (List Int)) (b : Int × List Int) : List PyData := (plD ts b.2).map (placeC b) ++ us.map (pairC b ts)
abbrev puT : VD → M Unit := (gTupD 2 (gConsD (setSl 6) (gConsD (setSl 7) gNilD)))
abbrev puB : MS := (sIf (tOf (eOp fGe (eVar 7) (eC (.int 0)))) (sExp (eApp (eVar 4) (eTup (aCons (eC (.tuple [])) (aCons (eTup (aCons (eVar 1) (pure []))) (aCons (eTup (aCons (eTup (aCons (eIdx (eVar 3) (eVar 6)) (aCons (eVar 7) (pure [])))) (pure []))) (pure []))))))) (sIf (tOf (eOp fLtD (eIndex (eVar 2) (eVar 7)) (eVar 6))) (sExp (eApp (eVar 4) (eTup (aCons (eC (.tuple [])) (aCons (eTup (aCons (eVar 1) (pure []))) (aCons (eTup (aCons (eTup (aCons (eIdx (eVar 3) (eVar 6)) (aCons (eIdx (eVar 3) (eIndex (eVar 2) (eVar 7))) (pure [])))) (pure []))) (pure []))))))) sNil))
theorem intsOf_ints : ∀ xs : List Int, intsOf (xs.map .int) = some xs
  | [] => rfl
  | x :: xs => by simp [intsOf, intsOf_ints xs]
theorem pl_go {v : VD} {ts : List Int} {b : Int × List Int} {ce : Ce} (h2 : ts.length ≤ 2) (hl : b.2.length = ts.length) : ∃ y6 y7, forD puT puB (enD (ts.map .int)) ⟨[some v, some (.dat (encA b)), some (.dat (kT ts)), some (.dat (kT b.2)), some (.rf ce.length), none, none, none, none], ce ++ [.ls true []]⟩ =
    .ok (.nx, ⟨[some v, some (.dat (encA b)), some (.dat (kT ts)), some (.dat (kT b.2)), some (.rf ce.length), none, y6, y7, none], ce ++ [.ls true ((plD ts b.2).map (placeC b))]⟩) := by
  obtain ⟨k, bs⟩ := b
  match ts, bs, h2, hl with
  | [], [], _, _ => exact ⟨none, none, by simp [enD, plD]⟩
  | [t], [x], _, _ =>
    refine ⟨some (.dat (.int 0)), some (.dat (.int t)), ?_⟩
    by_cases h0 : 0 ≤ t
    · simp [enD, plD, forD_cons, h0, placeC, idxD, atI, ixN]
    · simp [enD, plD, forD_cons, h0, placeC, intsOf, lt_int]
  | [t, u], [x, y], _, _ =>
    refine ⟨some (.dat (.int 1)), some (.dat (.int u)), ?_⟩
    by_cases h0 : 0 ≤ t
    · by_cases h1 : 0 ≤ u
      · simp [enD, plD, forD_cons, h0, h1, placeC, idxD, atI, ixN]
      · have ne : ¬ t = u := fun e => h1 (e ▸ h0)
        have ne' : ¬ u = t := fun e => ne e.symm
        have ix : List.idxOf u [t, u] = 1 := by
            have q : (t == u) = false := by simpa using ne
            simp [List.idxOf_cons, q]
        simp [enD, plD, forD_cons, h0, h1, placeC, idxD, atI, ixN, intsOf, lt_int, ix, ne']
    · by_cases h1 : 0 ≤ u
      · simp [enD, plD, forD_cons, h0, h1, placeC, idxD, atI, ixN, intsOf, lt_int]
      · by_cases e : u = t
        · subst e
          simp [enD, plD, forD_cons, h0, placeC, idxD, atI, ixN, intsOf, lt_int]
        · have ne : ¬ t = u := fun z => e z.symm
          have ix : List.idxOf u [t, u] = 1 := by
            have q : (t == u) = false := by simpa using ne
            simp [List.idxOf_cons, q]
          simp [enD, plD, forD_cons, h0, h1, e, placeC, idxD, atI, ixN, intsOf, lt_int, ix]
abbrev unB : MS := (sSeq (sSet 8 (eTupOf (eLc [7] (srcSeq (eVar 5)) (stepC (setSl 7) tYesD (eIf (tOf (eOp fGe (eVar 7) (eC (.int 0)))) (eVar 7) (eIdx (eVar 3) (eIndex (eVar 2) (eVar 7))))))))
    (sExp (eApp (eVar 4) (eTup (aCons (eTup (aCons (eVar 8) (pure []))) (aCons (eTup (aCons (eVar 1) (pure []))) (aCons (eC (.tuple [])) (pure []))))))))
theorem fv_idx {ts xs : List Int} {t : Int} (hl : xs.length = ts.length) (h : t ∈ ts) : idxD (kT xs) (.int (ts.idxOf t : Nat)) = some (.int (xs.getD (ts.idxOf t) 0)) := by
  have hi := List.idxOf_lt_length_iff.mpr h
  have := idx_nat (ks := xs) (k := (ts.idxOf t : Nat)) ⟨by omega, by omega⟩
  simpa using this
theorem un_go {v : VD} {ts : List Int} {b : Int × List Int} {ce : Ce} (hl : b.2.length = ts.length) : ∀ (us : List (List Int)) (L : List PyData) (more : Ce) (x5 x6 x7 x8 : Option VD), (∀ u ∈ us, u.length ≤ 1000 ∧ ∀ t ∈ u, 0 ≤ t ∨ t ∈ ts) → L.length + us.length ≤ 1000000 →
    ∃ y5 y8 more', forD (setSl 5) unB (us.map kT) ⟨[some v, some (.dat (encA b)), some (.dat (kT ts)), some (.dat (kT b.2)), some (.rf ce.length), x5, x6, x7, x8], ce ++ .ls true L :: more⟩ =
      .ok (.nx, ⟨[some v, some (.dat (encA b)), some (.dat (kT ts)), some (.dat (kT b.2)), some (.rf ce.length), y5, x6, x7, y8], ce ++ .ls true (L ++ us.map (pairC b ts)) :: more'⟩)
  | [], L, more, x5, x6, x7, x8, _, _ => ⟨x5, x8, more, by simp⟩
  | u :: us, L, more, x5, x6, x7, x8, h, hz => by
    obtain ⟨h1, h2⟩ := h u List.mem_cons_self
    simp only [List.length_cons] at hz
    have lc := lc_enc (enc := PyData.int) (out := fun t => .int (fv ts b.2 t)) (step := stepC (setSl 7) tYesD (eIf (tOf (eOp fGe (eVar 7) (eC (.int 0)))) (eVar 7) (eIdx (eVar 3) (eIndex (eVar 2) (eVar 7)))))
      (sl0 := [some v, some (.dat (encA b)), some (.dat (kT ts)), some (.dat (kT b.2)), some (.rf ce.length), some (.dat (kT u)), x6, none, x8]) (ce := ce ++ .ls true L :: more) u [] (fun t ht ce' => by
        by_cases h0 : 0 ≤ t
        · exact ⟨_, [], by simp [h0, fv]; rfl⟩
        · have hm := (h2 t ht).resolve_left h0
          exact ⟨_, [], by simp [h0, fv, intsOf_ints, hm, fv_idx hl hm]; rfl⟩) (by simp; omega)
    obtain ⟨y5, y8, more', e⟩ := un_go (v := v) (ce := ce) hl us (L ++ [pairC b ts u]) (more ++ [.ls true (u.map fun t => .int (fv ts b.2 t))]) (some (.dat (kT u))) x6 x7 (some (.dat (kT (u.map (fv ts b.2))))) (fun w hw => h w (List.mem_cons_of_mem _ hw)) (by simp; omega)
    refine ⟨y5, y8, more', ?_⟩
    rw [List.map_cons, forD_cons]
    have hb : L.length < 16777216 := by omega
    simp at lc e
    simp [wipeD, lc, hb, List.set_append, pairC, List.getElem?_append]
    have ek : PyData.tuple (u.map fun t => .int (fv ts b.2 t)) = kT (u.map (fv ts b.2)) := by simp [Function.comp_def]
    rw [ek]
    simpa [pairC] using e
theorem r_unmet {d : PyData} {a b : Int × List Int} {us : List (List Int)} (i1 : idxD d (.int 1) = some (encA a)) (i2 : idxD d (.int 2) = some (.tuple (us.map kT))) (h2 : a.2.length ≤ 2) (hl : b.2.length = a.2.length) (hu : ∀ u ∈ us, PrB a.2 u) (ul : us.length ≤ 1000) (ce : Ce) :
    fcases_unmet [.dat d, .dat (encA b)] ⟨[], ce⟩ = .ok (.dat (.tuple (unmetD a.2 us b)), ⟨[], ce⟩) := by
  unfold fcases_unmet bcases_unmet
  rw [runFS]
  obtain ⟨y6, y7, e1⟩ := pl_go (v := .dat d) (ts := a.2) (b := b) (ce := ce) h2 hl
  have pl : (plD a.2 b.2).length ≤ 2 := by
    unfold plD
    split
    · split <;> simp
    · simp only [List.length_append]
      split <;> split <;> (try split) <;> simp
    · simp
  obtain ⟨y5, y8, more', e2⟩ := un_go (v := .dat d) (ts := a.2) (b := b) (ce := ce) hl us ((plD a.2 b.2).map (placeC b)) [] none y6 y7 none (fun u h => by
    obtain ⟨x, y, rfl, _, _, hx, hy⟩ := hu u h
    refine ⟨by simp, fun t ht => ?_⟩
    simp only [List.mem_cons, List.not_mem_nil, or_false] at ht
    rcases ht with rfl | rfl
    · exact hx
    · exact hy) (by simp; omega)
  have ia : ∀ c : Int × List Int, idxD (encA c) (.int 1) = some (kT c.2) := fun _ => rfl
  try simp at e1
  try simp at e2
  simp [i1, i2, ia, srcEnumT, e1, e2, unmetD]
end K13
namespace K13
open PySem DL L2 MA MB
/-! the program's cases, whole -/
structure BOk (kk : List Int) (b : Int × List Int) : Prop where
  k : 0 ≤ b.1 ∧ b.1 < kk.length
  l : (b.2.length : Int) = kk.getD b.1.toNat 0
  b : ∀ t ∈ b.2, -8 ≤ t ∧ t ≤ 9
theorem BOk.l2 {kk : List Int} {a : Int × List Int} (h : BOk kk a) (hk : KOk kk) : a.2.length ≤ 2 := by
  have := kind_le hk.le h.k
  have := h.l
  omega
theorem same_len {kk : List Int} {a b : Int × List Int} (ha : AtOk kk a) (hb : BOk kk b) (h : a.1 = b.1) : b.2.length = a.2.length := by
  have h1 := ha.l
  have h2 := hb.l
  rw [h] at h1
  omega
theorem ix0 (c : Int × List Int) : idxD (encA c) (.int 0) = some (.int c.1) := rfl
theorem ix1 (c : Int × List Int) : idxD (encA c) (.int 1) = some (kT c.2) := rfl
theorem dz0 (x : PyData) (xs : List PyData) : idxD (.tuple (x :: xs)) (.int 0) = some x := by simp [idxD, atI, ixN]
theorem dz1 (x y : PyData) (xs : List PyData) : idxD (.tuple (x :: y :: xs)) (.int 1) = some y := by
  have : (1 : Int) < (xs.length : Int) + 1 + 1 := by omega
  simp [idxD, atI, ixN, this]
theorem dz2 (x y z : PyData) (xs : List PyData) : idxD (.tuple (x :: y :: z :: xs)) (.int 2) = some z := by
  have : (2 : Int) < (xs.length : Int) + 1 + 1 + 1 := by omega
  simp [idxD, atI, ixN, this]
def putsD (a : Int × List Int) (bs : List (Int × List Int)) (us : List (List Int)) (b : Int × List Int) (r : Int) : List PyData := if a.1 = b.1 then [itD b, caseD a.2 bs us b.2 r] else [itD b]
def takesD (a : Int × List Int) (us : List (List Int)) (b : Int × List Int) : List PyData := if a.1 = b.1 then unmetD a.2 us b else [itD b]
def turnsD (a : Int × List Int) (us : List (List Int)) (ts : List Int) (b : Int × List Int) (r : Int) : List PyData := if a.1 = b.1 then unmetD a.2 us b ++ [caseD ts [a] us b.2 r] else [itD b]
theorem ap_put {kk : List Int} (hk : KOk kk) {a b : Int × List Int} {bs : List (Int × List Int)} {us : List (List Int)} {r : Int} (ha : AtOk kk a) (hbs : ∀ c ∈ bs, AtOk kk c) (bl : bs.length ≤ 2) (ul : us.length ≤ 2) (hu : ∀ u ∈ us, u.length ≤ 2) (hb : BOk kk b) (ce : Ce) :
    fcases_apart [.dat (.tuple [.str "put", encA a, .tuple (bs.map encA), .tuple (us.map kT)]), .dat (encA b), .dat (.int r)] ⟨[], ce⟩ = .ok (.dat (.tuple (putsD a bs us b r)), ⟨[], ce⟩) := by
  unfold fcases_apart bcases_apart
  rw [runFS]
  have al := ha.l2 hk
  have rc := fun ce => r_case a.2 bs us b.2 r (by omega) (by omega) (by omega) (fun c hc => by have := (hbs c hc).l2 hk; omega) (fun u h => by have := hu u h; omega) ce
  have ri := r_itself b
  have ea : encA a = .tuple [.int a.1, kT a.2] := rfl
  by_cases h : a.1 = b.1
  · simp [dz1, ix0, ix1, dz0, ea, h, ri, rc, putsD]
  · simp [dz1, ix0, ix1, dz0, ea, h, ri, rc, putsD]
theorem pl_len (ts xs : List Int) : (plD ts xs).length ≤ 2 := by
  unfold plD
  split
  · split <;> simp
  · simp only [List.length_append]
    split <;> split <;> (try split) <;> simp
  · simp
theorem unmet_len (ts : List Int) (us : List (List Int)) (b : Int × List Int) : (unmetD ts us b).length ≤ 2 + us.length := by
  have := pl_len ts b.2
  simp [unmetD]; omega
theorem ap_take {kk : List Int} (hk : KOk kk) {a b : Int × List Int} {us : List (List Int)} {r : Int} (ha : AtOk kk a) (ul : us.length ≤ 2) (hu : ∀ u ∈ us, PrB a.2 u) (hb : BOk kk b) (ce : Ce) :
    fcases_apart [.dat (.tuple [.str "take", encA a, .tuple (us.map kT)]), .dat (encA b), .dat (.int r)] ⟨[], ce⟩ = .ok (.dat (.tuple (takesD a us b)), ⟨[], ce⟩) := by
  unfold fcases_apart bcases_apart
  rw [runFS]
  have ri := r_itself b
  have ea : encA a = .tuple [.int a.1, kT a.2] := rfl
  by_cases h : a.1 = b.1
  · have ru := fun ce => r_unmet (d := .tuple [.str "take", encA a, .tuple (us.map kT)]) (a := a) (b := b) (us := us) (dz1 _ _ _) (dz2 _ _ _ _) (ha.l2 hk) (same_len ha hb h) hu (by omega) ce
    rw [ea, h] at ru
    simp [dz1, ix0, ix1, dz0, ea, h, ne_tp, ru, takesD]
  · simp [dz1, ix0, ix1, dz0, ea, h, ri, takesD]
theorem toDs_app (xs : List PyData) (y : PyData) (S : DS) : toDs (xs.map .dat ++ [.dat y]) S = .ok (xs ++ [y], S) := by
  have : xs.map VD.dat ++ [VD.dat y] = (xs ++ [y]).map .dat := by simp
  rw [this, DL.toDs_dat]
theorem ap_turn {kk : List Int} (hk : KOk kk) {a b : Int × List Int} {us : List (List Int)} {ts : List Int} {r : Int} (ha : AtOk kk a) (ul : us.length ≤ 2) (hu : ∀ u ∈ us, PrB a.2 u) (ht : ts.length = a.2.length) (hb : BOk kk b) (ce : Ce) :
    fcases_apart [.dat (.tuple [.str "turn", encA a, .tuple (us.map kT), kT ts]), .dat (encA b), .dat (.int r)] ⟨[], ce⟩ = .ok (.dat (.tuple (turnsD a us ts b r)), ⟨[], ce⟩) := by
  unfold fcases_apart bcases_apart
  rw [runFS]
  have ri := r_itself b
  have al := ha.l2 hk
  have ea : encA a = .tuple [.int a.1, kT a.2] := rfl
  by_cases h : a.1 = b.1
  · have ru := fun ce => r_unmet (d := .tuple [.str "turn", encA a, .tuple (us.map kT), kT ts]) (a := a) (b := b) (us := us) (dz1 _ _ _) (dz2 _ _ _ _) (ha.l2 hk) (same_len ha hb h) hu (by omega) ce
    have rc := fun ce => r_case ts [a] us b.2 r (by omega) (by simp) (by omega) (fun c hc => by simp at hc; subst hc; omega) (fun u h => by obtain ⟨x, y, rfl, _⟩ := hu u h; simp) ce
    have ul2 := unmet_len a.2 us b
    have ul3 : (unmetD a.2 us b).length + 1 ≤ 1000 := by omega
    simp only [List.map_cons, List.map_nil] at rc
    rw [ea, h] at ru rc
    simp [dz1, ix0, ix1, dz0, ea, h, ne_up, ne_ut, turnsD, ru, rc, ul3, toDs_app]
  · simp [dz1, ix0, ix1, dz0, ea, h, ri, turnsD]
/-- the cases of a deed -/
inductive CasesOf : PyData → Int × List Int → Int → List PyData → Prop
  | put {a b : Int × List Int} {bs : List (Int × List Int)} {us : List (List Int)} {r : Int} : CasesOf (.tuple [.str "put", encA a, .tuple (bs.map encA), .tuple (us.map kT)]) b r (putsD a bs us b r)
  | take {a b : Int × List Int} {us : List (List Int)} {r : Int} : CasesOf (.tuple [.str "take", encA a, .tuple (us.map kT)]) b r (takesD a us b)
  | turn {a b : Int × List Int} {us : List (List Int)} {ts : List Int} {r : Int} : CasesOf (.tuple [.str "turn", encA a, .tuple (us.map kT), kT ts]) b r (turnsD a us ts b r)
theorem ap_sp {kk : List Int} (hk : KOk kk) {d : PyData} {b : Int × List Int} {r : Int} (hd : DOk kk d) (hb : BOk kk b) : ∃ L, CasesOf d b r L ∧ L.length ≤ 5 ∧ ∀ ce, fcases_apart [.dat d, .dat (encA b), .dat (.int r)] ⟨[], ce⟩ = .ok (.dat (.tuple L), ⟨[], ce⟩) := by
  cases hd with
  | put ha hbs bl ul hu =>
    exact ⟨_, .put, by unfold putsD; split <;> simp, ap_put hk ha hbs bl ul (fun u h => by obtain ⟨x, y, rfl, _⟩ := hu u h; simp) hb⟩
  | @take a us ha ul hu =>
    exact ⟨_, .take, by unfold takesD; have := unmet_len a.2 us b; split <;> simp <;> omega, ap_take hk ha ul hu hb⟩
  | @turn a us ts ha ul hu ht _ =>
    exact ⟨_, .turn, by unfold turnsD; have := unmet_len a.2 us b; split <;> simp <;> omega, ap_turn hk ha ul hu ht hb⟩
theorem cases_sp {kk : List Int} (hk : KOk kk) {d : PyData} {b : Int × List Int} (hd : DOk kk d) (hb : BOk kk b) : ∃ L, CasesOf d b 8 L ∧ L.length ≤ 5 ∧ ∀ ce, fcases [.dat d, .dat (encA b)] ⟨[], ce⟩ = .ok (.dat (.tuple L), ⟨[], ce⟩) := by
  obtain ⟨L, h1, h2, h3⟩ := ap_sp (r := 8) hk hd hb
  refine ⟨L, h1, h2, fun ce => ?_⟩
  unfold fcases bcases
  rw [runFS]
  simp [h3]
end K13
namespace K13
open PySem DL L2 MA MB
/-! the law's own cases: of a take -/
abbrev Tr := List PyData × List PyData × List PyData
def encT (c : Tr) : PyData := .tuple [.tuple c.1, .tuple c.2.1, .tuple c.2.2]
def encL (c : Tr) : PyData := .tuple [.list c.1, .list c.2.1, .list c.2.2]
def placeT (b : Int × List Int) (p : List Int) : Tr := ([], [encA b], [kT p])
def pairT (b : Int × List Int) (ts u : List Int) : Tr := ([kT (u.map (fv ts b.2))], [encA b], [])
def unmetT (ts : List Int) (us : List (List Int)) (b : Int × List Int) : List Tr := (plD ts b.2).map (placeT b) ++ us.map (pairT b ts)
theorem unmet_T (ts : List Int) (us : List (List Int)) (b : Int × List Int) : unmetD ts us b = (unmetT ts us b).map encT := by
  unfold unmetD unmetT
  rw [List.map_append, List.map_map, List.map_map]
  rfl
/-- what the law keeps of the first places -/
def firD : List Int → List Int → List (Int × Int)
  | [t], [x] => if 0 ≤ t then [] else [(t, x)]
  | [t, u], [x, y] => if 0 ≤ t then (if 0 ≤ u then [] else [(u, y)]) else (if 0 ≤ u then [(t, x)] else if u = t then [(t, x)] else [(t, x), (u, y)])
  | _, _ => []
theorem dkGet_none {w : Int} : ∀ {kvs : List (Int × Int)}, (∀ p ∈ kvs, ¬ p.1 = w) → dkGet kvs w = none
  | [], _ => rfl
  | p :: r, h => by
    rw [dkGet, if_neg (h p List.mem_cons_self)]
    exact dkGet_none fun q hq => h q (List.mem_cons_of_mem _ hq)
theorem fir_neg (ts xs : List Int) : ∀ p ∈ firD ts xs, p.1 < 0 := by
  unfold firD
  split
  · split <;> simp; omega
  · split
    · split <;> simp; omega
    · split
      · simp; omega
      · split <;> simp <;> omega
  · simp
theorem fir_fv {ts xs : List Int} (h2 : ts.length ≤ 2) (hl : xs.length = ts.length) {w : Int} (hw : 0 ≤ w ∨ w ∈ ts) : orV (dkGet (firD ts xs) w) (.dat (.int w)) = VD.dat (.int (fv ts xs w)) := by
  by_cases h0 : 0 ≤ w
  · rw [dkGet_none fun p hp e => by have := fir_neg ts xs p hp; omega]
    simp [fv, h0]
  have hm : w ∈ ts := hw.resolve_left h0
  match ts, xs, h2, hl with
  | [], [], _, _ => simp at hm
  | [t], [x], _, _ =>
    have e : w = t := by simpa using hm
    subst e
    simp [firD, dkGet, fv, h0]
  | [t, u], [x, y], _, _ =>
    by_cases e : w = t
    · subst e
      by_cases h1 : 0 ≤ u
      · simp [firD, dkGet, fv, h0, h1]
      · by_cases e2 : u = w <;> simp [firD, dkGet, fv, h0, h1, e2]
    · have eu : w = u := by simp at hm; omega
      subst eu
      have q : (t == w) = false := by simpa using fun z => e z.symm
      have ne : ¬ t = w := fun z => e z.symm
      have ix : List.idxOf w [t, w] = 1 := by simp [List.idxOf_cons, q]
      by_cases h1 : 0 ≤ t
      · simp [firD, dkGet, fv, h0, h1, ix]
      · simp [firD, dkGet, fv, h0, h1, e, ne, ix]
abbrev lpT : VD → M Unit := (gTupD 2 (gConsD (setSl 4) (gConsD (setSl 5) gNilD)))
abbrev lpB : MS := (sIf (tOrD (tOf (eOp fGe (eVar 4) (eC (.int 0)))) (tOf (eDIn id (eVar 4) (eVar 3)))) (sExp (eApp (eVar 2) (eTup (aCons (newL []) (aCons (eLst (aCons (eVar 1) (pure []))) (aCons (eLst (aCons (eTup (aCons (eVar 5) (aCons (eDGet2 (eVar 3) (eVar 4) (eVar 4)) (pure [])))) (pure []))) (pure []))))))) (sDSet (eVar 3) (eVar 4) (eVar 5)))
theorem lpl_go {v : VD} {ts : List Int} {b : Int × List Int} {ce : Ce} (h2 : ts.length ≤ 2) (hl : b.2.length = ts.length) : ∃ y4 y5 more, forD lpT lpB (zipD (ts.map .int) (b.2.map .int)) ⟨[some v, some (.dat (encA b)), some (.rf ce.length), some (.rf (ce.length + 1)), none, none, none, none], ce ++ [.ls true [], .dk []]⟩ =
    .ok (.nx, ⟨[some v, some (.dat (encA b)), some (.rf ce.length), some (.rf (ce.length + 1)), y4, y5, none, none], ce ++ .ls true (((plD ts b.2).map (placeT b)).map encL) :: .dk (firD ts b.2) :: more⟩) := by
  obtain ⟨k, bs⟩ := b
  match ts, bs, h2, hl with
  | [], [], _, _ => exact ⟨none, none, [], by simp [zipD, plD, firD]⟩
  | [t], [x], _, _ =>
    refine ⟨some (.dat (.int t)), some (.dat (.int x)), ?_⟩
    by_cases h0 : 0 ≤ t
    · refine ⟨[.ls false [], .ls false [encA (k, [x])], .ls false [kT [x, t]]], ?_⟩
      simp [zipD, plD, firD, forD_cons, h0, placeT, encL, List.getElem?_append, List.set_append, dkGet]
    · refine ⟨[], ?_⟩
      simp [zipD, plD, firD, forD_cons, h0, List.getElem?_append, List.set_append, dkGet, dkPut, dkHas]
  | [t, u], [x, y], _, _ =>
    refine ⟨some (.dat (.int u)), some (.dat (.int y)), ?_⟩
    by_cases h0 : 0 ≤ t
    · by_cases h1 : 0 ≤ u
      · refine ⟨[.ls false [], .ls false [encA (k, [x, y])], .ls false [kT [x, t]], .ls false [], .ls false [encA (k, [x, y])], .ls false [kT [y, u]]], ?_⟩
        simp [zipD, plD, firD, forD_cons, h0, h1, placeT, encL, List.getElem?_append, List.set_append, dkGet]
      · have ne : ¬ u = t := fun e => h1 (e ▸ h0)
        refine ⟨[.ls false [], .ls false [encA (k, [x, y])], .ls false [kT [x, t]]], ?_⟩
        simp [zipD, plD, firD, forD_cons, h0, h1, ne, placeT, encL, List.getElem?_append, List.set_append, dkGet, dkPut, dkHas]
    · by_cases h1 : 0 ≤ u
      · refine ⟨[.ls false [], .ls false [encA (k, [x, y])], .ls false [kT [y, u]]], ?_⟩
        have ne : ¬ t = u := fun e => h0 (e ▸ h1)
        simp [zipD, plD, firD, forD_cons, h0, h1, ne, placeT, encL, List.getElem?_append, List.set_append, dkGet, dkPut, dkHas]
      · by_cases e : u = t
        · subst e
          refine ⟨[.ls false [], .ls false [encA (k, [x, y])], .ls false [kT [y, x]]], ?_⟩
          simp [zipD, plD, firD, forD_cons, h0, placeT, encL, List.getElem?_append, List.set_append, dkGet, dkPut, dkHas]
        · have ne : ¬ t = u := fun z => e z.symm
          refine ⟨[], ?_⟩
          simp [zipD, plD, firD, forD_cons, h0, h1, e, ne, placeT, encL, List.getElem?_append, List.set_append, dkGet, dkPut, dkHas]
theorem lc_enc2 {α : Type} {enc out : α → PyData} {step : PyData → M (Option PyData)} {sl0 : List (Option VD)} {ce : Ce} : ∀ (xs : List α) (acc : List PyData), (∀ x ∈ xs, ∀ acc', ∃ sl' more, step (enc x) ⟨sl0, ce ++ [.ls true acc']⟩ = .ok (some (out x), ⟨sl', ce ++ [.ls true acc'] ++ more⟩)) → acc.length + xs.length ≤ 16777215 →
    lcGo step ce.length sl0 (xs.map enc) (ce ++ [(.ls true acc)]) = some (ce ++ [(.ls true (acc ++ xs.map out))])
  | [], acc, _, _ => by simp [lcGo]
  | d :: ds, acc, hs, hz => by
    obtain ⟨sl', more, e⟩ := hs d List.mem_cons_self acc
    rw [List.map_cons]
    unfold lcGo
    rw [e]
    dsimp only
    have g : (ce ++ [(.ls true acc)] ++ more)[ce.length]? = some (.ls true acc) := by simp
    rw [g]
    dsimp only
    rw [if_pos (by simp at hz; omega)]
    have tk : (ce ++ [(Cl.ls true acc)] ++ more).take ce.length = ce := by rw [List.append_assoc]; exact List.take_left' rfl
    rw [tk, lc_enc2 ds (acc ++ [out d]) (fun x hx => hs x (List.mem_cons_of_mem _ hx)) (by simp at hz ⊢; omega)]
    simp
theorem r_law_unmet {d : PyData} {a b : Int × List Int} {us : List (List Int)} (i1 : idxD d (.int 1) = some (encA a)) (i2 : idxD d (.int 2) = some (.tuple (us.map kT))) (h2 : a.2.length ≤ 2) (hl : b.2.length = a.2.length) (hu : ∀ u ∈ us, PrB a.2 u) (ul : us.length ≤ 1000) (ce : Ce) :
    f_law_unmet [.dat d, .dat (encA b)] ⟨[], ce⟩ = .ok (.rf ce.length, ⟨[], ce ++ [.ls true ((unmetT a.2 us b).map encL)]⟩) := by
  unfold f_law_unmet b_law_unmet
  rw [runFS]
  obtain ⟨y4, y5, more, e1⟩ := lpl_go (v := .dat d) (ts := a.2) (b := b) (ce := ce) h2 hl
  have pl := pl_len a.2 b.2
  have lc := lc_enc2 (enc := kT) (out := fun u => encL (pairT b a.2 u)) (step := stepC (gTupD 2 (gConsD (setSl 6) (gConsD (setSl 7) gNilD))) tYesD (eTup (aCons (eLst (aCons (eTup (aCons (eDGet2 (eVar 3) (eVar 6) (eVar 6)) (aCons (eDGet2 (eVar 3) (eVar 7) (eVar 7)) (pure [])))) (pure []))) (aCons (eLst (aCons (eVar 1) (pure []))) (aCons (newL []) (pure []))))))
    (sl0 := [some (.dat d), some (.dat (encA b)), some (.rf ce.length), some (.rf (ce.length + 1)), y4, y5, none, none]) (ce := ce ++ .ls true (((plD a.2 b.2).map (placeT b)).map encL) :: .dk (firD a.2 b.2) :: more) us [] (fun u hm acc => by
      obtain ⟨x, y, rfl, _, _, hx, hy⟩ := hu u hm
      have fx := fir_fv h2 hl hx
      have fy := fir_fv h2 hl hy
      refine ⟨[some (.dat d), some (.dat (encA b)), some (.rf ce.length), some (.rf (ce.length + 1)), y4, y5, some (.dat (.int x)), some (.dat (.int y))], [.ls false [kT [fv a.2 b.2 x, fv a.2 b.2 y]], .ls false [encA b], .ls false []], ?_⟩
      simp [List.getElem?_append, fx, fy, pairT, encL]) (by simp; omega)
  simp [Function.comp_def] at e1 lc
  have bl : (unmetT a.2 us b).length ≤ 16777216 := by simp [unmetT]; omega
  simp [unmetT] at bl
  simp [i1, i2, ix1, pairSeq, e1, wipeD, lc, bl, List.getElem?_append, unmetT, Function.comp_def]
end K13
namespace K13
open PySem DL L2 MA MB
/-! the law's own cases, whole -/
def nwD : List (Int × Int) := [(-1, -9), (-2, -10), (-3, -11), (-4, -12)]
theorem nw_get {t : Int} (h : -4 ≤ t) : orV (dkGet nwD t) (.dat (.int t)) = VD.dat (.int (mv 8 t)) := by
  by_cases h0 : 0 ≤ t
  · rw [dkGet_none (by intro p hp e; simp [nwD] at hp; rcases hp with rfl | rfl | rfl | rfl <;> simp at e <;> omega)]
    simp [mv, h0]
  · have : t = -1 ∨ t = -2 ∨ t = -3 ∨ t = -4 := by omega
    rcases this with rfl | rfl | rfl | rfl <;> rfl
abbrev stN : PyData → M (Option PyData) := stepC (setSl 9) tYesD (eDGet2 (eVar 3) (eVar 9) (eVar 9))
theorem ren_lc {sl0 : List (Option VD)} {ce0 : Ce} {i : Nat} (hl : 9 < sl0.length) (h3 : sl0[3]? = some (some (.rf i))) (hc : ce0[i]? = some (.dk nwD)) (ts : List Int) (hb : ∀ t ∈ ts, -4 ≤ t) (hz : ts.length ≤ 1000) :
    lcGo stN ce0.length sl0 (ts.map .int) (ce0 ++ [.ls true []]) = some (ce0 ++ [.ls true ((ts.map (mv 8)).map .int)]) := by
  obtain ⟨hi, hg⟩ := List.getElem?_eq_some_iff.mp hc
  have lc := lc_enc2 (enc := PyData.int) (out := fun t => .int (mv 8 t)) (step := stN) (sl0 := sl0) (ce := ce0) ts [] (fun t ht acc => by
    refine ⟨sl0.set 9 (some (.dat (.int t))), [], ?_⟩
    simp [hl, h3, hg, List.getElem?_append, hi, nw_get (hb t ht)]) (by simp; omega)
  simp at lc
  simp [lc, Function.comp_def]
abbrev stM : PyData → M (Option PyData) := stepC (setSl 9) tYesD (eTup (aCons (eVar 9) (aCons (eOp fSub (eVar 9) (eVar 2)) (pure []))))
abbrev nwL : List PyData := [.tuple [.int (-1), .int (-9)], .tuple [.int (-2), .int (-10)], .tuple [.int (-3), .int (-11)], .tuple [.int (-4), .int (-12)]]
theorem new_lc {sl0 : List (Option VD)} {ce0 : Ce} (hl : 9 < sl0.length) (h2 : sl0[2]? = some (some (.dat (.int 8)))) :
    lcGo stM ce0.length sl0 [.int (-1), .int (-2), .int (-3), .int (-4)] (ce0 ++ [.ls true []]) = some (ce0 ++ [.ls true nwL]) := by
  have lc := lc_enc2 (enc := PyData.int) (out := fun t => kT [t, t - 8]) (step := stM) (sl0 := sl0) (ce := ce0) [-1, -2, -3, -4] [] (fun t ht acc => by
    refine ⟨sl0.set 9 (some (.dat (.int t))), [], ?_⟩
    simp [hl, h2, fSub, fI]) (by simp)
  simp at lc
  exact lc
theorem nw_merge : dkMerge [] [(-1, -9), (-2, -10), (-3, -11), (-4, -12)] = nwD := by rfl
def itT (b : Int × List Int) : Tr := ([], [encA b], [])
def caseT (told : List Int) (bs : List (Int × List Int)) (us : List (List Int)) (asked : List Int) (r : Int) : Tr := (prsD (told.map (mv r)) asked, bs.map fun a => encA (a.1, a.2.map (mv r)), us.map fun u => kT (u.map (mv r)))
def putsT (a : Int × List Int) (bs : List (Int × List Int)) (us : List (List Int)) (b : Int × List Int) (r : Int) : List Tr := if a.1 = b.1 then [itT b, caseT a.2 bs us b.2 r] else [itT b]
def takesT (a : Int × List Int) (us : List (List Int)) (b : Int × List Int) : List Tr := if a.1 = b.1 then unmetT a.2 us b else [itT b]
def turnsT (a : Int × List Int) (us : List (List Int)) (ts : List Int) (b : Int × List Int) (r : Int) : List Tr := if a.1 = b.1 then unmetT a.2 us b ++ [caseT ts [a] us b.2 r] else [itT b]
theorem puts_T (a : Int × List Int) (bs : List (Int × List Int)) (us : List (List Int)) (b : Int × List Int) (r : Int) : putsD a bs us b r = (putsT a bs us b r).map encT := by
  unfold putsD putsT; split <;> rfl
theorem takes_T (a : Int × List Int) (us : List (List Int)) (b : Int × List Int) : takesD a us b = (takesT a us b).map encT := by
  unfold takesD takesT; split
  · exact unmet_T _ _ _
  · rfl
theorem turns_T (a : Int × List Int) (us : List (List Int)) (ts : List Int) (b : Int × List Int) (r : Int) : turnsD a us ts b r = (turnsT a us ts b r).map encT := by
  unfold turnsD turnsT; split
  · rw [List.map_append, unmet_T]; rfl
  · rfl
theorem ne_tu : ¬ (Str.ofString "take" = Str.ofString "turn") := by decide
abbrev sl4 (d : PyData) (b : Int × List Int) : List (Option VD) := [some (.dat d), some (.dat (encA b)), some (.dat (.int 8)), none, none, none, none, none, none, none, none, none, none]
theorem lc_take {kk : List Int} (hk : KOk kk) {a b : Int × List Int} {us : List (List Int)} (ha : AtOk kk a) (ul : us.length ≤ 2) (hu : ∀ u ∈ us, PrB a.2 u) (hb : BOk kk b) (ce : Ce) :
    f_law_cases [.dat (.tuple [.str "take", encA a, .tuple (us.map kT)]), .dat (encA b), .dat (.int 8)] ⟨[], ce⟩ = .ok (.rf ce.length, ⟨[], ce ++ [.ls true ((takesT a us b).map encL)]⟩) := by
  unfold f_law_cases b_law_cases
  rw [runFS]
  have ea : encA a = .tuple [.int a.1, kT a.2] := rfl
  have al := ha.l2 hk
  by_cases h : a.1 = b.1
  · have ru := fun ce => r_law_unmet (d := .tuple [.str "take", encA a, .tuple (us.map kT)]) (a := a) (b := b) (us := us) (dz1 _ _ _) (dz2 _ _ _ _) (ha.l2 hk) (same_len ha hb h) hu (by omega) ce
    rw [ea, h] at ru
    have r1 := ren_lc (sl0 := [some (.dat (.tuple [.str "take", encA a, .tuple (us.map kT)])), some (.dat (encA b)), some (.dat (.int 8)), some (.rf (ce.length + 1)), none, none, none, none, none, none, none, none, none]) (i := ce.length + 1)
      (ce0 := ce ++ [.ls true nwL, .dk nwD]) (by simp) (by simp) (by simp [List.getElem?_append]) a.2 (fun t ht => (ha.b t ht).1) (by omega)
    have r0 := new_lc (sl0 := sl4 (.tuple [.str "take", encA a, .tuple (us.map kT)]) b) (ce0 := ce) (by simp) (by simp)
    simp at r1 r0
    rw [ea, h] at r1 r0
    simp [dz1, ix0, ix1, dz0, ea, h, ru, takesT, wipeD, r0, r1, pairsI, pairI, nw_merge, ne_tp, ne_tu, List.getElem?_append]
  · simp [dz1, ix0, ix1, dz0, ea, h, takesT, itT, encL]
theorem at_lc {sl0 : List (Option VD)} {ce0 : Ce} {i : Nat} (hl : sl0.length = 13) (h3 : sl0[3]? = some (some (.rf i))) (hc : ce0[i]? = some (.dk nwD)) (bs : List (Int × List Int)) (hb : ∀ c ∈ bs, c.2.length ≤ 1000 ∧ ∀ t ∈ c.2, -4 ≤ t) (hz : bs.length ≤ 1000) :
    lcGo (stepC (gTupD 2 (gConsD (setSl 10) (gConsD (setSl 8) gNilD))) tYesD (eTup (aCons (eVar 10) (aCons (eTupOf (eLc [9] (srcSeq (eVar 8)) stN)) (pure []))))) ce0.length sl0 (bs.map encA) (ce0 ++ [.ls true []]) = some (ce0 ++ [.ls true (bs.map fun c => encA (c.1, c.2.map (mv 8)))]) := by
  obtain ⟨hi, hg⟩ := List.getElem?_eq_some_iff.mp hc
  have lc := lc_enc2 (enc := encA) (out := fun c => encA (c.1, c.2.map (mv 8))) (step := stepC (gTupD 2 (gConsD (setSl 10) (gConsD (setSl 8) gNilD))) tYesD (eTup (aCons (eVar 10) (aCons (eTupOf (eLc [9] (srcSeq (eVar 8)) stN)) (pure []))))) (sl0 := sl0) (ce := ce0) bs [] (fun c hm acc => by
    obtain ⟨k, ts⟩ := c
    have r1 := ren_lc (sl0 := ((sl0.set 10 (some (.dat (.int k)))).set 8 (some (.dat (kT ts)))).set 9 none) (i := i) (ce0 := ce0 ++ [.ls true acc]) (by simp [hl]) (by simp [h3]) (by simp [List.getElem?_append, hi, hg]) ts (hb _ hm).2 (hb _ hm).1
    simp at r1
    have ea : encA (k, ts) = .tuple [.int k, kT ts] := rfl
    refine ⟨(sl0.set 10 (some (.dat (.int k)))).set 8 (some (.dat (kT ts))), [.ls true ((ts.map (mv 8)).map .int)], ?_⟩
    rw [ea]
    simp [hl, wipeD, r1, encA]
    done) (by simp; omega)
  simp at lc
  exact lc
abbrev stU : PyData → M (Option PyData) := stepC (gTupD 2 (gConsD (setSl 11) (gConsD (setSl 12) gNilD))) tYesD (eTup (aCons (eDGet2 (eVar 3) (eVar 11) (eVar 11)) (aCons (eDGet2 (eVar 3) (eVar 12) (eVar 12)) (pure []))))
theorem un_lc {sl0 : List (Option VD)} {ce0 : Ce} {i : Nat} (hl : sl0.length = 13) (h3 : sl0[3]? = some (some (.rf i))) (hc : ce0[i]? = some (.dk nwD)) (us : List (List Int)) (hb : ∀ u ∈ us, ∃ x y : Int, u = [x, y] ∧ -4 ≤ x ∧ -4 ≤ y) (hz : us.length ≤ 1000) :
    lcGo stU ce0.length sl0 (us.map kT) (ce0 ++ [.ls true []]) = some (ce0 ++ [.ls true (us.map fun u => kT (u.map (mv 8)))]) := by
  obtain ⟨hi, hg⟩ := List.getElem?_eq_some_iff.mp hc
  obtain ⟨h3i, h3g⟩ := List.getElem?_eq_some_iff.mp h3
  have lc := lc_enc2 (enc := kT) (out := fun u => kT (u.map (mv 8))) (step := stU) (sl0 := sl0) (ce := ce0) us [] (fun u hm acc => by
    obtain ⟨x, y, rfl, hx, hy⟩ := hb u hm
    refine ⟨(sl0.set 11 (some (.dat (.int x)))).set 12 (some (.dat (.int y))), [], ?_⟩
    simp [hl, h3g, hg, hi, List.getElem?_append, nw_get hx, nw_get hy]) (by simp; omega)
  simp at lc
  exact lc
theorem lc_put {kk : List Int} (hk : KOk kk) {a b : Int × List Int} {bs : List (Int × List Int)} {us : List (List Int)} (ha : AtOk kk a) (hbs : ∀ c ∈ bs, AtOk kk c) (bl : bs.length ≤ 2) (ul : us.length ≤ 2) (hu : ∀ u ∈ us, ∃ x y : Int, u = [x, y] ∧ -4 ≤ x ∧ -4 ≤ y) (hb : BOk kk b) (ce : Ce) :
    f_law_cases [.dat (.tuple [.str "put", encA a, .tuple (bs.map encA), .tuple (us.map kT)]), .dat (encA b), .dat (.int 8)] ⟨[], ce⟩ = .ok (.rf ce.length, ⟨[], ce ++ [.ls true ((putsT a bs us b 8).map encL)]⟩) := by
  unfold f_law_cases b_law_cases
  rw [runFS]
  have ea : encA a = .tuple [.int a.1, kT a.2] := rfl
  have al := ha.l2 hk
  generalize hd : PyData.tuple [.str "put", encA a, .tuple (bs.map encA), .tuple (us.map kT)] = d
  have i0 : idxD d (.int 0) = some (.str "put") := by subst hd; exact dz0 _ _
  have i1 : idxD d (.int 1) = some (encA a) := by subst hd; exact dz1 _ _ _
  have i2 : idxD d (.int 2) = some (.tuple (bs.map encA)) := by subst hd; exact dz2 _ _ _ _
  have i3 : idxD d (.int 3) = some (.tuple (us.map kT)) := by subst hd; simp [idxD, atI, ixN]
  by_cases h : a.1 = b.1
  · have r0 := new_lc (sl0 := sl4 d b) (ce0 := ce) (by simp) (by simp)
    have r1 := ren_lc (sl0 := (sl4 d b).set 3 (some (.rf (ce.length + 1)))) (i := ce.length + 1)
      (ce0 := ce ++ [.ls true nwL, .dk nwD]) (by simp) (by simp) (by simp [List.getElem?_append]) a.2 (fun t ht => (ha.b t ht).1) (by omega)
    have r2 := at_lc (sl0 := ((sl4 d b).set 3 (some (.rf (ce.length + 1)))).set 4 (some (.dat (.tuple ((a.2.map (mv 8)).map .int))))) (i := ce.length + 1)
      (ce0 := ce ++ [.ls true nwL, .dk nwD, .ls true ((a.2.map (mv 8)).map .int)]) (by simp) (by simp) (by simp [List.getElem?_append]) bs (fun c hc => by have := (hbs c hc).l2 hk; exact ⟨by omega, fun t ht => ((hbs c hc).b t ht).1⟩) (by omega)
    have r3 := un_lc (sl0 := (((sl4 d b).set 3 (some (.rf (ce.length + 1)))).set 4 (some (.dat (.tuple ((a.2.map (mv 8)).map .int))))).set 6 (some (.rf (ce.length + 3)))) (i := ce.length + 1)
      (ce0 := ce ++ [.ls true nwL, .dk nwD, .ls true ((a.2.map (mv 8)).map .int), .ls true (bs.map fun c => encA (c.1, c.2.map (mv 8)))]) (by simp) (by simp) (by simp [List.getElem?_append]) us hu (by omega)
    have lz : (zipD ((a.2.map (mv 8)).map PyData.int) (b.2.map .int)).length ≤ 100000 := by rw [zipD_len]; simp; omega
    have z : ∀ S : DS, S.sl[4]? = some (some (.dat (.tuple (a.2.map (PyData.int ∘ mv 8))))) → S.sl[1]? = some (some (.dat (encA b))) → eZipV true (eVar 4) (eIdx (eVar 1) (eC (.int 1))) S = newL (prsD (a.2.map (mv 8)) b.2) S := fun S g0 g4 => by
      have e1 : eVar 4 S = .ok (.dat (.tuple ((a.2.map (mv 8)).map PyData.int)), S) := by simp [g0]
      have e2 : eIdx (eVar 1) (eC (.int 1)) S = .ok (.dat (kT b.2), S) := by simp [g4, ix1]
      rw [eZipV_ok (l := true) e1 e2 rfl rfl lz]
      rfl
    simp [sl4] at r0 r1 r2 r3
    simp [i0, i1, i2, i3, ix0, ix1, h, wipeD, r0, r1, r2, r3, pairsI, pairI, nw_merge, List.getElem?_append, z, putsT, itT, caseT, encL]
  · simp [i0, i1, ix0, ix1, h, putsT, itT, encL]
theorem lc_turn {kk : List Int} (hk : KOk kk) {a b : Int × List Int} {us : List (List Int)} {ts : List Int} (ha : AtOk kk a) (ul : us.length ≤ 2) (hu : ∀ u ∈ us, PrB a.2 u) (ht : ts.length = a.2.length) (htb : ∀ t ∈ ts, -4 ≤ t ∧ t ≤ 9) (hb : BOk kk b) (ce : Ce) :
    f_law_cases [.dat (.tuple [.str "turn", encA a, .tuple (us.map kT), kT ts]), .dat (encA b), .dat (.int 8)] ⟨[], ce⟩ = .ok (.rf ce.length, ⟨[], ce ++ [.ls true ((turnsT a us ts b 8).map encL)]⟩) := by
  unfold f_law_cases b_law_cases
  rw [runFS]
  have al := ha.l2 hk
  generalize hd : PyData.tuple [.str "turn", encA a, .tuple (us.map kT), kT ts] = d
  have i0 : idxD d (.int 0) = some (.str "turn") := by subst hd; exact dz0 _ _
  have i1 : idxD d (.int 1) = some (encA a) := by subst hd; exact dz1 _ _ _
  have i2 : idxD d (.int 2) = some (.tuple (us.map kT)) := by subst hd; exact dz2 _ _ _ _
  have i3 : idxD d (.int 3) = some (kT ts) := by subst hd; simp [idxD, atI, ixN]
  by_cases h : a.1 = b.1
  · have ru := fun ce => r_law_unmet (d := d) (a := a) (b := b) (us := us) i1 i2 (ha.l2 hk) (same_len ha hb h) hu (by omega) ce
    have r0 := new_lc (sl0 := sl4 d b) (ce0 := ce) (by simp) (by simp)
    have r1 := ren_lc (sl0 := (sl4 d b).set 3 (some (.rf (ce.length + 1)))) (i := ce.length + 1)
      (ce0 := ce ++ [.ls true nwL, .dk nwD]) (by simp) (by simp) (by simp [List.getElem?_append]) a.2 (fun t ht => (ha.b t ht).1) (by omega)
    have r2 := ren_lc (sl0 := (((sl4 d b).set 3 (some (.rf (ce.length + 1)))).set 4 (some (.dat (.tuple ((a.2.map (mv 8)).map .int))))).set 5 (some (.rf (ce.length + 3)))) (i := ce.length + 1)
      (ce0 := ce ++ [.ls true nwL, .dk nwD, .ls true ((a.2.map (mv 8)).map .int), .ls true ((unmetT a.2 us b).map encL)]) (by simp) (by simp) (by simp [List.getElem?_append]) ts (fun t ht => (htb t ht).1) (by omega)
    have r3 := un_lc (sl0 := ((((sl4 d b).set 3 (some (.rf (ce.length + 1)))).set 4 (some (.dat (.tuple ((a.2.map (mv 8)).map .int))))).set 5 (some (.rf (ce.length + 3)))).set 8 (some (.rf (ce.length + 4)))) (i := ce.length + 1)
      (ce0 := ce ++ [.ls true nwL, .dk nwD, .ls true ((a.2.map (mv 8)).map .int), .ls true ((unmetT a.2 us b).map encL), .ls true ((ts.map (mv 8)).map .int)]) (by simp) (by simp) (by simp [List.getElem?_append]) us (fun u h => by obtain ⟨x, y, e, hx, hy, _⟩ := hu u h; exact ⟨x, y, e, hx.1, hy.1⟩) (by omega)
    have lz : (zipD ((ts.map (mv 8)).map PyData.int) (b.2.map .int)).length ≤ 100000 := by rw [zipD_len]; simp; omega
    have z : ∀ S : DS, S.sl[8]? = some (some (.rf (ce.length + 4))) → S.ce[ce.length + 4]? = some (.ls true (ts.map (PyData.int ∘ mv 8))) → S.sl[1]? = some (some (.dat (encA b))) → eZipV true (eVar 8) (eIdx (eVar 1) (eC (.int 1))) S = newL (prsD (ts.map (mv 8)) b.2) ⟨S.sl, S.ce.set (ce.length + 4) (.ls false (ts.map (PyData.int ∘ mv 8)))⟩ := fun S g0 gc g4 => by
      have e1 : eVar 8 S = .ok (.rf (ce.length + 4), S) := by simp [g0]
      have e2 : eIdx (eVar 1) (eC (.int 1)) S = .ok (.dat (kT b.2), S) := by simp [g4, ix1]
      rw [eZipV_rf (l := true) e1 e2 gc rfl (by simpa using lz)]
      simp [prsD]
    have ul2 := unmet_len a.2 us b
    have ul3 : (unmetT a.2 us b).length < 16777216 := by rw [unmet_T] at ul2; simp at ul2; omega
    simp [sl4] at r0 r1 r2 r3
    simp [i0, i1, i2, i3, ix0, ix1, h, ru, wipeD, r0, r1, r2, r3, pairsI, pairI, nw_merge, List.getElem?_append, List.set_append, z, ne_up, turnsT, itT, caseT, encL, ul3]
    rw [if_neg (by omega)]
    simp [encA]
  · simp [i0, i1, ix0, ix1, h, turnsT, itT, encL]
theorem of_apart {d : PyData} {b : Int × List Int} {L : List PyData} (h3 : ∀ ce, fcases_apart [.dat d, .dat (encA b), .dat (.int 8)] ⟨[], ce⟩ = .ok (.dat (.tuple L), ⟨[], ce⟩)) (ce : Ce) : fcases [.dat d, .dat (encA b)] ⟨[], ce⟩ = .ok (.dat (.tuple L), ⟨[], ce⟩) := by
  unfold fcases bcases
  rw [runFS]
  simp [h3]
theorem unmetT_len (ts : List Int) (us : List (List Int)) (b : Int × List Int) : (unmetT ts us b).length ≤ 2 + us.length := by
  have := pl_len ts b.2
  simp [unmetT]; omega
/-- the law's cases are the program's -/
theorem both_sp {kk : List Int} (hk : KOk kk) {d : PyData} {b : Int × List Int} (hd : DOk kk d) (hb : BOk kk b) : ∃ T : List Tr, T.length ≤ 5 ∧ (∀ ce, fcases [.dat d, .dat (encA b)] ⟨[], ce⟩ = .ok (.dat (.tuple (T.map encT)), ⟨[], ce⟩)) ∧
    ∀ ce, f_law_cases [.dat d, .dat (encA b), .dat (.int 8)] ⟨[], ce⟩ = .ok (.rf ce.length, ⟨[], ce ++ [.ls true (T.map encL)]⟩) := by
  cases hd with
  | @put a bs us ha hbs bl ul hu =>
    refine ⟨putsT a bs us b 8, by unfold putsT; split <;> simp, of_apart ?_, lc_put hk ha hbs bl ul (fun u h => by obtain ⟨x, y, e, h1, h2⟩ := hu u h; exact ⟨x, y, e, h1.1, h2.1⟩) hb⟩
    rw [← puts_T]
    exact ap_put hk ha hbs bl ul (fun u h => by obtain ⟨x, y, rfl, _⟩ := hu u h; simp) hb
  | @take a us ha ul hu =>
    refine ⟨takesT a us b, by unfold takesT; have := unmetT_len a.2 us b; split <;> simp <;> omega, of_apart ?_, lc_take hk ha ul hu hb⟩
    rw [← takes_T]
    exact ap_take hk ha ul hu hb
  | @turn a us ts ha ul hu ht htb =>
    refine ⟨turnsT a us ts b 8, by unfold turnsT; have := unmetT_len a.2 us b; split <;> simp <;> omega, of_apart ?_, lc_turn hk ha ul hu ht htb hb⟩
    rw [← turns_T]
    exact ap_turn hk ha ul hu ht hb
end K13
namespace K13
open PySem DL L2 MA MB
/-! what is shown is small; the law's look at the cases -/
structure Wd (n k : Nat) (d : PyData) : Prop where
  ok : okv d = true
  s : sz d ≤ n
  p : d.depth ≤ k
theorem Wd.mono {n k n' k' : Nat} {d : PyData} (h : Wd n k d) (a : n ≤ n') (b : k ≤ k') : Wd n' k' d := ⟨h.ok, Nat.le_trans h.s a, Nat.le_trans h.p b⟩
theorem Wd.alls {n k : Nat} : ∀ {xs : List PyData}, (∀ x ∈ xs, Wd n k x) → okvs xs = true ∧ szs xs ≤ n * xs.length ∧ PyData.depthAll xs ≤ k
  | [], _ => ⟨rfl, by simp [szs], by simp [PyData.depthAll]⟩
  | x :: xs, h => by
    obtain ⟨a, b, c⟩ := Wd.alls (fun y hy => h y (List.mem_cons_of_mem _ hy))
    have hx := h x List.mem_cons_self
    refine ⟨by simp [okvs, hx.ok, a], ?_, ?_⟩
    · simp only [szs, List.length_cons, Nat.mul_add, Nat.mul_one]
      have := hx.s; omega
    · simp only [PyData.depthAll]
      have := hx.p
      omega
theorem Wd.tup {n k m : Nat} {xs : List PyData} (h : ∀ x ∈ xs, Wd n k x) (l : xs.length ≤ m) : Wd (n * m + 1) (k + 1) (.tuple xs) := by
  obtain ⟨a, b, c⟩ := Wd.alls h
  have := Nat.mul_le_mul_left n l
  exact ⟨by simp only [okv]; exact a, by simp only [sz]; omega, by simp only [PyData.depth]; omega⟩
theorem Wd.int {i : Int} (h : -100 ≤ i ∧ i ≤ 100) : Wd 1 0 (.int i) := ⟨by
  have : i.natAbs < 10 ^ 50 := Nat.lt_of_lt_of_le (show i.natAbs < 101 by omega) (by decide)
  simp only [okv, decide_eq_true_eq]; exact this, by simp [sz], by simp [PyData.depth]⟩
theorem Wd.repr {n k : Nat} {d : PyData} (h : Wd n k d) (a : n ≤ 200000) (b : k ≤ 100) : ∃ y, reprA d = some y := repr_ok h.ok (Nat.le_trans h.p b) (Nat.le_trans h.s a)
theorem wd_kT {m : Nat} {ts : List Int} (h : ∀ t ∈ ts, -100 ≤ t ∧ t ≤ 100) (l : ts.length ≤ m) : Wd (1 * m + 1) 1 (kT ts) := Wd.tup (k := 0) (fun x hx => by
  obtain ⟨t, ht, rfl⟩ := List.mem_map.mp hx
  exact Wd.int (h t ht)) (by simpa using l)
theorem wd_A {a : Int × List Int} (h1 : -100 ≤ a.1 ∧ a.1 ≤ 100) (h2 : ∀ t ∈ a.2, -100 ≤ t ∧ t ≤ 100) (l : a.2.length ≤ 2) : Wd 7 2 (encA a) := Wd.tup (n := 3) (k := 1) (m := 2) (fun x hx => by
  simp only [encA, List.mem_cons, List.not_mem_nil, or_false] at hx
  rcases hx with rfl | rfl
  · exact (Wd.int h1).mono (by decide) (by decide)
  · exact wd_kT h2 l) (by simp)
structure TrOk (c : Tr) : Prop where
  l1 : c.1.length ≤ 2
  l2 : c.2.1.length ≤ 2
  l3 : c.2.2.length ≤ 2
  w1 : ∀ x ∈ c.1, Wd 7 2 x
  w2 : ∀ x ∈ c.2.1, Wd 7 2 x
  w3 : ∀ x ∈ c.2.2, Wd 7 2 x
theorem TrOk.wd {c : Tr} (h : TrOk c) : Wd 46 4 (encT c) := Wd.tup (n := 15) (k := 3) (m := 3) (fun x hx => by
  simp only [List.mem_cons, List.not_mem_nil, or_false] at hx; rcases hx with rfl | rfl | rfl
  · exact Wd.tup h.w1 h.l1
  · exact Wd.tup h.w2 h.l2
  · exact Wd.tup h.w3 h.l3) (by simp)
def Bd (t : Int) : Prop := -100 ≤ t ∧ t ≤ 100
theorem mv_b {t : Int} (h : -4 ≤ t ∧ t ≤ 9) : Bd (mv 8 t) := by unfold mv Bd; split <;> omega
theorem bok_wd {kk : List Int} (hk : KOk kk) {b : Int × List Int} (hb : BOk kk b) : Wd 7 2 (encA b) := by
  have := hk.l4
  have := hb.k
  exact wd_A (by omega) (fun t ht => by have := hb.b t ht; omega) (hb.l2 hk)
theorem aok_wd {kk : List Int} (hk : KOk kk) {b : Int × List Int} (hb : AtOk kk b) : Wd 7 2 (encA b) := by
  have := hk.l4
  have := hb.k
  exact wd_A (by omega) (fun t ht => by have := hb.b t ht; omega) (hb.l2 hk)
theorem aok_mv {kk : List Int} (hk : KOk kk) {b : Int × List Int} (hb : AtOk kk b) : Wd 7 2 (encA (b.1, b.2.map (mv 8))) := by
  have := hk.l4
  have := hb.k
  exact wd_A (by show -100 ≤ b.1 ∧ b.1 ≤ 100; omega) (fun t ht => by
    obtain ⟨u, hu, rfl⟩ := List.mem_map.mp ht
    exact mv_b (hb.b u hu)) (by simpa using hb.l2 hk)
theorem it_ok {kk : List Int} (hk : KOk kk) {b : Int × List Int} (hb : BOk kk b) : TrOk (itT b) := ⟨by simp [itT], by simp [itT], by simp [itT], by simp [itT], by simpa [itT] using bok_wd hk hb, by simp [itT]⟩
theorem zip_wd : ∀ {xs ys : List Int}, (∀ t ∈ xs, Bd t) → (∀ t ∈ ys, Bd t) → ∀ x ∈ prsD xs ys, Wd 7 2 x
  | [], ys, _, _, x, h => by cases ys <;> simp [prsD, zipD] at h
  | _ :: _, [], _, _, x, h => by simp [prsD, zipD] at h
  | a :: xs, b :: ys, h1, h2, x, h => by
    simp only [prsD, List.map_cons, zipD, List.mem_cons] at h
    rcases h with rfl | h
    · have := wd_kT (ts := [a, b]) (m := 2) (by simpa using ⟨h1 a List.mem_cons_self, h2 b List.mem_cons_self⟩) (by simp)
      exact this.mono (by decide) (by decide)
    · exact zip_wd (fun t ht => h1 t (List.mem_cons_of_mem _ ht)) (fun t ht => h2 t (List.mem_cons_of_mem _ ht)) x h
theorem case_ok {kk : List Int} (hk : KOk kk) {told asked : List Int} {bs : List (Int × List Int)} {us : List (List Int)} (h1 : told.length ≤ 2) (h2 : ∀ t ∈ told, -4 ≤ t ∧ t ≤ 9) (h3 : ∀ t ∈ asked, Bd t) (h4 : bs.length ≤ 2) (h5 : ∀ c ∈ bs, AtOk kk c) (h6 : us.length ≤ 2) (h7 : ∀ u ∈ us, ∃ x y : Int, u = [x, y] ∧ (-4 ≤ x ∧ x ≤ 9) ∧ (-4 ≤ y ∧ y ≤ 9)) : TrOk (caseT told bs us asked 8) where
  l1 := by show (zipD ((told.map (mv 8)).map PyData.int) (asked.map .int)).length ≤ 2; rw [zipD_len]; simp; omega
  l2 := by simpa [caseT] using h4
  l3 := by simpa [caseT] using h6
  w1 := zip_wd (fun t ht => by
    obtain ⟨u, hu, rfl⟩ := List.mem_map.mp ht
    exact mv_b (h2 u hu)) h3
  w2 := fun x hx => by
    obtain ⟨c, hc, rfl⟩ := List.mem_map.mp hx
    exact aok_mv hk (h5 c hc)
  w3 := fun x hx => by
    obtain ⟨u, hu, rfl⟩ := List.mem_map.mp hx
    obtain ⟨p, q, rfl, hp, hq⟩ := h7 u hu
    exact (wd_kT (m := 2) (by simpa [Bd] using ⟨mv_b hp, mv_b hq⟩) (by simp)).mono (by decide) (by decide)
theorem fv_b {ts asked : List Int} {t : Int} (h : ∀ t ∈ asked, Bd t) (ht : -4 ≤ t ∧ t ≤ 9) : Bd (fv ts asked t) := by
  unfold fv
  split
  · unfold Bd; omega
  · rw [List.getD_eq_getElem?_getD]
    cases e : asked[List.idxOf t ts]? with
    | none => simp [Bd]
    | some v => exact h v (List.mem_of_getElem? e)
theorem pl_b {ts asked : List Int} (h : ∀ t ∈ asked, Bd t) (h2 : ∀ t ∈ ts, -4 ≤ t ∧ t ≤ 9) : ∀ p ∈ plD ts asked, ∃ x y : Int, p = [x, y] ∧ Bd x ∧ Bd y := by
  intro p hp
  have ht : ∀ t ∈ ts, Bd t := fun t ht => by have := h2 t ht; unfold Bd; omega
  unfold plD at hp
  split at hp
  · split at hp
    · simp at hp; subst hp; exact ⟨_, _, rfl, h _ (by simp), ht _ (by simp)⟩
    · simp at hp
  · rename_i t u x y
    have hx := h x (by simp)
    have hy := h y (by simp)
    have h3 := ht t (by simp)
    have h4 := ht u (by simp); rcases List.mem_append.mp hp with hp | hp
    · split at hp
      · simp at hp; subst hp; exact ⟨_, _, rfl, hx, h3⟩
      · simp at hp
    · split at hp
      · simp at hp; subst hp; exact ⟨_, _, rfl, hy, h4⟩
      · split at hp
        · simp at hp; subst hp; exact ⟨_, _, rfl, hy, hx⟩
        · simp at hp
  · simp at hp
theorem unmet_ok {kk : List Int} (hk : KOk kk) {ts : List Int} {us : List (List Int)} {b : Int × List Int} (hb : BOk kk b) (h2 : ∀ t ∈ ts, -4 ≤ t ∧ t ≤ 9) (h7 : ∀ u ∈ us, ∃ x y : Int, u = [x, y] ∧ (-4 ≤ x ∧ x ≤ 9) ∧ (-4 ≤ y ∧ y ≤ 9)) : ∀ c ∈ unmetT ts us b, TrOk c := by
  have hB : ∀ t ∈ b.2, Bd t := fun t ht => by have := hb.b t ht; unfold Bd; omega
  intro c hc; rcases List.mem_append.mp hc with hc | hc
  · obtain ⟨p, hp, rfl⟩ := List.mem_map.mp hc
    obtain ⟨x, y, rfl, hx, hy⟩ := pl_b hB h2 p hp
    exact ⟨by simp [placeT], by simp [placeT], by simp [placeT], by simp [placeT], by simpa [placeT] using bok_wd hk hb, by
      have := (wd_kT (ts := [x, y]) (m := 2) (by simpa [Bd] using ⟨hx, hy⟩) (by simp)).mono (n' := 7) (k' := 2) (by decide) (by decide)
      simpa [placeT] using this⟩
  · obtain ⟨u, hu, rfl⟩ := List.mem_map.mp hc
    obtain ⟨x, y, rfl, hx, hy⟩ := h7 u hu
    exact ⟨by simp [pairT], by simp [pairT], by simp [pairT], by
      have := (wd_kT (ts := [fv ts b.2 x, fv ts b.2 y]) (m := 2) (by simpa [Bd] using ⟨fv_b hB hx, fv_b hB hy⟩) (by simp)).mono (n' := 7) (k' := 2) (by decide) (by decide)
      simpa [pairT] using this, by simpa [pairT] using bok_wd hk hb, by simp [pairT]⟩
end K13
namespace K13
open PySem DL L2 MA MB
/-! the law's look at the cases -/
theorem prb_bd {ts u : List Int} (h : PrB ts u) : ∃ x y : Int, u = [x, y] ∧ (-4 ≤ x ∧ x ≤ 9) ∧ (-4 ≤ y ∧ y ≤ 9) := by
  obtain ⟨x, y, e, hx, hy, _⟩ := h
  exact ⟨x, y, e, hx, hy⟩
theorem both_ok {kk : List Int} (hk : KOk kk) {d : PyData} {b : Int × List Int} (hd : DOk kk d) (hb : BOk kk b) : ∃ T : List Tr, T.length ≤ 5 ∧ (∀ c ∈ T, TrOk c) ∧ (∀ ce, fcases [.dat d, .dat (encA b)] ⟨[], ce⟩ = .ok (.dat (.tuple (T.map encT)), ⟨[], ce⟩)) ∧
    ∀ ce, f_law_cases [.dat d, .dat (encA b), .dat (.int 8)] ⟨[], ce⟩ = .ok (.rf ce.length, ⟨[], ce ++ [.ls true (T.map encL)]⟩) := by
  have hB : ∀ t ∈ b.2, Bd t := fun t ht => by have := hb.b t ht; unfold Bd; omega
  have i := it_ok hk hb
  cases hd with
  | @put a bs us ha hbs bl ul hu =>
    refine ⟨putsT a bs us b 8, by unfold putsT; split <;> simp, ?_, of_apart ?_, lc_put hk ha hbs bl ul (fun u h => by obtain ⟨x, y, e, h1, h2⟩ := hu u h; exact ⟨x, y, e, h1.1, h2.1⟩) hb⟩
    · have c := case_ok hk (ha.l2 hk) ha.b hB bl hbs ul hu
      unfold putsT; split
      · simpa using ⟨i, c⟩
      · simpa using i
    · rw [← puts_T]
      exact ap_put hk ha hbs bl ul (fun u h => by obtain ⟨x, y, rfl, _⟩ := hu u h; simp) hb
  | @take a us ha ul hu =>
    refine ⟨takesT a us b, by unfold takesT; have := unmetT_len a.2 us b; split <;> simp <;> omega, ?_, of_apart ?_, lc_take hk ha ul hu hb⟩
    · have c := unmet_ok hk hb ha.b (us := us) (fun u h => prb_bd (hu u h))
      unfold takesT; split
      · exact c
      · simpa using i
    · rw [← takes_T]
      exact ap_take hk ha ul hu hb
  | @turn a us ts ha ul hu ht htb =>
    refine ⟨turnsT a us ts b 8, by unfold turnsT; have := unmetT_len a.2 us b; split <;> simp <;> omega, ?_, of_apart ?_, lc_turn hk ha ul hu ht htb hb⟩
    · have c := unmet_ok hk hb ha.b (us := us) (fun u h => prb_bd (hu u h))
      have c2 := case_ok (told := ts) (bs := [a]) (us := us) (asked := b.2) hk (by rw [ht]; exact ha.l2 hk) htb hB (by simp) (by simpa using ha) ul (fun u h => prb_bd (hu u h))
      unfold turnsT; split
      · intro x hx
        rcases (List.mem_append.mp hx) with hx | hx
        · exact c x hx
        · simp at hx; subst hx; exact c2
      · simpa using i
    · rw [← turns_T]
      exact ap_turn hk ha ul hu ht hb
theorem wd_str {x : Str} (h : okStrs.contains x = true) : Wd 1 0 (.str x) := ⟨by simpa only [okv] using h, by simp [sz], by simp [PyData.depth]⟩
theorem wd_us {us : List (List Int)} (ul : us.length ≤ 2) (hu : ∀ u ∈ us, ∃ x y : Int, u = [x, y] ∧ (-4 ≤ x ∧ x ≤ 9) ∧ (-4 ≤ y ∧ y ≤ 9)) : Wd 15 3 (.tuple (us.map kT)) := Wd.tup (n := 7) (k := 2) (m := 2) (fun x hx => by
  obtain ⟨u, h, rfl⟩ := List.mem_map.mp hx
  obtain ⟨x, y, rfl, h1, h2⟩ := hu u h
  exact (wd_kT (m := 2) (by simp; omega) (by simp)).mono (by decide) (by decide)) (by simpa using ul)
theorem dok_wd {kk : List Int} (hk : KOk kk) {d : PyData} (hd : DOk kk d) : Wd 61 4 d := by
  cases hd with
  | @put a bs us ha hbs bl ul hu =>
    refine Wd.tup (n := 15) (k := 3) (m := 4) (fun x hx => ?_) (by simp); simp only [List.mem_cons, List.not_mem_nil, or_false] at hx
    rcases hx with rfl | rfl | rfl | rfl
    · exact (wd_str (by decide)).mono (by decide) (by decide)
    · exact (aok_wd hk ha).mono (by decide) (by decide)
    · exact Wd.tup (n := 7) (k := 2) (m := 2) (fun x hx => by
        obtain ⟨c, hc, rfl⟩ := List.mem_map.mp hx
        exact aok_wd hk (hbs c hc)) (by simpa using bl)
    · exact wd_us ul hu
  | @take a us ha ul hu =>
    refine Wd.tup (n := 15) (k := 3) (m := 4) (fun x hx => ?_) (by simp); simp only [List.mem_cons, List.not_mem_nil, or_false] at hx
    rcases hx with rfl | rfl | rfl
    · exact (wd_str (by decide)).mono (by decide) (by decide)
    · exact (aok_wd hk ha).mono (by decide) (by decide)
    · exact wd_us ul (fun u h => prb_bd (hu u h))
  | @turn a us ts ha ul hu ht htb =>
    refine Wd.tup (n := 15) (k := 3) (m := 4) (fun x hx => ?_) (by simp); simp only [List.mem_cons, List.not_mem_nil, or_false] at hx
    rcases hx with rfl | rfl | rfl | rfl
    · exact (wd_str (by decide)).mono (by decide) (by decide)
    · exact (aok_wd hk ha).mono (by decide) (by decide)
    · exact wd_us ul (fun u h => prb_bd (hu u h))
    · exact (wd_kT (m := 2) (fun t h => by have := htb t h; omega) (by rw [ht]; exact ha.l2 hk)).mono (by decide) (by decide)
theorem r_right {kk : List Int} (hk : KOk kk) {d : PyData} {b : Int × List Int} (hd : DOk kk d) (hb : BOk kk b) (ce : Ce) :
    f_law_right [.dat d, .dat (encA b)] ⟨[], ce⟩ = .ok (.dat (.bool true), ⟨[], ce⟩) := by
  obtain ⟨T, l5, tok, e1, e2⟩ := both_ok hk hd hb
  unfold f_law_right b_law_right
  rw [runFS]
  obtain ⟨y0, r0⟩ := (Wd.tup (xs := [d, encA b]) (n := 61) (k := 4) (m := 2) (fun x hx => by
    simp only [List.mem_cons, List.not_mem_nil, or_false] at hx; rcases hx with rfl | rfl
    · exact dok_wd hk hd
    · exact (bok_wd hk hb).mono (by decide) (by decide)) (by simp)).repr (by decide) (by decide)
  obtain ⟨y1, r1⟩ := (Wd.tup (xs := T.map encT) (n := 46) (k := 4) (m := 5) (fun x hx => by
    obtain ⟨c, hc, rfl⟩ := List.mem_map.mp hx
    exact (tok c hc).wd) (by simpa using l5)).repr (by decide) (by decide)
  have lc := lc_enc2 (enc := encL) (out := encT) (step := stepC (gTupD 3 (gConsD (setSl 4) (gConsD (setSl 5) (gConsD (setSl 6) gNilD)))) tYesD (eTup (aCons (eTupOf (eVar 4)) (aCons (eTupOf (eVar 5)) (aCons (eTupOf (eVar 6)) (pure []))))))
    (sl0 := [some (.dat d), some (.dat (encA b)), some (.dat (.str y0)), none, none, none, none]) (ce := ce ++ [.ls false (T.map encL)]) T [] (fun c hm acc => by
      refine ⟨[some (.dat d), some (.dat (encA b)), some (.dat (.str y0)), none, some (.dat (.list c.1)), some (.dat (.list c.2.1)), some (.dat (.list c.2.2))], [], ?_⟩
      simp [encL, encT]) (by simp; omega)
  simp at lc
  simp [r0, e1, e2, wipeD, lc, r1]
end K13
namespace K13
open PySem DL L2 MA MB
/-! atoms with all terms there are; choices -/
abbrev wideT : List Int := [-1, -2, -3, -8, 0, 1, 3, 5, 9]
abbrev wideL : List PyData := [(.int (-1)), (.int (-2)), (.int (-3)), (.int (-8)), (.int 0), (.int 1), (.int 3), (.int 5), (.int 9)]
theorem wide_sp {j : Nat} {ks kk : List Int} {ce : Ce} {k : Int} (h : Pn j ks ce) (hk : KOk kk) (h0 : 0 ≤ k ∧ k < kk.length) :
    ∃ (b : Int × List Int) (ce' : Ce), f_law_wide_atom [.rf j, .dat (kT kk), .dat (.int k)] ⟨[], ce⟩ = .ok (.dat (encA b), ⟨[], ce'⟩) ∧ BOk kk b ∧ Kp j ks ce ce' := by
  have hj := h.lt
  have hix := idx_nat (ks := kk) h0
  have hq2 := kind_le hk.le h0
  generalize hQ : kk.getD k.toNat 0 = q at hix hq2
  obtain ⟨es, ce2, lc, kp2, hT, hl2⟩ := lc_draw2 (j := j) (ks := ks) (ce0 := ce) (T := fun e => ∃ t : Int, e = .int t ∧ t ∈ wideT) (sl0 := [some (.rf j), some (.dat (kT kk)), some (.dat (.int k)), none])
    (step := stepC (setSl 3) tYesD (eCall 2 f_law_one_of (aCons (eVar 0) (aCons (newL wideL) (pure []))))) (by omega)
    (fun d ce hp hlen ho => by
      obtain ⟨d1, c3', e3, hd1, hk3'⟩ := one_sp (i := ce.length) (fl := true) (ds := wideT.map .int) (hp.app [.ls true (wideT.map .int)]) (by simp) (by have := hp.lt; omega) (by simp) (by simp)
      obtain ⟨c3, rfl, hk3⟩ := hk3'.split hp.lt
      obtain ⟨t, ht, rfl⟩ := List.mem_map.mp hd1
      refine ⟨.int t, [some (.rf j), some (.dat (kT kk)), some (.dat (.int k)), some (.dat d)], c3, [.ls true (wideT.map .int)], ?_, hk3, t, rfl, ht⟩
      simp at e3
      simp [same_one, e3]) (rngD 0 q.toNat) [] ce rfl h OffJ.refl (by simp [rng_len]; omega)
  obtain ⟨ts, rfl, hts⟩ := ints_of hT
  have l2 := kp2.1
  refine ⟨(k, ts), ce2, ?_, ⟨h0, by simp [rng_len] at hl2; show (ts.length : Int) = kk.getD k.toNat 0; rw [hQ]; omega, fun t ht => ?_⟩, kp2⟩
  · unfold f_law_wide_atom b_law_wide_atom
    rw [runFS]
    have hb : -4611686018427387904 ≤ q ∧ q < 4611686018427387904 := by omega
    have tk : (ce2 ++ [(Cl.ls true (ts.map PyData.int))]).take ce.length = ce2 := List.take_left' l2
    have g : (ce2 ++ [(.ls true (ts.map PyData.int))])[ce.length]? = some (.ls true (ts.map PyData.int)) := by rw [← l2]; simp
    simp at lc
    simp [hix, hb, wipeD, lc, g, tk, encA, -List.take_append]
  · have := hts t ht
    simp only [wideT, List.mem_cons, List.not_mem_nil, or_false] at this
    omega
theorem mulDN (i : Int) {n : Nat} (h : n ≤ 5) (S : DS) : mulD (.int i) (.int (n : Int)) S = .ok (.dat (.int (i * n)), S) := by
  have e : fMul (.int i) (.int (n : Int)) = some (.int (i * n)) := by
    show (if _ then _ else _) = _
    exact if_pos (Or.inr ⟨by omega, by omega⟩)
  show R.bind (ofO (fMul (.int i) (.int (n : Int))) S) _ = _
  rw [e]; rfl
/-- how many cases an atom has -/
def nC (d : PyData) (b : Int × List Int) : Nat := match fcases [.dat d, .dat (encA b)] ⟨[], []⟩ with
  | .ok (.dat (.tuple L), _) => L.length
  | _ => 0
theorem nC_sp {kk : List Int} (hk : KOk kk) {d : PyData} {b : Int × List Int} (hd : DOk kk d) (hb : BOk kk b) : nC d b ≤ 5 ∧ ∀ ce, ∃ L, fcases [.dat d, .dat (encA b)] ⟨[], ce⟩ = .ok (.dat (.tuple L), ⟨[], ce⟩) ∧ L.length = nC d b := by
  obtain ⟨T, l5, _, e1, _⟩ := both_ok hk hd hb
  have e : nC d b = T.length := by unfold nC; rw [e1]; simp
  exact ⟨by omega, fun ce => ⟨_, e1 ce, by rw [e]; simp⟩⟩
def nP (d : PyData) (bs : List (Int × List Int)) : Nat := bs.foldl (fun m b => m * nC d b) 1
def encB (bs : List (Int × List Int)) : PyData := .tuple [.tuple [], .tuple (bs.map encA), .tuple []]
abbrev chB : MS := (sSet 4 (eMul (eVar 4) (eFn lenD (eCall 2 fcases (aCons (eVar 0) (aCons (eVar 5) (pure [])))))))
theorem ch_step {d : PyData} {x1 x2 x3 x5 : Option VD} {ce : Ce} {c : PyData} {L : List PyData} {m : Int} {ds : List PyData} (h : L.length ≤ 5) (e1 : fcases [.dat d, .dat c] ⟨[], ce⟩ = .ok (.dat (.tuple L), ⟨[], ce⟩)) :
    forD (setSl 5) chB (c :: ds) ⟨[some (.dat d), x1, x2, x3, some (.dat (.int m)), x5], ce⟩ = forD (setSl 5) chB ds ⟨[some (.dat d), x1, x2, x3, some (.dat (.int (m * (L.length : Nat)))), some (.dat c)], ce⟩ := by
  have mm := mulDN m h
  have ln : lenD (.tuple L) = some (.int L.length) := rfl
  rw [forD_cons]
  simp [e1, ln, mm]
theorem ch_go {kk : List Int} (hk : KOk kk) {d : PyData} {x1 x2 x3 : Option VD} {ce : Ce} (hd : DOk kk d) : ∀ (bs : List (Int × List Int)) (m : Nat) (x5 : Option VD), (∀ b ∈ bs, BOk kk b) → ∃ y5,
    forD (setSl 5) chB (bs.map encA) ⟨[some (.dat d), x1, x2, x3, some (.dat (.int m)), x5], ce⟩ = .ok (.nx, ⟨[some (.dat d), x1, x2, x3, some (.dat (.int ((bs.foldl (fun m b => m * nC d b) m : Nat) : Int))), y5], ce⟩) := by
  intro bs
  induction bs with
  | nil => intro m x5 _; exact ⟨x5, by simp⟩
  | cons b bs ih =>
    intro m x5 h
    obtain ⟨n5, e⟩ := nC_sp hk hd (h b List.mem_cons_self)
    obtain ⟨L, e1, eL⟩ := e ce
    obtain ⟨y5, e2⟩ := ih (m * nC d b) (some (.dat (encA b))) (fun c hc => h c (List.mem_cons_of_mem _ hc))
    refine ⟨y5, ?_⟩
    rw [List.map_cons, ch_step (by rw [eL]; exact n5) e1, eL, ← Int.natCast_mul, e2]
    rfl
theorem nP_nil (d : PyData) : nP d [] = 1 := rfl
abbrev chO : MS := (sSeq (sSet 4 (eC (.int 1)))
    (sSeq (sFor (srcSeq (eIdx (eVar 3) (eC (.int 1)))) (setSl 5) chB)
    (sSet 2 (eAdd (eVar 2) (eVar 4)))))
theorem ch_out {kk : List Int} (hk : KOk kk) {d : PyData} {x1 : Option VD} {ce : Ce} (hd : DOk kk d) : ∀ (ps : List (List (Int × List Int))) (m : Nat) (x3 x4 x5 : Option VD), (∀ bs ∈ ps, ∀ b ∈ bs, BOk kk b) → ∃ y3 y4 y5,
    forD (setSl 3) chO (ps.map encB) ⟨[some (.dat d), x1, some (.dat (.int m)), x3, x4, x5], ce⟩ = .ok (.nx, ⟨[some (.dat d), x1, some (.dat (.int ((ps.foldl (fun m bs => m + nP d bs) m : Nat) : Int))), y3, y4, y5], ce⟩)
  | [], m, x3, x4, x5, _ => ⟨x3, x4, x5, by simp⟩
  | bs :: ps, m, x3, x4, x5, h => by
    obtain ⟨z5, e1⟩ := ch_go hk (x1 := x1) (x2 := some (.dat (.int m))) (x3 := some (.dat (encB bs))) (ce := ce) hd bs 1 x5 (h bs List.mem_cons_self)
    obtain ⟨y3, y4, y5, e2⟩ := ch_out hk (x1 := x1) (ce := ce) hd ps (m + nP d bs) (some (.dat (encB bs))) (some (.dat (.int (nP d bs : Nat)))) z5 (fun c hc => h c (List.mem_cons_of_mem _ hc))
    refine ⟨y3, y4, y5, ?_⟩
    rw [List.map_cons, forD_cons]
    have i1 : idxD (encB bs) (.int 1) = some (.tuple (bs.map encA)) := rfl
    simp at e1 e2
    simp [i1, e1]
    simp only [nP] at e2 ⊢
    exact e2
theorem ch_sp {kk : List Int} (hk : KOk kk) {d : PyData} (hd : DOk kk d) (ps : List (List (Int × List Int))) (h : ∀ bs ∈ ps, ∀ b ∈ bs, BOk kk b) (ce : Ce) :
    fchoices_at [.dat d, .dat (.tuple [.int 0, .tuple (ps.map encB)])] ⟨[], ce⟩ = .ok (.dat (.int ((ps.foldl (fun m bs => m + nP d bs) 0 : Nat) : Int)), ⟨[], ce⟩) := by
  unfold fchoices_at bchoices_at
  rw [runFS]
  obtain ⟨y3, y4, y5, e⟩ := ch_out hk (x1 := some (.dat (.tuple [.int 0, .tuple (ps.map encB)]))) (ce := ce) hd ps 0 none none none h
  simp at e
  simp [dz1, e]
end K13
namespace K13
open PySem DL L2 MA MB
/-! the law's laps -/
theorem seq_nx {t u : MS} {S S' : DS} (h : t S = .ok (.nx, S')) : sSeq t u S = u S' := by simp [h]
@[simp] theorem slVB (ds : List PyData) (lo hi : Option Int) (S : DS) : slV (.bag ds) lo hi S = newL (cutD ds lo hi) S := rfl
theorem pen_raw (ds : List PyData) : f_law_pen [.bag ds] ⟨[], []⟩ = .ok (.rf 0, ⟨[], [(.ls true ([.list (cutD ds none (some 63)), .int 0, .int 0, .list [.int 1, .int 5]]))]⟩) := by
  unfold f_law_pen b_law_pen
  rw [runFS]
  simp
theorem cut_ints (ns : List Int) : ∃ ms : List Int, cutD (ns.map .int) none (some 63) = ms.map .int := by
  unfold cutD
  exact ⟨(ns.drop _).take _, by rw [List.map_take, List.map_drop, List.length_map]⟩
theorem pen_start (ns : List Int) : ∃ ce, f_law_pen [.bag (ns.map .int)] ⟨[], []⟩ = .ok (.rf 0, ⟨[], ce⟩) ∧ Pn 0 [1, 5] ce := by
  obtain ⟨ms, e⟩ := cut_ints ns
  exact ⟨_, pen_raw _, ms, 0, 0, by rw [e]; rfl⟩
theorem for_all {g : VD → M Unit} {body : MS} {I : Nat → DS → Prop} : ∀ (ds : List PyData) (i : Nat) (S : DS), I i S → (∀ d ∈ ds, ∀ k, k < i + ds.length → ∀ S, I k S → ∃ S1 S', noX (g (.dat d)) S = .ok (.nx, S1) ∧ body S1 = .ok (.nx, S') ∧ I (k + 1) S') → ∃ S', forD g body ds S = .ok (.nx, S') ∧ I (i + ds.length) S'
  | [], i, S, h, _ => ⟨S, rfl, h⟩
  | d :: ds, i, S, h, k => by
    obtain ⟨S1, S', e1, e2, h'⟩ := k d List.mem_cons_self i (by simp) S h
    obtain ⟨S2, e3, h3⟩ := for_all ds (i + 1) S' h' fun d hd j hj => k d (List.mem_cons_of_mem _ hd) j (by simp only [List.length_cons]; omega)
    refine ⟨S2, ?_, by simpa [Nat.add_assoc, Nat.add_comm 1] using h3⟩
    rw [forD_cons, e1, bOk, e2, bOk]
    exact e3
theorem ne_strs (y : Str) : fNe (.str y) (.str y) = some (.bool false) := by
  simp [fNe, eqD, PyData.plain, PyData.depth, PyData.eqv]
theorem dok_kind {kk : List Int} {d : PyData} (h : DOk kk d) : ∃ a : Int × List Int, idxD d (.int 1) = some (encA a) ∧ 0 ≤ a.1 ∧ a.1 < kk.length := by
  cases h with
  | @put a bs us ha => exact ⟨a, dz1 _ _ _, ha.k⟩
  | @take a us ha => exact ⟨a, dz1 _ _ _, ha.k⟩
  | @turn a us ts ha => exact ⟨a, dz1 _ _ _, ha.k⟩
theorem nP_app (d : PyData) (bs : List (Int × List Int)) (b : Int × List Int) : nP d (bs ++ [b]) = nP d bs * nC d b := by simp [nP, List.foldl_append]
theorem nP_le {kk : List Int} (hk : KOk kk) {d : PyData} (hd : DOk kk d) : ∀ (bs : List (Int × List Int)) (m : Nat), (∀ b ∈ bs, BOk kk b) → bs.foldl (fun m b => m * nC d b) m ≤ m * 5 ^ bs.length
  | [], m, _ => by simp
  | b :: bs, m, h => by
    have h1 := (nC_sp hk hd (h b List.mem_cons_self)).1
    have h2 := nP_le hk hd bs (m * nC d b) fun c hc => h c (List.mem_cons_of_mem _ hc); simp only [List.foldl_cons, List.length_cons]
    refine Nat.le_trans h2 ?_
    rw [Nat.pow_succ, Nat.mul_assoc, Nat.mul_comm (5 ^ bs.length) 5, ← Nat.mul_assoc, ← Nat.mul_assoc]
    exact Nat.mul_le_mul_right _ (Nat.mul_le_mul_left _ h1)
abbrev kiB : MS := (sSeq (sSet 8 (eCall 3 f_law_wide_atom (aCons (eVar 1) (aCons (eVar 3) (aCons (eVar 4) (pure []))))))
    (sSeq (sIf (tNotD (tOf (eCall 2 f_law_right (aCons (eVar 5) (aCons (eVar 8) (pure [])))))) (sRet (eC (.bool false))) sNil)
    (sPar 6 7 (aCons (eMul (eVar 6) (eFn lenD (eCall 2 fcases (aCons (eVar 5) (aCons (eVar 8) (pure [])))))) (aCons (eAdd (eVar 7) (eLst (aCons (eVar 8) (pure [])))) (pure []))))))
theorem ki_step {kk : List Int} {d : PyData} {b : Int × List Int} {x0 x2 x8 x9 x10 x11 x12 : Option VD} {k m : Int} {i : Nat} {fl : Bool} {ds L : List PyData} {ce c1 : Ce} (e1 : f_law_wide_atom [.rf 0, .dat (kT kk), .dat (.int k)] ⟨[], ce⟩ = .ok (.dat (encA b), ⟨[], c1⟩)) (hc : c1[i]? = some (.ls fl ds))
    (r : f_law_right [.dat d, .dat (encA b)] ⟨[], c1⟩ = .ok (.dat (.bool true), ⟨[], c1⟩)) (e2 : fcases [.dat d, .dat (encA b)] ⟨[], c1⟩ = .ok (.dat (.tuple L), ⟨[], c1⟩)) (l5 : L.length ≤ 5) (hl : ds.length + 1 ≤ 16777216) :
    kiB ⟨[x0, some (.rf 0), x2, some (.dat (kT kk)), some (.dat (.int k)), some (.dat d), some (.dat (.int m)), some (.rf i), x8, x9, x10, x11, x12], ce⟩ =
      .ok (.nx, ⟨[x0, some (.rf 0), x2, some (.dat (kT kk)), some (.dat (.int k)), some (.dat d), some (.dat (.int (m * (L.length : Nat)))), some (.rf (c1.length + 1)), some (.dat (encA b)), x9, x10, x11, x12], c1 ++ [.ls true [encA b], .ls true (ds ++ [encA b])]⟩) := by
  have ln : lenD (.tuple L) = some (.int L.length) := rfl
  have mm := mulDN m l5
  obtain ⟨ii, hg⟩ := List.getElem?_eq_some_iff.mp hc
  simp [e1, r, e2, ln, mm, hg, List.getElem?_append, ii, hl]
/-- what holds before each kind -/
def KI (kk ks : List Int) (d : PyData) (x0 x2 : Option VD) (n : Nat) (S : DS) : Prop := ∃ (x4 x8 x9 x10 x11 x12 : Option VD) (i : Nat) (fl : Bool) (bs : List (Int × List Int)) (ce : Ce),
  S = ⟨[x0, some (.rf 0), x2, some (.dat (kT kk)), x4, some (.dat d), some (.dat (.int (nP d bs : Nat))), some (.rf i), x8, x9, x10, x11, x12], ce⟩ ∧ bs.length = n ∧ (∀ b ∈ bs, BOk kk b) ∧ ce[i]? = some (.ls fl (bs.map encA)) ∧ i ≠ 0 ∧ Pn 0 ks ce
theorem ki_ok {kk ks : List Int} (hk : KOk kk) {d : PyData} (hd : DOk kk d) {x0 x2 : Option VD} {k : Int} (h0 : 0 ≤ k ∧ k < kk.length) {n : Nat} (hn : n < 1000) {S : DS} (h : KI kk ks d x0 x2 n S) :
    ∃ S', kiB ⟨S.sl.set 4 (some (.dat (.int k))), S.ce⟩ = .ok (.nx, S') ∧ KI kk ks d x0 x2 (n + 1) S' := by
  obtain ⟨x4, x8, x9, x10, x11, x12, i, fl, bs, ce, rfl, hl, hb, hc, hi, hp⟩ := h
  obtain ⟨b, c1, e1, hB, kp⟩ := wide_sp hp hk h0
  have hc1 : c1[i]? = some (.ls fl (bs.map encA)) := by rw [kp.2.1 i hi]; exact hc
  have r := r_right hk hd hB c1
  obtain ⟨n5, e⟩ := nC_sp hk hd hB
  obtain ⟨L, e2, eL⟩ := e c1
  have w := ki_step (x0 := x0) (x2 := x2) (x8 := x8) (x9 := x9) (x10 := x10) (x11 := x11) (x12 := x12) (m := (nP d bs : Nat)) e1 hc1 r e2 (by rw [eL]; exact n5) (by simp; omega)
  rw [eL] at w
  refine ⟨_, w, some (.dat (.int k)), some (.dat (encA b)), x9, x10, x11, x12, c1.length + 1, true, bs ++ [b], c1 ++ [.ls true [encA b], .ls true (bs.map encA ++ [encA b])], ?_, by simp [hl], ?_, ?_, by omega, kp.pn.app _⟩
  · rw [nP_app, Int.natCast_mul]
  · intro c hc
    rcases (List.mem_append.mp hc) with hc | hc
    · exact hb c hc
    · simp at hc; subst hc; exact hB
  · simp [List.getElem?_append]
end K13
namespace K13
open PySem DL L2 MA MB
/-! the law, whole -/
theorem repr_nat {n : Nat} (h : n ≤ 1000) : ∃ y, reprA (.int (n : Int)) = some y := by
  have : n < 10 ^ 50 := Nat.lt_of_le_of_lt h (by decide)
  exact repr_ok (by simp only [okv, Int.natAbs_natCast, decide_eq_true_eq]; exact this) (by simp [PyData.depth]) (by simp [sz])
abbrev duT : VD → M Unit := (gTupD 2 (gConsD (setSl 11) (gConsD (setSl 12) gNilD)))
abbrev duB : MS := (sIf (tOf (eOp fNe (eReprA (eCall 2 fchoices_at (aCons (eVar 5) (aCons (eTup (aCons (eC (.int 0)) (aCons (eVar 11) (pure [])))) (pure []))))) (eReprA (eVar 12)))) (sRet (eC (.bool false))) sNil)
abbrev dsl (x0 x1 x2 x3 x4 : Option VD) (d : PyData) (x6 x7 x8 x9 x10 x11 x12 : Option VD) : List (Option VD) := [x0, x1, x2, x3, x4, some (.dat d), x6, x7, x8, x9, x10, x11, x12]
theorem du_step {d p : PyData} {x0 x1 x2 x3 x4 x6 x7 x8 x9 x10 x11 x12 : Option VD} {n : Int} {y : Str} {ds : List PyData} {ce : Ce} (e : fchoices_at [.dat d, .dat (.tuple [.int 0, p])] ⟨[], ce⟩ = .ok (.dat (.int n), ⟨[], ce⟩)) (hy : reprA (.int n) = some y) :
    forD duT duB (.tuple [p, .int n] :: ds) ⟨dsl x0 x1 x2 x3 x4 d x6 x7 x8 x9 x10 x11 x12, ce⟩ = forD duT duB ds ⟨dsl x0 x1 x2 x3 x4 d x6 x7 x8 x9 x10 (some (.dat p)) (some (.dat (.int n))), ce⟩ := by
  rw [forD_cons]
  simp [e, hy, ne_strs]
abbrev paS : M (List VD) := (aCons (eTup (aCons (eC (.tuple [])) (aCons (eTupOf (eVar 7)) (aCons (eC (.tuple [])) (pure []))))) (aCons (eC (.tuple [(.tuple []), (.tuple []), (.tuple [])])) (pure [])))
abbrev duS : M (List PyData) := (srcSeq (eTup (aCons (eTup (aCons (eTup (aCons (eVar 9) (pure []))) (aCons (eVar 6) (pure [])))) (aCons (eC (.tuple [(.tuple []), (.int 0)])) (aCons (eTup (aCons (eTup (aCons (eVar 10) (pure []))) (aCons (eC (.int 1)) (pure [])))) (aCons (eTup (aCons (eTup (aCons (eVar 10) (aCons (eVar 9) (pure [])))) (aCons (eAdd (eVar 6) (eC (.int 1))) (pure [])))) (pure [])))))))
abbrev kiS : M (List PyData) := (srcSeq (eLst (aCons (eIdx (eIdx (eVar 5) (eC (.int 1))) (eC (.int 0))) (aCons (eIdx (eIdx (eVar 5) (eC (.int 1))) (eC (.int 0))) (aCons (eCall 2 f_law_draw (aCons (eVar 1) (aCons (eFn lenD (eVar 3)) (pure [])))) (pure []))))))
abbrev lp3 : MS := (sSet 3 (eCall 1 f_law_drawn_kinds (aCons (eVar 1) (pure []))))
abbrev lp5 : MS := (sPar3 5 6 7 (aCons (eCall 2 f_law_drawn_deed (aCons (eVar 1) (aCons (eVar 3) (pure [])))) (aCons (eC (.int 1)) (aCons (newL []) (pure [])))))
def lapB : MS := sSeq lp3 (sSeq lp5 (sSeq (sFor kiS (setSl 4) kiB) (sSeq (sPar 9 10 paS) (sFor duS duT duB))))
theorem blaw_eq : blaw = sSeq (sSet 1 (eCall 1 f_law_pen (aCons (eVar 0) (pure [])))) (sSeq (sFor (srcRng (eC (.int 8))) (setSl 2) lapB) (sRet (eC (.bool true)))) := rfl
def LI (x0 : Option VD) (S : DS) : Prop := ∃ (x2 x3 x4 x5 x6 x7 x8 x9 x10 x11 x12 : Option VD) (ks : List Int) (ce : Ce), S = ⟨[x0, some (.rf 0), x2, x3, x4, x5, x6, x7, x8, x9, x10, x11, x12], ce⟩ ∧ Pn 0 ks ce
theorem kinds3 {kk ks : List Int} (hk : KOk kk) {d : PyData} (hd : DOk kk d) {x0 x2 : Option VD} {S : DS} : ∀ (ns : List Int) (n : Nat), n + ns.length ≤ 100 → (∀ k ∈ ns, 0 ≤ k ∧ k < kk.length) → ∀ S, KI kk ks d x0 x2 n S → ∃ S', forD (setSl 4) kiB (ns.map .int) S = .ok (.nx, S') ∧ KI kk ks d x0 x2 (n + ns.length) S'
  | [], n, _, _, S, h => ⟨S, rfl, h⟩
  | k :: ns, n, hn, hb, S, h => by
    simp only [List.length_cons] at hn
    obtain ⟨S1, e1, h1⟩ := ki_ok hk hd (hb k List.mem_cons_self) (show n < 1000 by omega) h
    obtain ⟨S2, e2, h2⟩ := kinds3 hk hd (S := S) ns (n + 1) (by omega) (fun c hc => hb c (List.mem_cons_of_mem _ hc)) S1 h1
    refine ⟨S2, ?_, by simpa [Nat.add_assoc, Nat.add_comm 1] using h2⟩
    rw [List.map_cons, forD_cons]
    have s0 : noX (setSl 4 (.dat (.int k))) S = .ok (.nx, ⟨S.sl.set 4 (some (.dat (.int k))), S.ce⟩) := rfl
    rw [s0, bOk, e1, bOk]
    exact e2
theorem pa_eq {x0 x1 x2 x3 x4 x5 x6 x8 x9 x10 x11 x12 : Option VD} {i : Nat} {fl : Bool} {bs : List (Int × List Int)} {ce : Ce} (hc : ce[i]? = some (.ls fl (bs.map encA))) :
    sPar 9 10 paS ⟨[x0, x1, x2, x3, x4, x5, x6, some (.rf i), x8, x9, x10, x11, x12], ce⟩ = .ok (.nx, ⟨[x0, x1, x2, x3, x4, x5, x6, some (.rf i), x8, some (.dat (encB bs)), some (.dat (encB [])), x11, x12], ce⟩) := by
  simp [hc, encB]
theorem du_eq {x0 x1 x2 x3 x4 x5 x7 x8 x11 x12 : Option VD} {n : Int} {p q : PyData} {ce : Ce} :
    duS ⟨[x0, x1, x2, x3, x4, x5, some (.dat (.int n)), x7, x8, some (.dat p), some (.dat q), x11, x12], ce⟩ = .ok ([.tuple [.tuple [p], .int n], .tuple [.tuple [], .int 0], .tuple [.tuple [q], .int 1], .tuple [.tuple [q, p], .int (n + 1)]], ⟨[x0, x1, x2, x3, x4, x5, some (.dat (.int n)), x7, x8, some (.dat p), some (.dat q), x11, x12], ce⟩) := by
  simp
theorem for_run (src : M (List PyData)) (g : VD → M Unit) (b : MS) (S : DS) : sFor src g b S = R.bind (src S) fun p => forD g b p.1 p.2 := rfl
theorem lap_ok {x0 : Option VD} {S : DS} (h : LI x0 S) : ∃ S', lapB S = .ok (.nx, S') ∧ LI x0 S' := by
  obtain ⟨x2, x3, x4, x5, x6, x7, x8, x9, x10, x11, x12, ks0, ce, rfl, hp⟩ := h
  obtain ⟨kk, ks, c1, e1, hkk, hks, kp1⟩ := kinds_sp hp
  have hk := kinds_ok hkk
  obtain ⟨d, c2, e2, hd, kp2⟩ := deed_sp kp1.pn hk hks
  obtain ⟨a, i1, a0, a1⟩ := dok_kind hd
  obtain ⟨o, c3', e3, o0, o1, kp3'⟩ := draw_sp (b := (kk.length : Int)) (kp2.pn.app [.ls true []]) ⟨by have := hk.l0; omega, by have := hk.l4; omega⟩
  obtain ⟨c3, rfl, kp3⟩ := kp3'.split kp2.pn.lt
  have l3 := kp3.1
  have s3 : lp3 ⟨[x0, some (.rf 0), x2, x3, x4, x5, x6, x7, x8, x9, x10, x11, x12], ce⟩ = .ok (.nx, ⟨[x0, some (.rf 0), x2, some (.dat (kT kk)), x4, x5, x6, x7, x8, x9, x10, x11, x12], c1⟩) := by simp [e1]
  have s5 : lp5 ⟨[x0, some (.rf 0), x2, some (.dat (kT kk)), x4, x5, x6, x7, x8, x9, x10, x11, x12], c1⟩ = .ok (.nx, ⟨[x0, some (.rf 0), x2, some (.dat (kT kk)), x4, some (.dat d), some (.dat (.int 1)), some (.rf c2.length), x8, x9, x10, x11, x12], c2 ++ [.ls true []]⟩) := by simp [e2]
  have sk : kiS ⟨[x0, some (.rf 0), x2, some (.dat (kT kk)), x4, some (.dat d), some (.dat (.int 1)), some (.rf c2.length), x8, x9, x10, x11, x12], c2 ++ [.ls true []]⟩ = .ok ([a.1, a.1, o].map .int, ⟨[x0, some (.rf 0), x2, some (.dat (kT kk)), x4, some (.dat d), some (.dat (.int 1)), some (.rf c2.length), x8, x9, x10, x11, x12], c3 ++ [.ls true [], .ls false ([a.1, a.1, o].map .int)]⟩) := by
    simp [i1, ix0, len_kT, same_draw, e3, List.getElem?_append, List.set_append]
  obtain ⟨S4, e4, h4⟩ := kinds3 (ks := ks) hk hd (x0 := x0) (x2 := x2) (S := ⟨[], []⟩) [a.1, a.1, o] 0 (by simp) (by simp; omega) ⟨[x0, some (.rf 0), x2, some (.dat (kT kk)), x4, some (.dat d), some (.dat (.int 1)), some (.rf c2.length), x8, x9, x10, x11, x12], c3 ++ [.ls true [], .ls false ([a.1, a.1, o].map .int)]⟩
    ⟨x4, x8, x9, x10, x11, x12, c2.length, true, [], _, rfl, rfl, (fun _ z => nomatch z), by rw [← l3]; simp, by have := kp2.pn.lt; omega, kp3.pn.app _⟩
  obtain ⟨y4, y8, y9, y10, y11, y12, i, fl, bs, c4, rfl, bl, hb, hc, hi, hp4⟩ := h4
  have nl : nP d bs ≤ 125 := by
    have := nP_le hk hd bs 1 hb
    simp at bl
    rw [bl] at this
    exact this
  have n0 : ∀ b ∈ ([] : List (Int × List Int)), BOk kk b := fun _ z => nomatch z
  have q1 := ch_sp hk hd [bs] (by simpa using hb) c4
  have q2 := ch_sp hk hd [] (by simp) c4
  have q3 := ch_sp hk hd [[]] (by simp) c4
  have q4 := ch_sp hk hd [[], bs] (by simpa using hb) c4
  simp only [List.foldl_cons, List.foldl_nil, List.map_cons, List.map_nil, Nat.zero_add, nP_nil] at q1 q2 q3 q4
  rw [Nat.add_comm 1, Int.natCast_add] at q4
  obtain ⟨z1, r1⟩ := repr_nat (n := nP d bs) (by omega)
  obtain ⟨z2, r2⟩ := repr_nat (n := 0) (by omega)
  obtain ⟨z3, r3⟩ := repr_nat (n := 1) (by omega)
  obtain ⟨z4, r4⟩ := repr_nat (n := nP d bs + 1) (by omega)
  rw [Int.natCast_add] at r4
  have sf : sFor kiS (setSl 4) kiB ⟨[x0, some (.rf 0), x2, some (.dat (kT kk)), x4, some (.dat d), some (.dat (.int 1)), some (.rf c2.length), x8, x9, x10, x11, x12], c2 ++ [.ls true []]⟩ = .ok (.nx, ⟨[x0, some (.rf 0), x2, some (.dat (kT kk)), y4, some (.dat d), some (.dat (.int (nP d bs : Nat))), some (.rf i), y8, y9, y10, y11, y12], c4⟩) := by rw [for_run, sk, bOk]; exact e4
  have sl : sFor duS duT duB ⟨[x0, some (.rf 0), x2, some (.dat (kT kk)), y4, some (.dat d), some (.dat (.int (nP d bs : Nat))), some (.rf i), y8, some (.dat (encB bs)), some (.dat (encB [])), y11, y12], c4⟩ = .ok (.nx, ⟨dsl x0 (some (.rf 0)) x2 (some (.dat (kT kk))) y4 d (some (.dat (.int (nP d bs : Nat)))) (some (.rf i)) y8 (some (.dat (encB bs))) (some (.dat (encB []))) (some (.dat (.tuple [encB [], encB bs]))) (some (.dat (.int ((nP d bs : Nat) + 1)))), c4⟩) := by
    rw [for_run, du_eq, bOk]
    exact (du_step q1 r1).trans ((du_step q2 r2).trans ((du_step q3 r3).trans ((du_step q4 r4).trans (forD_nil _ _ _))))
  have run : lapB ⟨[x0, some (.rf 0), x2, x3, x4, x5, x6, x7, x8, x9, x10, x11, x12], ce⟩ = .ok (.nx, ⟨dsl x0 (some (.rf 0)) x2 (some (.dat (kT kk))) y4 d (some (.dat (.int (nP d bs : Nat)))) (some (.rf i)) y8 (some (.dat (encB bs))) (some (.dat (encB []))) (some (.dat (.tuple [encB [], encB bs]))) (some (.dat (.int ((nP d bs : Nat) + 1)))), c4⟩) := by
    unfold lapB
    rw [seq_nx s3, seq_nx s5, seq_nx sf, seq_nx (pa_eq hc)]
    exact sl
  exact ⟨_, run, x2, _, _, _, _, _, _, _, _, _, _, ks, c4, rfl, hp4⟩
theorem law_true (ns : List Int) : ∃ S', flaw [.bag (ns.map .int)] ⟨[], []⟩ = .ok (.dat (.bool true), S') := by
  obtain ⟨ce, e0, hp⟩ := pen_start ns
  obtain ⟨S', e1, h1⟩ := for_all (g := setSl 2) (body := lapB) (I := fun _ S => LI (some (.bag (ns.map .int))) S) (rngD 0 8) 0 ⟨[some (.bag (ns.map .int)), some (.rf 0), none, none, none, none, none, none, none, none, none, none, none], ce⟩ ⟨none, none, none, none, none, none, none, none, none, none, none, _, _, rfl, hp⟩ (fun d hd k _ S hI => by
    obtain ⟨x2, x3, x4, x5, x6, x7, x8, x9, x10, x11, x12, ks, ce, rfl, hp⟩ := hI
    obtain ⟨S', e, h'⟩ := lap_ok (S := ⟨[some (.bag (ns.map .int)), some (.rf 0), some (.dat d), x3, x4, x5, x6, x7, x8, x9, x10, x11, x12], ce⟩) ⟨_, _, _, _, _, _, _, _, _, _, _, ks, ce, rfl, hp⟩
    exact ⟨_, S', rfl, e, h'⟩)
  unfold flaw
  rw [runFS, blaw_eq]
  exact ⟨_, by simp [e0, e1]; rfl⟩
end K13
namespace K13
open PySem PySem.Spec L2 DL
section
variable {base : Heap} {P : Program} {w : World} {K : PySem.W.Frag} {mg : Str → Option Value}
end
set_option maxHeartbeats 4300007 in
theorem all_mk {l : W.OpenLaw} {w : World} {K : W.Frag} {h : Heap} {mg : Str → Option Value} {fa : Addr} (X : K.In h) (G : h.Ns mainGlobals mg) (hfa : mg "law" = some (.ref fa))
    { f100 f101 f102 f103 f104 f105 f106 f107 f108 f109 f110 f111 f112 f113 f114 f115 f116 f117 f118 f119 f120 f121 : Addr} {od100 an100 od101 an101 od102 an102 od103 an103 od104 an104 od105 an105 od106 an106 od107 an107 od108 an108 od109 an109 od110 an110 od111 an111 od112 an112 od113 an113 od114 an114 od115 an115 od116 an116 od117 an117 od118 an118 od119 an119 od120 an120 od121 an121 : Option Addr} {sl100 sl101 sl102 sl103 sl104 sl105 sl106 sl107 sl108 sl109 sl110 sl111 sl112 sl113 sl114 sl115 sl116 sl117 sl118 sl119 sl120 sl121 : Array (Option Value)} {oc100 kV100 dc100 pm100 cd100 ct100 oc101 kV101 dc101 pm101 cd101 ct101 oc102 kV102 dc102 pm102 cd102 ct102 oc103 kV103 dc103 pm103 cd103 ct103 oc104 kV104 dc104 pm104 cd104 ct104 oc105 kV105 dc105 pm105 cd105 ct105 oc106 kV106 dc106 pm106 cd106 ct106 oc107 kV107 dc107 pm107 cd107 ct107 oc108 kV108 dc108 pm108 cd108 ct108 oc109 kV109 dc109 pm109 cd109 ct109 oc110 kV110 dc110 pm110 cd110 ct110 oc111 kV111 dc111 pm111 cd111 ct111 oc112 kV112 dc112 pm112 cd112 ct112 oc113 kV113 dc113 pm113 cd113 ct113 oc114 kV114 dc114 pm114 cd114 ct114 oc115 kV115 dc115 pm115 cd115 ct115 oc116 kV116 dc116 pm116 cd116 ct116 oc117 kV117 dc117 pm117 cd117 ct117 oc118 kV118 dc118 pm118 cd118 ct118 oc119 kV119 dc119 pm119 cd119 ct119 oc120 kV120 dc120 pm120 cd120 ct120 oc121 kV121 dc121 pm121 cd121 ct121 : Value} {t_MOST_VARIABLES : Tok}
    (a100 : W.nsIn K mainGlobals "moved" = some (some (.ref f100)))
    (l100 : K.lookup f100 = some ⟨oc100, od100, .func (W.fnOf "moved" "moved" (defArgs stmoved) (defBody stmoved) (defScope stmoved) .none kV100 dc100 pm100 an100 cd100 ct100), sl100⟩)
    (c100 : W.codeIn K cd100 "moved" = true)
    (k100 : W.keepIn K (.ref f100) = true)
    (a101 : W.nsIn K mainGlobals "itself" = some (some (.ref f101)))
    (l101 : K.lookup f101 = some ⟨oc101, od101, .func (W.fnOf "itself" "itself" (defArgs stitself) (defBody stitself) (defScope stitself) .none kV101 dc101 pm101 an101 cd101 ct101), sl101⟩)
    (c101 : W.codeIn K cd101 "itself" = true)
    (k101 : W.keepIn K (.ref f101) = true)
    (a102 : W.nsIn K mainGlobals "case_of_deed" = some (some (.ref f102)))
    (l102 : K.lookup f102 = some ⟨oc102, od102, .func (W.fnOf "case_of_deed" "case_of_deed" (defArgs stcase_of_deed) (defBody stcase_of_deed) (defScope stcase_of_deed) .none kV102 dc102 pm102 an102 cd102 ct102), sl102⟩)
    (c102 : W.codeIn K cd102 "case_of_deed" = true)
    (k102 : W.keepIn K (.ref f102) = true)
    (a103 : W.nsIn K mainGlobals "cases_unmet" = some (some (.ref f103)))
    (l103 : K.lookup f103 = some ⟨oc103, od103, .func (W.fnOf "cases_unmet" "cases_unmet" (defArgs stcases_unmet) (defBody stcases_unmet) (defScope stcases_unmet) .none kV103 dc103 pm103 an103 cd103 ct103), sl103⟩)
    (c103 : W.codeIn K cd103 "cases_unmet" = true)
    (k103 : W.keepIn K (.ref f103) = true)
    (a104 : W.nsIn K mainGlobals "cases_apart" = some (some (.ref f104)))
    (l104 : K.lookup f104 = some ⟨oc104, od104, .func (W.fnOf "cases_apart" "cases_apart" (defArgs stcases_apart) (defBody stcases_apart) (defScope stcases_apart) .none kV104 dc104 pm104 an104 cd104 ct104), sl104⟩)
    (c104 : W.codeIn K cd104 "cases_apart" = true)
    (k104 : W.keepIn K (.ref f104) = true)
    (a105 : W.nsIn K mainGlobals "cases" = some (some (.ref f105)))
    (l105 : K.lookup f105 = some ⟨oc105, od105, .func (W.fnOf "cases" "cases" (defArgs stcases) (defBody stcases) (defScope stcases) .none kV105 dc105 pm105 an105 cd105 ct105), sl105⟩)
    (c105 : W.codeIn K cd105 "cases" = true)
    (k105 : W.keepIn K (.ref f105) = true)
    (a106 : W.nsIn K mainGlobals "choices_at" = some (some (.ref f106)))
    (l106 : K.lookup f106 = some ⟨oc106, od106, .func (W.fnOf "choices_at" "choices_at" (defArgs stchoices_at) (defBody stchoices_at) (defScope stchoices_at) .none kV106 dc106 pm106 an106 cd106 ct106), sl106⟩)
    (c106 : W.codeIn K cd106 "choices_at" = true)
    (k106 : W.keepIn K (.ref f106) = true)
    (a107 : W.nsIn K mainGlobals "_law_pen" = some (some (.ref f107)))
    (l107 : K.lookup f107 = some ⟨oc107, od107, .func (W.fnOf "_law_pen" "_law_pen" (defArgs st_law_pen) (defBody st_law_pen) (defScope st_law_pen) .none kV107 dc107 pm107 an107 cd107 ct107), sl107⟩)
    (c107 : W.codeIn K cd107 "_law_pen" = true)
    (k107 : W.keepIn K (.ref f107) = true)
    (a108 : W.nsIn K mainGlobals "_law_fresh" = some (some (.ref f108)))
    (l108 : K.lookup f108 = some ⟨oc108, od108, .func (W.fnOf "_law_fresh" "_law_fresh" (defArgs st_law_fresh) (defBody st_law_fresh) (defScope st_law_fresh) .none kV108 dc108 pm108 an108 cd108 ct108), sl108⟩)
    (c108 : W.codeIn K cd108 "_law_fresh" = true)
    (k108 : W.keepIn K (.ref f108) = true)
    (a109 : W.nsIn K mainGlobals "_law_draw" = some (some (.ref f109)))
    (l109 : K.lookup f109 = some ⟨oc109, od109, .func (W.fnOf "_law_draw" "_law_draw" (defArgs st_law_draw) (defBody st_law_draw) (defScope st_law_draw) .none kV109 dc109 pm109 an109 cd109 ct109), sl109⟩)
    (c109 : W.codeIn K cd109 "_law_draw" = true)
    (k109 : W.keepIn K (.ref f109) = true)
    (a110 : W.nsIn K mainGlobals "_law_one_of" = some (some (.ref f110)))
    (l110 : K.lookup f110 = some ⟨oc110, od110, .func (W.fnOf "_law_one_of" "_law_one_of" (defArgs st_law_one_of) (defBody st_law_one_of) (defScope st_law_one_of) .none kV110 dc110 pm110 an110 cd110 ct110), sl110⟩)
    (c110 : W.codeIn K cd110 "_law_one_of" = true)
    (k110 : W.keepIn K (.ref f110) = true)
    (a111 : W.nsIn K mainGlobals "_law_drawn_kinds" = some (some (.ref f111)))
    (l111 : K.lookup f111 = some ⟨oc111, od111, .func (W.fnOf "_law_drawn_kinds" "_law_drawn_kinds" (defArgs st_law_drawn_kinds) (defBody st_law_drawn_kinds) (defScope st_law_drawn_kinds) .none kV111 dc111 pm111 an111 cd111 ct111), sl111⟩)
    (c111 : W.codeIn K cd111 "_law_drawn_kinds" = true)
    (k111 : W.keepIn K (.ref f111) = true)
    (a112 : W.nsIn K mainGlobals "_law_drawn_atom" = some (some (.ref f112)))
    (l112 : K.lookup f112 = some ⟨oc112, od112, .func (W.fnOf "_law_drawn_atom" "_law_drawn_atom" (defArgs st_law_drawn_atom) (defBody st_law_drawn_atom) (defScope st_law_drawn_atom) .none kV112 dc112 pm112 an112 cd112 ct112), sl112⟩)
    (c112 : W.codeIn K cd112 "_law_drawn_atom" = true)
    (k112 : W.keepIn K (.ref f112) = true)
    (a113 : W.nsIn K mainGlobals "_law_drawn_terms" = some (some (.ref f113)))
    (l113 : K.lookup f113 = some ⟨oc113, od113, .func (W.fnOf "_law_drawn_terms" "_law_drawn_terms" (defArgs st_law_drawn_terms) (defBody st_law_drawn_terms) (defScope st_law_drawn_terms) .none kV113 dc113 pm113 an113 cd113 ct113), sl113⟩)
    (c113 : W.codeIn K cd113 "_law_drawn_terms" = true)
    (k113 : W.keepIn K (.ref f113) = true)
    (a114 : W.nsIn K mainGlobals "_law_drawn_pairs" = some (some (.ref f114)))
    (l114 : K.lookup f114 = some ⟨oc114, od114, .func (W.fnOf "_law_drawn_pairs" "_law_drawn_pairs" (defArgs st_law_drawn_pairs) (defBody st_law_drawn_pairs) (defScope st_law_drawn_pairs) .none kV114 dc114 pm114 an114 cd114 ct114), sl114⟩)
    (c114 : W.codeIn K cd114 "_law_drawn_pairs" = true)
    (k114 : W.keepIn K (.ref f114) = true)
    (a115 : W.nsIn K mainGlobals "_law_drawn_body" = some (some (.ref f115)))
    (l115 : K.lookup f115 = some ⟨oc115, od115, .func (W.fnOf "_law_drawn_body" "_law_drawn_body" (defArgs st_law_drawn_body) (defBody st_law_drawn_body) (defScope st_law_drawn_body) .none kV115 dc115 pm115 an115 cd115 ct115), sl115⟩)
    (c115 : W.codeIn K cd115 "_law_drawn_body" = true)
    (k115 : W.keepIn K (.ref f115) = true)
    (a116 : W.nsIn K mainGlobals "_law_drawn_deed" = some (some (.ref f116)))
    (l116 : K.lookup f116 = some ⟨oc116, od116, .func (W.fnOf "_law_drawn_deed" "_law_drawn_deed" (defArgs st_law_drawn_deed) (defBody st_law_drawn_deed) (defScope st_law_drawn_deed) .none kV116 dc116 pm116 an116 cd116 ct116), sl116⟩)
    (c116 : W.codeIn K cd116 "_law_drawn_deed" = true)
    (k116 : W.keepIn K (.ref f116) = true)
    (a117 : W.nsIn K mainGlobals "_law_unmet" = some (some (.ref f117)))
    (l117 : K.lookup f117 = some ⟨oc117, od117, .func (W.fnOf "_law_unmet" "_law_unmet" (defArgs st_law_unmet) (defBody st_law_unmet) (defScope st_law_unmet) .none kV117 dc117 pm117 an117 cd117 ct117), sl117⟩)
    (c117 : W.codeIn K cd117 "_law_unmet" = true)
    (k117 : W.keepIn K (.ref f117) = true)
    (a118 : W.nsIn K mainGlobals "_law_cases" = some (some (.ref f118)))
    (l118 : K.lookup f118 = some ⟨oc118, od118, .func (W.fnOf "_law_cases" "_law_cases" (defArgs st_law_cases) (defBody st_law_cases) (defScope st_law_cases) .none kV118 dc118 pm118 an118 cd118 ct118), sl118⟩)
    (c118 : W.codeIn K cd118 "_law_cases" = true)
    (k118 : W.keepIn K (.ref f118) = true)
    (a119 : W.nsIn K mainGlobals "_law_right" = some (some (.ref f119)))
    (l119 : K.lookup f119 = some ⟨oc119, od119, .func (W.fnOf "_law_right" "_law_right" (defArgs st_law_right) (defBody st_law_right) (defScope st_law_right) .none kV119 dc119 pm119 an119 cd119 ct119), sl119⟩)
    (c119 : W.codeIn K cd119 "_law_right" = true)
    (k119 : W.keepIn K (.ref f119) = true)
    (a120 : W.nsIn K mainGlobals "_law_wide_atom" = some (some (.ref f120)))
    (l120 : K.lookup f120 = some ⟨oc120, od120, .func (W.fnOf "_law_wide_atom" "_law_wide_atom" (defArgs st_law_wide_atom) (defBody st_law_wide_atom) (defScope st_law_wide_atom) .none kV120 dc120 pm120 an120 cd120 ct120), sl120⟩)
    (c120 : W.codeIn K cd120 "_law_wide_atom" = true)
    (k120 : W.keepIn K (.ref f120) = true)
    (a121 : W.nsIn K mainGlobals "law" = some (some (.ref f121)))
    (l121 : K.lookup f121 = some ⟨oc121, od121, .func (W.fnOf "law" "law" (defArgs stlaw) (defBody stlaw) (defScope stlaw) .none kV121 dc121 pm121 an121 cd121 ct121), sl121⟩)
    (c121 : W.codeIn K cd121 "law" = true)
    (k121 : W.keepIn K (.ref f121) = true)
    (z_dict : W.nsIn K mainGlobals "dict" = some none)
    (z_enumerate : W.nsIn K mainGlobals "enumerate" = some none)
    (z_int : W.nsIn K mainGlobals "int" = some none)
    (z_len : W.nsIn K mainGlobals "len" = some none)
    (z_list : W.nsIn K mainGlobals "list" = some none)
    (z_max : W.nsIn K mainGlobals "max" = some none)
    (z_min : W.nsIn K mainGlobals "min" = some none)
    (z_range : W.nsIn K mainGlobals "range" = some none)
    (z_repr : W.nsIn K mainGlobals "repr" = some none)
    (z_set : W.nsIn K mainGlobals "set" = some none)
    (z_sorted : W.nsIn K mainGlobals "sorted" = some none)
    (z_tuple : W.nsIn K mainGlobals "tuple" = some none)
    (z_zip : W.nsIn K mainGlobals "zip" = some none)
    (v_MOST_VARIABLES : W.nsIn K mainGlobals "MOST_VARIABLES" = some (some (.int 8 t_MOST_VARIABLES))) :
    ∃ fd : FuncData, (∀ (s : Shared) (v : Value), BindsTo s fd ⟨[v], []⟩ [("script", v)]) ∧ ∀ base : Heap, K.In base → base.Ns mainGlobals mg → DG.FnG l.prog w K mg base 7 fa fd ["script"] (spD K w mg 1 flaw) := by
  cases hfa.symm.trans (W.mg_of X G a121)
  have b_dict := W.mg_none_of X G z_dict
  have b_enumerate := W.mg_none_of X G z_enumerate
  have b_int := W.mg_none_of X G z_int
  have b_len := W.mg_none_of X G z_len
  have b_list := W.mg_none_of X G z_list
  have b_max := W.mg_none_of X G z_max
  have b_min := W.mg_none_of X G z_min
  have b_range := W.mg_none_of X G z_range
  have b_repr := W.mg_none_of X G z_repr
  have b_set := W.mg_none_of X G z_set
  have b_sorted := W.mg_none_of X G z_sorted
  have b_tuple := W.mg_none_of X G z_tuple
  have b_zip := W.mg_none_of X G z_zip
  have g_MOST_VARIABLES : ∃ t, mg "MOST_VARIABLES" = some (.int 8 t) := ⟨_, W.mg_of X G v_MOST_VARIABLES⟩
  refine ⟨W.fnOf "law" "law" (defArgs stlaw) (defBody stlaw) (defScope stlaw) .none kV121 dc121 pm121 an121 cd121 ct121, fun s v => .of_eq rfl, fun base _ _ => ?_⟩
  have F100 := fun_mk (st := stmoved) l100 c100 k100
  have cmoved : Fnk l.prog w K mg base "moved" 2 1 fmoved := Fnk.mk (ps := ["terms", "room"]) (okmoved F100 b_tuple) (W.mg_of X G a100) k100 (F100.binds fun _ _ _ _ _ _ us hl => match us, hl with | [_, _], _ => rfl)
  have F101 := fun_mk (st := stitself) l101 c101 k101
  have citself : Fnk l.prog w K mg base "itself" 1 1 fitself := Fnk.mk (ps := ["atom"]) (okitself F101 ) (W.mg_of X G a101) k101 (F101.binds fun _ _ _ _ _ _ us hl => match us, hl with | [_], _ => rfl)
  have F102 := fun_mk (st := stcase_of_deed) l102 c102 k102
  have ccase_of_deed : Fnk l.prog w K mg base "case_of_deed" 5 2 fcase_of_deed := Fnk.mk (ps := ["told", "atoms", "unlike", "asked", "room"]) (okcase_of_deed F102 b_tuple b_zip cmoved) (W.mg_of X G a102) k102 (F102.binds fun _ _ _ _ _ _ us hl => match us, hl with | [_, _, _, _, _], _ => rfl)
  have F103 := fun_mk (st := stcases_unmet) l103 c103 k103
  have ccases_unmet : Fnk l.prog w K mg base "cases_unmet" 2 1 fcases_unmet := Fnk.mk (ps := ["deed", "atom"]) (okcases_unmet F103 b_enumerate b_tuple) (W.mg_of X G a103) k103 (F103.binds fun _ _ _ _ _ _ us hl => match us, hl with | [_, _], _ => rfl)
  have F104 := fun_mk (st := stcases_apart) l104 c104 k104
  have ccases_apart : Fnk l.prog w K mg base "cases_apart" 3 3 fcases_apart := Fnk.mk (ps := ["deed", "atom", "room"]) (okcases_apart F104 citself ccase_of_deed ccases_unmet) (W.mg_of X G a104) k104 (F104.binds fun _ _ _ _ _ _ us hl => match us, hl with | [_, _, _], _ => rfl)
  have F105 := fun_mk (st := stcases) l105 c105 k105
  have ccases : Fnk l.prog w K mg base "cases" 2 4 fcases := Fnk.mk (ps := ["deed", "atom"]) (okcases F105 ccases_apart g_MOST_VARIABLES) (W.mg_of X G a105) k105 (F105.binds fun _ _ _ _ _ _ us hl => match us, hl with | [_, _], _ => rfl)
  have F106 := fun_mk (st := stchoices_at) l106 c106 k106
  have cchoices_at : Fnk l.prog w K mg base "choices_at" 2 5 fchoices_at := Fnk.mk (ps := ["deed", "question"]) (okchoices_at F106 b_len ccases) (W.mg_of X G a106) k106 (F106.binds fun _ _ _ _ _ _ us hl => match us, hl with | [_, _], _ => rfl)
  have F107 := fun_mk (st := st_law_pen) l107 c107 k107
  have c_law_pen : Fnk l.prog w K mg base "_law_pen" 1 1 f_law_pen := Fnk.mk (ps := ["script"]) (ok_law_pen F107 b_list) (W.mg_of X G a107) k107 (F107.binds fun _ _ _ _ _ _ us hl => match us, hl with | [_], _ => rfl)
  have F108 := fun_mk (st := st_law_fresh) l108 c108 k108
  have c_law_fresh : Fnk l.prog w K mg base "_law_fresh" 1 1 f_law_fresh := Fnk.mk (ps := ["pen"]) (ok_law_fresh F108 b_int b_len b_range) (W.mg_of X G a108) k108 (F108.binds fun _ _ _ _ _ _ us hl => match us, hl with | [_], _ => rfl)
  have F109 := fun_mk (st := st_law_draw) l109 c109 k109
  have c_law_draw : Fnk l.prog w K mg base "_law_draw" 2 2 f_law_draw := Fnk.mk (ps := ["pen", "bound"]) (ok_law_draw F109 b_int c_law_fresh) (W.mg_of X G a109) k109 (F109.binds fun _ _ _ _ _ _ us hl => match us, hl with | [_, _], _ => rfl)
  have F110 := fun_mk (st := st_law_one_of) l110 c110 k110
  have c_law_one_of : Fnk l.prog w K mg base "_law_one_of" 2 3 f_law_one_of := Fnk.mk (ps := ["pen", "some"]) (ok_law_one_of F110 b_len c_law_draw) (W.mg_of X G a110) k110 (F110.binds fun _ _ _ _ _ _ us hl => match us, hl with | [_, _], _ => rfl)
  have F111 := fun_mk (st := st_law_drawn_kinds) l111 c111 k111
  have c_law_drawn_kinds : Fnk l.prog w K mg base "_law_drawn_kinds" 1 4 f_law_drawn_kinds := Fnk.mk (ps := ["pen"]) (ok_law_drawn_kinds F111 c_law_one_of) (W.mg_of X G a111) k111 (F111.binds fun _ _ _ _ _ _ us hl => match us, hl with | [_], _ => rfl)
  have F112 := fun_mk (st := st_law_drawn_atom) l112 c112 k112
  have c_law_drawn_atom : Fnk l.prog w K mg base "_law_drawn_atom" 3 4 f_law_drawn_atom := Fnk.mk (ps := ["pen", "kinds", "terms"]) (ok_law_drawn_atom F112 b_len b_range b_tuple c_law_draw c_law_one_of) (W.mg_of X G a112) k112 (F112.binds fun _ _ _ _ _ _ us hl => match us, hl with | [_, _, _], _ => rfl)
  have F113 := fun_mk (st := st_law_drawn_terms) l113 c113 k113
  have c_law_drawn_terms : Fnk l.prog w K mg base "_law_drawn_terms" 1 3 f_law_drawn_terms := Fnk.mk (ps := ["pen"]) (ok_law_drawn_terms F113 c_law_draw) (W.mg_of X G a113) k113 (F113.binds fun _ _ _ _ _ _ us hl => match us, hl with | [_], _ => rfl)
  have F114 := fun_mk (st := st_law_drawn_pairs) l114 c114 k114
  have c_law_drawn_pairs : Fnk l.prog w K mg base "_law_drawn_pairs" 3 4 f_law_drawn_pairs := Fnk.mk (ps := ["pen", "terms", "most"]) (ok_law_drawn_pairs F114 b_max b_min b_range b_set b_sorted b_tuple c_law_one_of) (W.mg_of X G a114) k114 (F114.binds fun _ _ _ _ _ _ us hl => match us, hl with | [_, _, _], _ => rfl)
  have F115 := fun_mk (st := st_law_drawn_body) l115 c115 k115
  have c_law_drawn_body : Fnk l.prog w K mg base "_law_drawn_body" 3 5 f_law_drawn_body := Fnk.mk (ps := ["pen", "kinds", "most"]) (ok_law_drawn_body F115 b_range b_tuple c_law_one_of c_law_drawn_atom c_law_drawn_terms) (W.mg_of X G a115) k115 (F115.binds fun _ _ _ _ _ _ us hl => match us, hl with | [_, _, _], _ => rfl)
  have F116 := fun_mk (st := st_law_drawn_deed) l116 c116 k116
  have c_law_drawn_deed : Fnk l.prog w K mg base "_law_drawn_deed" 2 6 f_law_drawn_deed := Fnk.mk (ps := ["pen", "kinds"]) (ok_law_drawn_deed F116 b_list b_tuple c_law_one_of c_law_drawn_atom c_law_drawn_terms c_law_drawn_pairs c_law_drawn_body) (W.mg_of X G a116) k116 (F116.binds fun _ _ _ _ _ _ us hl => match us, hl with | [_, _], _ => rfl)
  have F117 := fun_mk (st := st_law_unmet) l117 c117 k117
  have c_law_unmet : Fnk l.prog w K mg base "_law_unmet" 2 1 f_law_unmet := Fnk.mk (ps := ["deed", "atom"]) (ok_law_unmet F117 b_zip) (W.mg_of X G a117) k117 (F117.binds fun _ _ _ _ _ _ us hl => match us, hl with | [_, _], _ => rfl)
  have F118 := fun_mk (st := st_law_cases) l118 c118 k118
  have c_law_cases : Fnk l.prog w K mg base "_law_cases" 3 2 f_law_cases := Fnk.mk (ps := ["deed", "atom", "far"]) (ok_law_cases F118 b_dict b_list b_tuple b_zip c_law_unmet) (W.mg_of X G a118) k118 (F118.binds fun _ _ _ _ _ _ us hl => match us, hl with | [_, _, _], _ => rfl)
  have F119 := fun_mk (st := st_law_right) l119 c119 k119
  have c_law_right : Fnk l.prog w K mg base "_law_right" 2 5 f_law_right := Fnk.mk (ps := ["deed", "atom"]) (ok_law_right F119 b_repr b_tuple ccases c_law_cases) (W.mg_of X G a119) k119 (F119.binds fun _ _ _ _ _ _ us hl => match us, hl with | [_, _], _ => rfl)
  have F120 := fun_mk (st := st_law_wide_atom) l120 c120 k120
  have c_law_wide_atom : Fnk l.prog w K mg base "_law_wide_atom" 3 4 f_law_wide_atom := Fnk.mk (ps := ["pen", "kinds", "kind"]) (ok_law_wide_atom F120 b_range b_tuple c_law_one_of) (W.mg_of X G a120) k120 (F120.binds fun _ _ _ _ _ _ us hl => match us, hl with | [_, _, _], _ => rfl)
  have F121 := fun_mk (st := stlaw) l121 c121 k121
  exact oklaw F121 b_len b_range b_repr b_tuple ccases cchoices_at c_law_pen c_law_draw c_law_drawn_kinds c_law_drawn_deed c_law_right c_law_wide_atom
theorem dd_ints {K : PySem.W.Frag} {H : Hp} : ∀ ns : List Int, DdAll K H (ns.map V.int) (ns.map PyData.int)
  | [] => .nil
  | n :: ns => .cons (.int n) (dd_ints ns)
theorem sp_true {K : PySem.W.Frag} {w : World} {mg : Str → Option Value} {H : Hp} {a : Addr} {ns : List Int} (hS : SqL K H a (ns.map V.int)) : spD K w mg 1 flaw [.ref a] H (fun v _ => v = .bl true) fun _ _ _ => False := by
  obtain ⟨S, e⟩ := law_true ns
  refine ⟨rfl, fun _ => none, [], [], H, [.bag (ns.map .int)], ⟨rfl, L2.Same.refl H, (fun _ _ z => nomatch z), rfl, List.nodup_nil, (fun j a c z => nomatch z), (fun i x z => nomatch z)⟩, ⟨⟨a, _, rfl, hS, dd_ints ns⟩, trivial⟩, ?_⟩
  rw [e]
  intro v H' G' rs' u m r
  cases r
  rfl
end K13
open PyProof.Rows PySem PySem.W in
set_option maxHeartbeats 0 in
theorem PySem.Challenge.cw_backasked_k13_cases_before_a_deed_holds : PySem.Challenge.rw_backasked_k13_cases_before_a_deed.Holds := by
  w_on; o_law
  k_head
  (case hw => w_witness2)
  k_fill
  refine DG.walkG (n := 63) (k := 7) (x := "script") (l := PySem.Challenge.rw_backasked_k13_cases_before_a_deed) (sp := fun w mg => DL.spD _ w mg 1 K13.flaw) rfl (by decide) rfl ⟨rfl, by decide, by decide⟩ (fun w h Y => PySem.W.kIn_of Y) ?F (fun w mg H a ns _ _ hS => K13.sp_true hS)
  case F =>
    intro w mg fa h KX G hmg
    refine' K13.all_mk KX G hmg ?a100 ?l100 ?c100 ?k100 ?a101 ?l101 ?c101 ?k101 ?a102 ?l102 ?c102 ?k102 ?a103 ?l103 ?c103 ?k103 ?a104 ?l104 ?c104 ?k104 ?a105 ?l105 ?c105 ?k105 ?a106 ?l106 ?c106 ?k106 ?a107 ?l107 ?c107 ?k107 ?a108 ?l108 ?c108 ?k108 ?a109 ?l109 ?c109 ?k109 ?a110 ?l110 ?c110 ?k110 ?a111 ?l111 ?c111 ?k111 ?a112 ?l112 ?c112 ?k112 ?a113 ?l113 ?c113 ?k113 ?a114 ?l114 ?c114 ?k114 ?a115 ?l115 ?c115 ?k115 ?a116 ?l116 ?c116 ?k116 ?a117 ?l117 ?c117 ?k117 ?a118 ?l118 ?c118 ?k118 ?a119 ?l119 ?c119 ?k119 ?a120 ?l120 ?c120 ?k120 ?a121 ?l121 ?c121 ?k121 ?z_dict ?z_enumerate ?z_int ?z_len ?z_list ?z_max ?z_min ?z_range ?z_repr ?z_set ?z_sorted ?z_tuple ?z_zip ?v_MOST_VARIABLES
    (case a100 => k_is)
    (case l100 => k_is)
    (case c100 => k_is)
    (case k100 => k_is)
    (case a101 => k_is)
    (case l101 => k_is)
    (case c101 => k_is)
    (case k101 => k_is)
    (case a102 => k_is)
    (case l102 => k_is)
    (case c102 => k_is)
    (case k102 => k_is)
    (case a103 => k_is)
    (case l103 => k_is)
    (case c103 => k_is)
    (case k103 => k_is)
    (case a104 => k_is)
    (case l104 => k_is)
    (case c104 => k_is)
    (case k104 => k_is)
    (case a105 => k_is)
    (case l105 => k_is)
    (case c105 => k_is)
    (case k105 => k_is)
    (case a106 => k_is)
    (case l106 => k_is)
    (case c106 => k_is)
    (case k106 => k_is)
    (case a107 => k_is)
    (case l107 => k_is)
    (case c107 => k_is)
    (case k107 => k_is)
    (case a108 => k_is)
    (case l108 => k_is)
    (case c108 => k_is)
    (case k108 => k_is)
    (case a109 => k_is)
    (case l109 => k_is)
    (case c109 => k_is)
    (case k109 => k_is)
    (case a110 => k_is)
    (case l110 => k_is)
    (case c110 => k_is)
    (case k110 => k_is)
    (case a111 => k_is)
    (case l111 => k_is)
    (case c111 => k_is)
    (case k111 => k_is)
    (case a112 => k_is)
    (case l112 => k_is)
    (case c112 => k_is)
    (case k112 => k_is)
    (case a113 => k_is)
    (case l113 => k_is)
    (case c113 => k_is)
    (case k113 => k_is)
    (case a114 => k_is)
    (case l114 => k_is)
    (case c114 => k_is)
    (case k114 => k_is)
    (case a115 => k_is)
    (case l115 => k_is)
    (case c115 => k_is)
    (case k115 => k_is)
    (case a116 => k_is)
    (case l116 => k_is)
    (case c116 => k_is)
    (case k116 => k_is)
    (case a117 => k_is)
    (case l117 => k_is)
    (case c117 => k_is)
    (case k117 => k_is)
    (case a118 => k_is)
    (case l118 => k_is)
    (case c118 => k_is)
    (case k118 => k_is)
    (case a119 => k_is)
    (case l119 => k_is)
    (case c119 => k_is)
    (case k119 => k_is)
    (case a120 => k_is)
    (case l120 => k_is)
    (case c120 => k_is)
    (case k120 => k_is)
    (case a121 => k_is)
    (case l121 => k_is)
    (case c121 => k_is)
    (case k121 => k_is)
    (case z_dict => k_is)
    (case z_enumerate => k_is)
    (case z_int => k_is)
    (case z_len => k_is)
    (case z_list => k_is)
    (case z_max => k_is)
    (case z_min => k_is)
    (case z_range => k_is)
    (case z_repr => k_is)
    (case z_set => k_is)
    (case z_sorted => k_is)
    (case z_tuple => k_is)
    (case z_zip => k_is)
    (case v_MOST_VARIABLES => k_is)

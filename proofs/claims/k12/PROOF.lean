import PyProof.Rows.All
import HandS.TupSets
import KE.KDictKeyed
import KE.SortData
import HandS.SetFor
import HandS.ExcInit
import HandS.ExcIs
import HandS.ExcField
import KE.KExcInit
import HandS.ExcOwn
import HandS.Words
import HandS.Defaults
import HandS.MakeKw
import KE.KExcIs
import HandS.IsInst
import HandS.WordsExc
import HandS.Ends
import HandS.ForMost
import HandS.TupAny
import HandS.TupMul
import KE.KIndexOf
import HandS.Exc
import HandS.TryOnly
import HandS.Conv
import HandS.Flow
import HandS.Wide
import HandS.Deep
import PyProof.ReprRoads
import HandS.Strs
import HandS.Lambda
import HandS.More
import KE.LtData
import KE.DataIsa
import HandS.Style
import HandS.RaiseMore
import KE.DataEq
import KE.KRevSl
import HandS.Iter
import KE.GoesEnum
import HandS.Dict
import PyProof.ReprReads
import PyProof.CallFns
import HandS.Zip
import HandS.Star
import HandS.SetBool
import KE.GoesZip
import KE.GoesMore
import PyProof.CollectWalk
import KE.KDictZip
import PyProof.TupleOfGen
import HandS.DictComp
import PyProof.WalkInts
import HandS.Rev
import PySem.Challenge.RW_backasked_k12_by_hand_led_back
import HandS.EndTab
set_option Elab.async false
set_option linter.all false
set_option maxRecDepth 100000
set_option maxHeartbeats 4100000
set_option exponentiation.threshold 3000
/-! NS1: sets whose elements are tuples of ints, None and such tuples, nested to depth 8: what stands at the set, the search, adding. -/
namespace NS
open PySem PySem.Spec L2
open PySem.SetTable (bits turns below insertAt sizeAbove grown)

/-! ### the elements -/
mutual
/-- no text and no bool matter: whole numbers, None, tuples -/
def bare : NestedKey → Bool
  | .none => true
  | .num _ => true
  | .text _ => false
  | .tup ks => bareAll ks
def bareAll : List NestedKey → Bool
  | [] => true
  | k :: ks => bare k && bareAll ks
end
structure Elt (hp : Heap) (c : NestedKey) (b : Addr) : Prop where
  is : NestedIs hp c (.ref b)
  dp : c.depth ≤ 8
  br : bare c = true
theorem Elt.stay {hp hp' : Heap} {c : NestedKey} {b : Addr} (x : Elt hp c b) (k : ∀ q o vs n, hp.get? q = some o → o.data = .seq vs n → hp'.get? q = some o) : Elt hp' c b :=
  ⟨NestedIs.at k _ _ x.is, x.dp, x.br⟩
theorem Elt.keep {hp hp' : Heap} {c : NestedKey} {b : Addr} (x : Elt hp c b) (k : ∀ q o, hp.get? q = some o → hp'.get? q = some o) : Elt hp' c b := x.stay fun q o _ _ e _ => k q o e
theorem Elt.beside {hp hp' : Heap} {c : NestedKey} {a b : Addr} {o : Obj} {rows : Array (Int × Value)} {e0 : Nat} {tb : SetTable} (x : Elt hp c b) (ho : hp.get? a = some o) (hd : o.data = .set rows e0 tb) (sb : Heap.SameBut a hp hp') : Elt hp' c b :=
  x.stay fun q u vs n e d => (sb.2 q (fun z => by rw [z, ho] at e; cases e; rw [hd] at d; cases d)).trans e
theorem Elt.inj {hp : Heap} {c d : NestedKey} {b : Addr} (x : Elt hp c b) (y : Elt hp d b) : c = d := NestedIs.inj _ _ _ x.is y.is

section
variable {P : Program} {w : World} {A : Around} {E : Value → Shared → Prop} {st : Shared}
mutual
theorem stmt_free : ∀ (c : NestedKey) (v : Value) (n : Nat) (A : Around) (st : Shared) (E : Value → Shared → Prop) (Q : Bool → Shared → Prop), NestedIs st.heap c v → c.depth ≤ n → Q false st → wpAny (model P w) A (ofAClassStatement n v) Q E st
  | .none, v, n, A, st, E, Q, x, _, q => by cases x; cases n <;> exact wpAny_pure q
  | .num i, v, n, A, st, E, Q, x, _, q => by cases x <;> cases n <;> exact wpAny_pure q
  | .text t, v, n, A, st, E, Q, x, _, q => by cases x; cases n <;> exact wpAny_pure q
  | .tup ks, v, 0, A, st, E, Q, x, hn, q => by simp [NestedKey.depth] at hn
  | .tup ks, v, n + 1, A, st, E, Q, x, hn, q => by
    cases x with
    | @tup b o vs m _ h1 h2 h3 h4 =>
      have hT : st.TypeIs (.ref b) "tuple" := ⟨o, h1, h2⟩
      unfold ofAClassStatement; refine wpAny_bind (wpAny_typeOf hT ?_)
      dsimp only
      simp only [show (("tuple" : String) == "tuple") = true by decide, if_true, Bool.not_true, Bool.false_eq_true, if_false]
      try (refine wpAny_bind (wpAny_pure ?_))
      try (simp only [Bool.not_true, Bool.false_eq_true, if_false])
      refine wpAny_bind (wpAny_seqItems h1 h3 ?_)
      dsimp only
      refine wpAny_bind ?_
      rw [← Array.forIn_toList]
      have hd : NestedKey.depthAll ks ≤ n := by simp only [NestedKey.depth] at hn; omega
      refine wpAny_forIn_list _ (fun rest r s' => r.1 = none ∧ s' = st ∧ ∃ cs, NestedAll st.heap cs rest ∧ cs <:+ ks) _ ?_ ?_ _ _ ⟨rfl, rfl, ks, h4, List.suffix_refl ks⟩
      · rintro u rest r s' ⟨hr, rfl, cs, hall, suf⟩
        cases hall with
        | @cons c _ cs' _ g1 g2 =>
          have hc : c ∈ ks := suf.subset List.mem_cons_self
          refine wpAny_bind (stmts_free ks c hc u n A s' E _ g1 (by omega) ?_); simp only [Bool.false_eq_true, if_false]
          exact wpAny_pure ⟨rfl, rfl, cs', g2, (List.suffix_cons c cs').trans suf⟩
      · (rintro ⟨r1, r2⟩ s' ⟨hr, rfl, _⟩)
        simp only at hr
        subst hr
        exact wpAny_pure q
theorem stmts_free : ∀ (ks : List NestedKey) (c : NestedKey), c ∈ ks → ∀ (v : Value) (n : Nat) (A : Around) (st : Shared) (E : Value → Shared → Prop) (Q : Bool → Shared → Prop), NestedIs st.heap c v → NestedKey.depthAll ks ≤ n → Q false st → wpAny (model P w) A (ofAClassStatement n v) Q E st
  | [], c, hc, _, _, _, _, _, _, _, _, _ => by cases hc
  | k :: ks, c, hc, v, n, A, st, E, Q, x, hn, q => by
    (simp only [NestedKey.depthAll] at hn)
    by_cases e : c = k
    · exact stmt_free k v n A st E Q (e ▸ x) (by omega) q
    · exact stmts_free ks c (by rcases List.mem_cons.mp hc with z | z; exact absurd z e; exact z) v n A st E Q x (by omega) q
end
mutual
theorem by_value : ∀ (c : NestedKey) (v : Value) (n : Nat) (A : Around) (st : Shared) (E : Value → Shared → Prop) (Q : Bool → Shared → Prop), NestedIs st.heap c v → c.depth ≤ n → bare c = true → Q true st → wpAny (model P w) A (hashByValue n v) Q E st
  | .none, v, n, A, st, E, Q, x, _, _, q => by cases x; cases n <;> exact wpAny_pure q
  | .num i, v, n, A, st, E, Q, x, _, _, q => by cases x <;> cases n <;> exact wpAny_pure q
  | .text t, v, n, A, st, E, Q, x, _, hb, q => by simp [bare] at hb
  | .tup ks, v, 0, A, st, E, Q, x, hn, _, q => by simp [NestedKey.depth] at hn
  | .tup ks, v, n + 1, A, st, E, Q, x, hn, hb, q => by
    cases x with
    | @tup b o vs m _ h1 h2 h3 h4 =>
      have hT : st.TypeIs (.ref b) "tuple" := ⟨o, h1, h2⟩
      unfold hashByValue; refine wpAny_bind (wpAny_specialOf hT F.slot_tuple_hash.lookup ?_)
      dsimp only
      refine wpAny_bind (wpAny_seqItems h1 h3 ?_)
      refine wpAny_bind ?_
      show wpAny _ _ (forIn vs _ _) _ _ st
      rw [← Array.forIn_toList]
      have hd : NestedKey.depthAll ks ≤ n := by simp only [NestedKey.depth] at hn; omega
      have hb' : bareAll ks = true := by simpa [bare] using hb
      refine wpAny_forIn_list _ (fun rest r s' => r.1 = none ∧ s' = st ∧ ∃ cs, NestedAll st.heap cs rest ∧ cs <:+ ks) _ ?_ ?_ _ _ ⟨rfl, rfl, ks, h4, List.suffix_refl ks⟩
      · rintro u rest r s' ⟨hr, rfl, cs, hall, suf⟩
        cases hall with
        | @cons c _ cs' _ g1 g2 =>
          have hc : c ∈ ks := suf.subset List.mem_cons_self
          refine wpAny_bind (by_values ks c hc u n A s' E _ g1 (by omega) hb' ?_); simp only [Bool.not_true, Bool.false_eq_true, if_false]
          exact wpAny_pure ⟨rfl, rfl, cs', g2, (List.suffix_cons c cs').trans suf⟩
      · (rintro ⟨r1, r2⟩ s' ⟨hr, rfl, _⟩)
        simp only at hr
        subst hr
        exact wpAny_pure q
theorem by_values : ∀ (ks : List NestedKey) (c : NestedKey), c ∈ ks → ∀ (v : Value) (n : Nat) (A : Around) (st : Shared) (E : Value → Shared → Prop) (Q : Bool → Shared → Prop), NestedIs st.heap c v → NestedKey.depthAll ks ≤ n → bareAll ks = true → Q true st → wpAny (model P w) A (hashByValue n v) Q E st
  | [], c, hc, _, _, _, _, _, _, _, _, _, _ => by cases hc
  | k :: ks, c, hc, v, n, A, st, E, Q, x, hn, hb, q => by
    simp only [NestedKey.depthAll] at hn; simp only [bareAll, Bool.and_eq_true] at hb
    by_cases e : c = k
    · exact by_value k v n A st E Q (e ▸ x) (by omega) hb.1 q
    · exact by_values ks c (by rcases List.mem_cons.mp hc with z | z; exact absurd z e; exact z) v n A st E Q x (by omega) hb.2 q
end
/-- the questions that a search asks of two elements tell nothing -/
theorem unseen {c : NestedKey} {b : Addr} (x : Elt st.heap c b) {ys : List Value} (hy : ∀ y ∈ ys, ∃ d q, y = Value.ref q ∧ Elt st.heap d q) {Q : Bool → Shared → Prop} (q : Q false st) : wpAny (model P w) A (searchCouldBeSeen (.ref b) ys) Q E st := by
  unfold searchCouldBeSeen
  refine wpAny_bind ?_
  refine wpAny_forIn_list _ (fun rest r s' => r.1 = none ∧ s' = st ∧ ∀ y ∈ rest, ∃ d q, y = Value.ref q ∧ Elt st.heap d q) _ ?_ ?_ _ _ ⟨rfl, rfl, hy⟩
  · rintro u rest r s' ⟨hr, rfl, all⟩
    obtain ⟨d, z, rfl, y⟩ := all u List.mem_cons_self
    have more : ∀ y ∈ rest, ∃ d q, y = Value.ref q ∧ Elt s'.heap d q := fun v hv => all v (List.mem_cons_of_mem _ hv)
    dsimp only
    by_cases same : (b == z || (carriedByValue (.ref b) && carriedByValue (.ref z))) = true
    · exact wp_if_pos same (wpAny_pure ⟨rfl, rfl, more⟩)
    · refine wp_if_neg same ?_
      refine wpAny_bind ((nestedKind P w).quiet ⟨x.is, x.dp⟩ ?_); simp only [Bool.not_true, Bool.false_eq_true, if_false]
      refine wpAny_bind ((nestedKind P w).quiet ⟨y.is, y.dp⟩ ?_); simp only [Bool.not_true, Bool.false_eq_true, if_false]
      refine wpAny_bind (stmt_free _ _ 8 _ _ _ _ x.is x.dp ?_); simp only [Bool.false_eq_true, if_false]
      refine wpAny_bind (stmt_free _ _ 8 _ _ _ _ y.is y.dp ?_); simp only [Bool.false_eq_true, if_false]
      exact wpAny_pure ⟨rfl, rfl, more⟩
  · (rintro ⟨r1, r2⟩ s' ⟨hr, rfl, _⟩)
    simp only at hr
    subst hr
    exact wpAny_pure q
end
end NS
/-! NS2: the search in such a set, adding to it. -/
namespace NS
open PySem PySem.Spec L2

abbrev El := Addr × NestedKey
abbrev hOf (w : World) (p : El) : Int := p.2.hash w
abbrev rowW (w : World) (p : El) : Int × Value := (p.2.hash w, Value.ref p.1)
/-- at a stands a set with the elements B, in the table's order -/
structure SetN (P : Program) (w : World) (hp : Heap) (a : Addr) (B : List El) (rows : Array (Int × Value)) (e0 : Nat) (tb : SetTable) : Prop where
  obj : ∃ o, hp.get? a = some o ∧ o.ExactSet ∧ o.data = .set rows e0 tb
  rws : rows.toList = B.map (rowW w)
  tab : TabOk tb (B.map (hOf w))
  uni : (B.map (·.2)).Nodup
  els : ∀ p ∈ B, Elt hp p.2 p.1
  pln : tb.plain = true
  ldd : w.params.followText "set-order" = true ∨ tb.led = true
  rom : B.length * 5 < tb.mask * 3
  few : B.length < 64
section
variable {P : Program} {w : World} {A : Around} {E : Value → Shared → Prop} {st : Shared} {a : Addr} {B : List El} {rows : Array (Int × Value)} {e0 : Nat} {tb : SetTable}
theorem SetN.count (Z : SetN P w st.heap a B rows e0 tb) : rows.size = B.length := by
  have q := congrArg List.length Z.rws
  simpa using q
theorem SetN.slots (Z : SetN P w st.heap a B rows e0 tb) : tb.place.toList.length = B.length := by
  have q := Z.tab.sz
  rw [List.length_map] at q
  rw [Array.length_toList]
  exact q
theorem SetN.inTable (Z : SetN P w st.heap a B rows e0 tb) : tb.fits rows.size = true := by
  have q1 := Z.slots
  rw [Array.length_toList] at q1
  have q2 := Z.count
  have q3 := Z.rom; unfold SetTable.fits SetTable.fill
  rw [Z.tab.dm, Bool.and_eq_true, beq_iff_eq, decide_eq_true_eq]
  exact ⟨by omega, by show tb.place.size + 0 ≤ tb.mask; omega⟩
theorem SetN.row (Z : SetN P w st.heap a B rows e0 tb) {i : Nat} {p : El} (q : B[i]? = some p) : rows[i]? = some (rowW w p) := by
  rw [← Array.getElem?_toList, Z.rws, List.getElem?_map, q]
  rfl
theorem SetN.still (Z : SetN P w st.heap a B rows e0 tb) : ¬ tb.gaveWay = true := by
  unfold SetTable.gaveWay
  rw [mask_odd Z.tab.mok]
  decide
/-- the c-th look of the search for a hash -/
abbrev look (tb : SetTable) (hc : Int) (c : Nat) : SetTable.Probe := nth tb.mask (runAt tb.mask (SetTable.bits hc % (tb.mask + 1)) (SetTable.bits hc)) c
theorem look_on (tb : SetTable) (hc : Int) (c q : Nat) : nth tb.mask (look tb hc c) q = look tb hc (c + q) := (nth_add tb.mask c _ q).symm
theorem look_clean (tb : SetTable) (hc : Int) (c : Nat) : (look tb hc c).dummy = none := by
  have gen : ∀ (n : Nat) (p : SetTable.Probe), p.dummy = none → (nth tb.mask p n).dummy = none := by
    intro n
    induction n with
    | zero => exact fun _ e => e
    | succ n ih =>
      intro p e
      refine ih (adv tb.mask p) ?_
      unfold adv
      split <;> exact e
  exact gen c _ rfl
/-- from the c-th look on; K: the first empty slot on the way -/
theorem seek (Z : SetN P w st.heap a B rows e0 tb) {b : Addr} {k : NestedKey} (x : Elt st.heap k b) (hu : A.units + 8 < cLine) {adding : Bool} {K : Nat} (hKf : K < 10 * SetTable.turns tb.mask)
    (hK : way tb.mask (k.hash w) K ∉ tb.place.toList) (hKb : ∀ c, c < K → way tb.mask (k.hash w) c ∈ tb.place.toList) {Q : SetFound → Shared → Prop}
    (yes : ∀ r : Option Nat, (adding = true ∨ r.isSome = true) → k ∈ B.map (·.2) → Q (.there r) st) (no : k ∉ B.map (·.2) → Q (.free (way tb.mask (k.hash w) K) false) st) :
    ∀ (fuel c : Nat) (stand : Option SetTable.Probe), stand.getD (tb.probeStart (k.hash w)) = look tb (k.hash w) c → c ≤ K → K - c < fuel →
      (∀ (i : Nat) (p : El), B[i]? = some p → p.2 = k → ∃ c', c ≤ c' ∧ c' < K ∧ tb.place.toList[i]? = some (way tb.mask (k.hash w) c')) →
      wpAny (model P w) A (setSearchFrom a (.ref b) (k.hash w) adding fuel stand) Q E st
  | 0, c, stand, _, _, hf, _ => (absurd hf (Nat.not_lt_zero _))
  | fuel + 1, c, stand, hst, hc, hf, ahead => by
    obtain ⟨o, ho, hex, hd⟩ := Z.obj
    rw [setSearchFrom_succ]
    refine wpAny_bind (wpAny_setState_of ho hd Z.inTable ?_)
    dsimp only
    refine wp_if_neg Z.still ?_
    try (refine wpAny_bind (wpAny_pure ?_))
    have place : ∀ q, (nth tb.mask (look tb (k.hash w) c) q).j = way tb.mask (k.hash w) (c + q) := fun q => congrArg SetTable.Probe.j (look_on tb (k.hash w) c q)
    have rowHash : ∀ (i : Nat) (p : El), B[i]? = some p → (fun i => (rows[i]?.map (·.1)).getD 0) i = p.2.hash w := fun i p hp => by
      show (rows[i]?.map (·.1)).getD 0 = _
      rw [Z.row hp]
      rfl
    have met := go_spec tb Z.tab.ris Z.tab.dm (fun i => (rows[i]?.map (·.1)).getD 0) (k.hash w) (10 * SetTable.turns tb.mask) (K - c) (look tb (k.hash w) c) (look_clean tb _ c) (by omega)
      (fun q hq => by rw [place]; exact hKb (c + q) (by omega)) (by rw [place, show c + (K - c) = K by omega]; exact hK)
    rcases met with ⟨q, i, hq, hi, hh, before, found⟩ | ⟨before, found⟩
    · -- a row with this hash
      have found' : tb.probe (fun i => (rows[i]?.map (·.1)).getD 0) (k.hash w) (stand.getD (tb.probeStart (k.hash w))) = some (.candidate (way tb.mask (k.hash w) (c + q)) i (look tb (k.hash w) (c + (q + 1)))) := by
        rw [hst, ← place, ← look_on]
        exact found
      rw [found']
      dsimp only
      rw [place] at hi
      have hiB : i < B.length := by rw [← Z.slots]; exact (List.getElem?_eq_some_iff.mp hi).1
      obtain ⟨p, hp⟩ : ∃ p, B[i]? = some p := ⟨B[i], List.getElem?_eq_getElem hiB⟩
      have hpB : p ∈ B := List.mem_of_getElem? hp
      have y := Z.els p hpB
      have live : tb.slot (way tb.mask (k.hash w) (c + q)) = .live i := slot_live Z.tab.ris hi
      have rest : wpAny (model P w) A (searchRest a (.ref b) (k.hash w) adding fuel rows tb (way tb.mask (k.hash w) (c + q)) i (look tb (k.hash w) (c + (q + 1)))) Q E st := by
        unfold searchRest
        rw [Z.row hp]
        dsimp only
        refine wpAny_bind (wpAny_holding ((nestedKind P w).eqBool (show A.units + 8 < cLine from hu) ⟨y.is, y.dp⟩ ⟨x.is, x.dp⟩ ?_))
        refine wpAny_bind (wpAny_setState_of ho hd Z.inTable ?_)
        dsimp only
        by_cases same : p.2 = k
        · have inB : k ∈ B.map (·.2) := List.mem_map.mpr ⟨p, hpB, same⟩
          rw [decide_eq_true same]
          cases adding with
          | true =>
            refine wp_if_pos rfl ?_
            exact wpAny_pure (yes none (.inl rfl) inB)
          | false =>
            refine wp_if_neg (by decide) ?_
            try (refine wpAny_bind (wpAny_pure ?_))
            rw [sameMem]
            dsimp only
            simp only [if_true, live, Z.row hp]; refine wpAny_bind (wpAny_isSame_ref_self (wpAny_bind (wpAny_pure ?_)))
            simp only [if_true]
            exact wpAny_pure (yes (some i) (.inr rfl) inB)
        · rw [decide_eq_false same]
          refine wp_if_neg (by simp) ?_
          try (refine wpAny_bind (wpAny_pure ?_))
          rw [sameMem]
          dsimp only
          simp only [if_true, live, Z.row hp]; refine wpAny_bind (wpAny_isSame_ref_self (wpAny_bind (wpAny_pure ?_)))
          simp only [if_true]
          refine wp_if_neg (by decide) ?_
          refine seek Z x hu hKf hK hKb yes no fuel (c + (q + 1)) (some _) rfl (by omega) (by omega) fun i1 p1 h1 e1 => ?_
          obtain ⟨c', g1, g2, g3⟩ := ahead i1 p1 h1 e1
          refine ⟨c', ?_, g2, g3⟩
          -- none with this key lies behind
          rcases Nat.lt_trichotomy c' (c + q) with z | z | z
          · refine absurd ((rowHash i1 p1 h1).trans (congrArg (·.hash w) e1)) (before (c' - c) i1 (by omega) ?_)
            rw [place, show c + (c' - c) = c' by omega]
            exact g3
          · rw [z] at g3
            have live1 := slot_live Z.tab.ris g3
            rw [live] at live1
            injection live1 with ei
            rw [← ei, hp] at h1
            exact absurd ((congrArg Prod.snd (Option.some.inj h1)).trans e1) same
          · omega
      by_cases hl : tb.led = true
      · (refine wp_if_neg (by simp [hl]) ?_)
        try (refine wpAny_bind (wpAny_pure ?_))
        exact rest
      · (refine wp_if_pos (by simp [hl]) ?_)
        refine wpAny_bind (unseen x (fun u hu' => ?_) ?_)
        · obtain ⟨r, hr, er⟩ := List.mem_map.mp hu'
          have hr1 : r ∈ rows ∧ r.1 = k.hash w := by simpa using hr
          have hr2 : r ∈ rows.toList := by simpa using hr1.1
          rw [Z.rws] at hr2
          obtain ⟨p2, hp2, e2⟩ := List.mem_map.mp hr2
          exact ⟨p2.2, p2.1, by rw [← er, ← e2], Z.els p2 hp2⟩
        · (refine wp_if_neg (by decide) ?_)
          try (refine wpAny_bind (wpAny_pure ?_))
          exact rest
    · -- an empty slot
      have found' : tb.probe (fun i => (rows[i]?.map (·.1)).getD 0) (k.hash w) (stand.getD (tb.probeStart (k.hash w))) = some (.empty (way tb.mask (k.hash w) K) none) := by
        have e2 : way tb.mask (k.hash w) K = (nth tb.mask (look tb (k.hash w) c) (K - c)).j := by rw [place, show c + (K - c) = K by omega]
        rw [hst, e2]
        exact found
      rw [found']
      dsimp only
      refine wpAny_pure (no fun hm => ?_)
      obtain ⟨p, hpB, ep⟩ := List.mem_map.mp hm
      obtain ⟨i, hi, ei⟩ := List.getElem_of_mem hpB
      have hp : B[i]? = some p := by rw [List.getElem?_eq_getElem hi, ei]
      obtain ⟨c', g1, g2, g3⟩ := ahead i p hp ep
      refine absurd ((rowHash i p hp).trans (congrArg (·.hash w) ep)) (before (c' - c) i (by omega) ?_)
      rw [place, show c + (c' - c) = c' by omega]
      exact g3
/-- the search as the set's own functions ask for it -/
theorem sought (Z : SetN P w st.heap a B rows e0 tb) {b : Addr} {k : NestedKey} (x : Elt st.heap k b) (hu : A.units + 8 < cLine) {adding : Bool} {Q : SetFound → Shared → Prop}
    (yes : ∀ r : Option Nat, (adding = true ∨ r.isSome = true) → k ∈ B.map (·.2) → Q (.there r) st)
    (no : ∀ K, k ∉ B.map (·.2) → way tb.mask (k.hash w) K ∉ tb.place.toList → (∀ c, c < K → way tb.mask (k.hash w) c ∈ tb.place.toList) → Q (.free (way tb.mask (k.hash w) K) false) st) :
    wpAny (model P w) A (setSearch a (.ref b) (k.hash w) adding) Q E st := by
  have hr := Z.rom
  obtain ⟨K, hKf, hK, hKb⟩ := Z.tab.first (by rw [List.length_map]; omega) (k.hash w)
  have small : 10 * SetTable.turns tb.mask ≤ 1420 := by
    unfold SetTable.turns
    rcases Z.tab.mok with e | e | e <;> omega
  unfold setSearch
  refine seek Z x hu hKf hK hKb yes (fun hn => no K hn hK hKb) 100000 0 none rfl (Nat.zero_le _) (by omega) fun i p hp ep => ?_
  have e1 : (B.map (hOf w))[i]? = some (k.hash w) := by
    rw [List.getElem?_map, hp, ← ep]
    rfl
  have hi : i < tb.place.toList.length := by rw [Z.slots]; exact (List.getElem?_eq_some_iff.mp hp).1
  have hj := List.getElem?_eq_getElem hi
  obtain ⟨c, hc, e⟩ := Z.tab.before hK e1 hj; exact ⟨c, Nat.zero_le _, hc, by rw [hj, e]⟩
end
end NS
/-! NS3: adding, laying anew, set(list). -/
namespace NS
open PySem PySem.Spec L2
section
variable {P : Program} {w : World} {A : Around} {E : Value → Shared → Prop} {st : Shared} {a : Addr} {B : List El} {rows : Array (Int × Value)} {e0 : Nat} {tb : SetTable}
/-- rows picked by an order that is a permutation of all places -/
theorem picked (B : List El) (rows : Array (Int × Value)) (ord : Array Nat) (hr : rows.toList = B.map (rowW w)) (hp : ord.toList.Perm (List.range B.length)) :
    ∃ B2 : List El, (ord.filterMap (rows[·]?)).toList = B2.map (rowW w) ∧ B2.Perm B ∧ B2.map (hOf w) = ord.toList.map fun i => (rows.map (·.1)).getD i 0 := by
  have at_ : ∀ i, rows[i]? = (B[i]?).map (rowW w) := fun i => by rw [← Array.getElem?_toList, hr, List.getElem?_map]
  have part : ∀ l : List Nat, (∀ i ∈ l, i < B.length) → l.filterMap (fun i => rows[i]?) = (l.filterMap fun i => B[i]?).map (rowW w) ∧ (l.filterMap fun i => B[i]?).map (hOf w) = l.map fun i => (rows.map (·.1)).getD i 0 := by
    intro l
    induction l with
    | nil => exact fun _ => ⟨rfl, rfl⟩
    | cons i l ih =>
      intro all
      obtain ⟨g1, g2⟩ := ih fun j hj => all j (List.mem_cons_of_mem _ hj)
      obtain ⟨p, hi⟩ : ∃ p, B[i]? = some p := ⟨_, List.getElem?_eq_getElem (all i List.mem_cons_self)⟩
      have hri : rows[i]? = some (rowW w p) := by rw [at_, hi]; rfl
      have h0 : (rows.map (·.1)).getD i 0 = hOf w p := by
        have q : (rows.map (·.1))[i]? = some (hOf w p) := by rw [Array.getElem?_map, hri]; rfl
        simp [Array.getD_eq_getD_getElem?, q]
      exact ⟨by rw [List.filterMap_cons_some hri, List.filterMap_cons_some hi, g1, List.map_cons], by rw [List.filterMap_cons_some hi, List.map_cons, List.map_cons, g2, h0]⟩
  have whole : ∀ n, n ≤ B.length → (List.range n).filterMap (fun i => B[i]?) = B.take n := by
    intro n
    induction n with
    | zero => exact fun _ => by simp
    | succ n ih =>
      intro hn
      rw [List.range_succ, List.filterMap_append, ih (Nat.le_of_lt hn), List.take_succ]
      simp only [List.filterMap_cons, List.filterMap_nil]
      cases B[n]? <;> rfl
  obtain ⟨g1, g2⟩ := part ord.toList fun i hi => List.mem_range.mp (hp.mem_iff.mp hi)
  refine ⟨_, by first | (rw [Array.toList_filterMap]; exact g1) | simpa using g1, ?_, g2⟩
  have q := hp.filterMap (fun i => B[i]?)
  rwa [whole B.length (Nat.le_refl _), List.take_length] at q
/-- what stands in the set where its table is laid anew -/
structure Loose (P : Program) (w : World) (hp : Heap) (a : Addr) (B : List El) (rows : Array (Int × Value)) (e0 : Nat) (tb : SetTable) : Prop where
  obj : ∃ o, hp.get? a = some o ∧ o.ExactSet ∧ o.data = .set rows e0 tb
  rws : rows.toList = B.map (rowW w)
  siz : tb.place.size = rows.size
  dum : tb.dummies = #[]
  low : rows.size ≤ tb.mask
  uni : (B.map (·.2)).Nodup
  els : ∀ p ∈ B, Elt hp p.2 p.1
  pln : tb.plain = true
  ldd : w.params.followText "set-order" = true ∨ tb.led = true
  few : B.length < 64
theorem relaid_at (Z : Loose P w st.heap a B rows e0 tb) {wanted N : Nat} (hw : SetTable.sizeAbove wanted - 1 = N) (hN : MaskOk N) (hw2 : SetTable.sizeAbove wanted ≤ 128) (hn : B.length * 5 < N * 3) {Q : Unit → Shared → Prop}
    (hQ : ∀ h' B' rows' e' tb', Heap.SameBut a st.heap h' → SetN P w h' a B' rows' e' tb' → B'.Perm B → Q () { st with heap := h' }) : wpAny (model P w) A (setRelay a wanted) Q E st := by
  obtain ⟨o, ho, hex, hd⟩ := Z.obj
  have cnt : rows.size = B.length := by simpa using congrArg List.length Z.rws
  have fits : tb.fits rows.size = true := by
    have q1 := Z.siz
    have q2 := Z.low; unfold SetTable.fits SetTable.fill
    rw [Z.dum, Bool.and_eq_true, beq_iff_eq, decide_eq_true_eq]
    exact ⟨q1, by show tb.place.size + 0 ≤ tb.mask; omega⟩
  obtain ⟨tb', ord, laid, perm, T, em, el, ep', ed⟩ := relaid_ok tb (hs := rows.map (·.1)) (wanted := wanted) hw hN (by rw [Array.size_map, cnt]; omega)
  rw [Array.size_map, cnt] at perm
  obtain ⟨B2, g1, g2, g3⟩ := picked (w := w) B rows ord Z.rws perm
  rw [← g3] at T
  have cnt2 : (ord.filterMap (rows[·]?)).size = rows.size := by
    have q := congrArg List.length g1
    rw [Array.length_toList, List.length_map, g2.length_eq] at q
    omega
  rw [setRelay_eq]
  refine wpAny_bind (wpAny_setState_of ho hd fits ?_)
  dsimp only; refine wp_if_neg (by rw [sizeLine_eq]; omega) ?_
  try (refine wpAny_bind (wpAny_pure ?_))
  rw [laid]
  dsimp only
  refine wpAny_bind ?_
  refine wp_if_neg (by rw [cnt2]; simp) ?_
  try (refine wpAny_bind (wpAny_pure ?_))
  refine wpAny_pure ?_
  dsimp only
  have hf := Z.few
  refine wpAny_storeSet_of ho hd ?_ (by rw [cnt2, cnt, sizeLine_eq]; omega)
  have sb : Heap.SameBut a st.heap (st.heap.update a (Obj.putSet (ord.filterMap (rows[·]?)) tb')) := Heap.SameBut.update ..
  refine hQ _ B2 (ord.filterMap (rows[·]?)) (e0 + 1) tb' sb ?_ g2
  exact { obj := ⟨_, store_at ho hd, ⟨hex.1, hex.2.1, hex.2.2⟩, rfl⟩, rws := g1, tab := T, uni := (g2.map (·.2)).nodup_iff.mpr Z.uni,
          els := fun p hpm => (Z.els p (g2.mem_iff.mp hpm)).beside ho hd sb, pln := by rw [ep']; exact Z.pln, ldd := by rw [el]; exact Z.ldd, rom := by rw [g2.length_eq, em]; exact hn, few := by rw [g2.length_eq]; exact hf }
/-- an element is put in, where it isn't yet -/
theorem added (Z : SetN P w st.heap a B rows e0 tb) {b : Addr} {k : NestedKey} (x : Elt st.heap k b) (hu : A.units + 8 < cLine) (room : B.length + 1 < 64) {Q : Bool → Shared → Prop}
    (hQ : ∀ r h' B' rows' e' tb', Heap.SameBut a st.heap h' → SetN P w h' a B' rows' e' tb' → (k ∈ B.map (·.2) → B' = B) → (k ∉ B.map (·.2) → B'.Perm ((b, k) :: B)) → Q r { st with heap := h' }) :
    wpAny (model P w) A (setAddHashed a (.ref b) (k.hash w)) Q E st := by
  obtain ⟨o, ho, hex, hd⟩ := Z.obj
  have cnt := Z.count
  have hroom := Z.rom
  unfold setAddHashed
  refine wpAny_holding ?_; rw [show (100000 : Nat) = 99999 + 1 from rfl, setAddHashedIn_succ]
  refine wpAny_bind (wpAny_setState_of ho hd Z.inTable ?_)
  dsimp only; refine wp_if_neg (by simp [byScan, Value.scannable]) ?_
  try (refine wpAny_bind (wpAny_pure ?_))
  refine wpAny_bind (sought Z x hu (fun r _ hm => ?_) fun K hm hK hKb => ?_)
  · dsimp only
    exact wpAny_pure (hQ false st.heap B rows e0 tb (Heap.SameBut.refl a st.heap) Z (fun _ => rfl) fun z => absurd hm z)
  · dsimp only
    refine wpAny_bind (wpAny_setState_of ho hd Z.inTable ?_)
    dsimp only
    obtain ⟨t1, t2, t3, t4, t5, t6, t7, t8, t9⟩ := Z.tab.put hK hKb
    have pl1 : (tb.put (way tb.mask (k.hash w) K)).1.plain = true := by rw [t6]; exact Z.pln
    generalize epb : tb.put (way tb.mask (k.hash w) K) = pb at t1 t3 t4 t5 t6 t7 t8 t9 pl1 ⊢
    obtain ⟨tb1, j⟩ := pb
    dsimp only at t1 t3 t4 t5 t6 t7 t8 t9 pl1 ⊢
    subst t1
    first
      | (refine wpAny_bind ?_; refine wp_if_pos pl1 ?_; refine by_value _ _ 8 _ _ _ _ x.is x.dp x.br ?_)
      | refine wp_if_pos pl1 (wpAny_bind (by_value _ _ 8 _ _ _ _ x.is x.dp x.br ?_))
    simp only [if_true]
    generalize ej : SetTable.below tb.place (way tb.mask (k.hash w) K) = j at t2 t3 ⊢
    -- the elements, the new one among them
    obtain ⟨B1, eB1⟩ : ∃ B1 : List El, B1 = B.take j ++ (b, k) :: B.drop j := ⟨_, rfl⟩
    have pm : B1.Perm ((b, k) :: B) := by
      rw [eB1]
      have q : (B.take j ++ (b, k) :: B.drop j).Perm ((b, k) :: (B.take j ++ B.drop j)) := List.perm_middle
      rwa [List.take_append_drop] at q
    have len1 : B1.length = B.length + 1 := by simpa using pm.length_eq
    have rws1 : (SetTable.insertAt rows j (k.hash w, Value.ref b)).toList = B1.map (rowW w) := by
      rw [SetTable.toList_insertAt, Z.rws, eB1, List.map_append, List.map_cons, List.map_take, List.map_drop]
    have tab1 : TabOk tb1 (B1.map (hOf w)) := by
      rw [eB1, List.map_append, List.map_cons, List.map_take, List.map_drop]
      exact t3
    have uni1 : (B1.map (·.2)).Nodup := by
      refine (pm.map (·.2)).nodup_iff.mpr ?_; rw [List.map_cons]
      exact List.nodup_cons.mpr ⟨hm, Z.uni⟩
    have cnt1 : (SetTable.insertAt rows j (k.hash w, Value.ref b)).size = B.length + 1 := by
      have q := congrArg List.length rws1; rw [Array.length_toList, List.length_map] at q
      omega
    generalize SetTable.insertAt rows j (k.hash w, Value.ref b) = rows1 at rws1 cnt1 ⊢
    refine wpAny_bind (wpAny_storeSet_of ho hd ?_ (by rw [cnt1, sizeLine_eq]; omega))
    have sb : Heap.SameBut a st.heap (st.heap.update a (Obj.putSet rows1 tb1)) := Heap.SameBut.update ..
    have ho1 := store_at (es' := rows1) (t' := tb1) ho hd
    generalize st.heap.update a (Obj.putSet rows1 tb1) = h1 at sb ho1 ⊢
    have els1 : ∀ p ∈ B1, Elt h1 p.2 p.1 := fun p hp => by
      rcases List.mem_cons.mp (pm.mem_iff.mp hp) with z | z
      · rw [z]; exact x.beside ho hd sb
      · exact (Z.els p z).beside ho hd sb
    have ldd1 : w.params.followText "set-order" = true ∨ tb1.led = true := by rw [t5]; exact Z.ldd
    have siz1 : tb1.place.size = rows1.size := by
      have q := tab1.sz
      rw [List.length_map, len1] at q
      omega
    by_cases full : tb1.tooFull = true
    · first
        | (refine wpAny_bind ?_; refine wp_if_pos (by simp [full]) ?_)
        | (refine wp_if_pos (by simp [full]) ?_; refine wpAny_bind ?_)
      have many : (B.length + 1) * 5 ≥ tb1.mask * 3 := by
        have q := full
        unfold SetTable.tooFull at q
        rwa [decide_eq_true_eq, t9, List.length_map] at q
      rw [cnt]
      have anew : ∀ N, SetTable.sizeAbove (SetTable.grown (B.length + 1)) - 1 = N → MaskOk N → SetTable.sizeAbove (SetTable.grown (B.length + 1)) ≤ 128 → (B.length + 1) * 5 < N * 3 →
          wpAny (model P w) A (setRelay a (SetTable.grown (B.length + 1))) (fun _ s' => wpAny (model P w) A (pure true) Q E s') E { st with heap := h1 } := fun N w1 w2 w3 w4 => by
        refine relaid_at (st := { st with heap := h1 }) (B := B1) (rows := rows1) (tb := tb1) ⟨⟨_, ho1, ⟨hex.1, hex.2.1, hex.2.2⟩, rfl⟩, rws1, siz1, tab1.dm, ?_, uni1, els1, pl1, ldd1, by omega⟩ w1 w2 w3 (by rw [len1]; exact w4) ?_
        · rw [cnt1, t4]
          omega
        · exact fun h2 B2 rows2 e2 tb2 sb2 Z2 pm2 => wpAny_pure (hQ true h2 B2 rows2 e2 tb2 (sb.trans sb2) Z2 (fun z => absurd z hm) fun _ => pm2.trans pm)
      rcases Z.tab.mok with e | e | e
      · have e2 : B.length = 4 := by rw [t4, e] at many; rw [e] at hroom; omega
        exact anew 31 (by rw [e2, size_20]) (.inr (.inl rfl)) (by rw [e2, size_20]; decide) (by omega)
      · have e2 : B.length = 18 := by rw [t4, e] at many; rw [e] at hroom; omega
        exact anew 127 (by rw [e2, size_76]) (.inr (.inr rfl)) (by rw [e2, size_76]; decide) (by omega)
      · exfalso
        rw [t4, e] at many
        omega
    · first
        | refine wp_if_neg (by simp [full]) ?_
        | (refine wpAny_bind ?_; refine wp_if_neg (by simp [full]) ?_; refine wpAny_pure ?_)
      refine wpAny_pure (hQ true h1 B1 rows1 (e0 + 1) tb1 sb { obj := ⟨_, ho1, ⟨hex.1, hex.2.1, hex.2.2⟩, rfl⟩, rws := rws1, tab := tab1, uni := uni1, els := els1, pln := pl1, ldd := ldd1, rom := ?_, few := by omega } (fun z => absurd z hm) fun _ => pm)
      have q := full
      unfold SetTable.tooFull at q
      rw [decide_eq_true_eq, t9, List.length_map] at q
      rw [len1]
      omega
end
end NS
/-! NS4: set(list), set(tuple). -/
namespace NS
open L2 PyProof.Rows PySem PySem.Spec
section
variable {P : Program} {w : World} {A : Around} {E : Value → Shared → Prop} {st : Shared}
theorem SetN.at {h h' : Heap} {a : Addr} {B : List El} {rows : Array (Int × Value)} {e0 : Nat} {tb : SetTable} (Z : SetN P w h a B rows e0 tb) (ha : ∀ o, h.get? a = some o → h'.get? a = some o) (he : ∀ p ∈ B, Elt h' p.2 p.1) : SetN P w h' a B rows e0 tb := by
  obtain ⟨o, ho, r⟩ := Z.obj
  exact ⟨⟨o, ha o ho, r⟩, Z.rws, Z.tab, Z.uni, he, Z.pln, Z.ldd, Z.rom, Z.few⟩
abbrev emptySet (w : World) : Obj := { cls := .type "set", dict := none, data := .set #[] 0 (.fresh 0 0 (!w.params.followText "set-order")) }
theorem setN_new {h : Heap} {a : Addr} (ho : h.get? a = some (emptySet w)) : SetN P w h a [] #[] 0 (.fresh 0 0 (!w.params.followText "set-order")) where
  obj := ⟨_, ho, ⟨rfl, rfl, rfl⟩, rfl⟩
  rws := rfl
  tab := (⟨List.Pairwise.nil, rfl, rfl, .inl rfl, fun x hx => (by cases hx), fun i h j hi => (by simp at hi)⟩)
  uni := List.nodup_nil
  els := fun p hp => (by cases hp)
  pln := rfl
  ldd := by
    show _ ∨ (!w.params.followText "set-order") = true; cases w.params.followText "set-order"
    · exact .inr rfl
    · exact .inl rfl
  rom := by
    show 0 * 5 < 7 * 3
    decide
  few := by
    show 0 < 64
    decide
/-- what has come in from the first i of ks -/
structure In (ks : List El) (i : Nat) (B : List El) : Prop where
  of : ∀ p ∈ B, p ∈ ks.take i
  has : ∀ p ∈ ks.take i, p.2 ∈ B.map (·.2)
  len : B.length ≤ i
theorem take_more {α : Type} {l : List α} {i : Nat} {x : α} (h : l[i]? = some x) : l.take (i + 1) = l.take i ++ [x] := by
  rw [List.take_succ, h]
  rfl
theorem In.next {ks B B' : List El} {i : Nat} {x : El} (g : In ks i B) (h : ks[i]? = some x) (c1 : x.2 ∈ B.map (·.2) → B' = B) (c2 : x.2 ∉ B.map (·.2) → B'.Perm (x :: B)) : In ks (i + 1) B' := by
  have e := take_more h
  by_cases c : x.2 ∈ B.map (·.2)
  · rw [c1 c]
    (refine ⟨fun p hp => ?_, fun p hp => ?_, Nat.le_succ_of_le g.len⟩)
    · rw [e]; exact List.mem_append_left _ (g.of p hp)
    · rw [e] at hp
      rcases (List.mem_append.mp hp) with z | z
      · exact g.has p z
      · rw [List.mem_singleton.mp z]; exact c
  · have pm := c2 c
    (refine ⟨fun p hp => ?_, fun p hp => ?_, ?_⟩)
    · rw [e]
      rcases List.mem_cons.mp (pm.mem_iff.mp hp) with z | z
      · rw [z]; simp
      · exact List.mem_append_left _ (g.of p z)
    · rw [e] at hp
      refine (pm.map (·.2)).mem_iff.mpr ?_
      rw [List.map_cons]; rcases List.mem_append.mp hp with z | z
      · exact List.mem_cons_of_mem _ (g.has p z)
      · (rw [List.mem_singleton.mp z]; exact List.mem_cons_self)
    · rw [pm.length_eq]
      exact Nat.succ_le_succ g.len
/-- the loop of set.update, over any walk -/
theorem updated {I : Addr} {fp wr : List Addr} {G : Array GenState → Array GenState → Prop} {n : Nat} {Pv : Nat → Value → Prop} {St : Nat → Shared → Prop} {R : Result → Shared → Prop}
    (W : WalksS P w A.in1 I fp wr G n Pv St) (S : Addr) (hSf : S ∉ fp) (ks : List El) (hn : n = ks.length) (few : ks.length < 64) (val : ∀ i v, Pv i v → ∃ p, ks[i]? = some p ∧ v = .ref p.1)
    (h0 : Heap) (hk : ∀ p ∈ ks, Elt h0 p.2 p.1) (hS0 : h0.get? S = none) (hw0 : ∀ b ∈ wr, h0.get? b = none) (hu : A.in1.units + 8 < cLine) :
    ∀ (m i : Nat) (s : Shared), n - i = m → i ≤ n → St i s → (∀ b o, h0.get? b = some o → s.heap.get? b = some o) → (∃ B rows e0 tb, SetN P w s.heap S B rows e0 tb ∧ In ks i B) →
      (∀ s' B rows e0 tb, Moved (S :: wr) G s s' → SetN P w s'.heap S B rows e0 tb → In ks n B → (∀ b o, h0.get? b = some o → s'.heap.get? b = some o) → R (.ok (.ret .none)) s') → codeAny (model P w) A (.builtin "set.update.loop" ⟨[.ref S, .ref I], []⟩) R s := by
  have notW : S ∉ wr := fun z => hSf (W.sub _ z)
  have wider : ∀ b ∈ wr, b ∈ S :: wr := fun b hb => List.mem_cons_of_mem _ hb
  have stays : ∀ {s s' : Shared}, Moved wr G s s' → (∀ b o, h0.get? b = some o → s.heap.get? b = some o) → ∀ b o, h0.get? b = some o → s'.heap.get? b = some o := fun hm k0 b o e =>
    hm.heap b o (fun z => by rw [hw0 b z] at e; cases e) (k0 b o e)
  intro m
  induction m with
  | zero =>
    intro i s hm' hi at_i k0 ⟨B, rows, e0, tb, Z, g⟩ fin
    obtain rfl : i = n := by omega
    refine codeAny_builtin F.entry_set_update_loop ?_; rw [Around.under_plainId F.plain_set_update_loop _]
    refine wpAny_bind (W.done s _ _ at_i fun s' mv => ?_)
    have k1 := stays mv k0
    exact wpAny_pure (fin s' B rows e0 tb (mv.mono wider) (Z.at (fun o e => mv.heap S o notW e) fun p hp => (hk p (List.mem_of_mem_take (g.of p hp))).keep k1) g k1)
  | succ m ih =>
    intro i s hm' hi at_i k0 ⟨B, rows, e0, tb, Z, g⟩ fin
    have lt : i < n := by omega
    refine codeAny_builtin F.entry_set_update_loop ?_; rw [Around.under_plainId F.plain_set_update_loop _]
    refine wpAny_bind (W.item i s _ _ lt at_i fun v s' hv at_n mv => ?_)
    obtain ⟨p, hp, rfl⟩ := val i v hv
    have k1 := stays mv k0
    have Z1 : SetN P w s'.heap S B rows e0 tb := Z.at (fun o e => mv.heap S o notW e) fun q hq => (hk q (List.mem_of_mem_take (g.of q hq))).keep k1
    have x : Elt s'.heap p.2 p.1 := (hk p (List.mem_of_getElem? hp)).keep k1; show wpAny _ A.in1 (holding [Value.ref p.1] (setAdd S (.ref p.1)) >>= _) _ _ s'; refine wpAny_bind (wpAny_holding ?_)
    unfold setAdd
    refine wpAny_holding ?_
    refine wpAny_bind ((nestedKind P w).pyHash (show A.in1.units + 8 < cLine from hu) ⟨x.is, x.dp⟩ ?_)
    refine added (st := { s' with toks := s'.toks + (nestedKind P w).draws p.2 }) Z1 x hu (by have := g.len; omega) fun r h' B' rows' e' tb' sb Z2 c1 c2 => ?_
    have k2 : ∀ b o, h0.get? b = some o → h'.get? b = some o := fun b o e => (sb.2 b (fun z => by rw [z, hS0] at e; cases e)).trans (k1 b o e)
    refine wpAny_pure ⟨plainId_quiet F.plain_set_update_loop _, ih (i + 1) _ (by omega) lt (W.frame _ s' _ _ at_n (Nat.le_add_right _ _) fun b hb o e => ?_) k2 ⟨B', rows', e', tb', Z2, g.next hp c1 c2⟩ fun s2 B2 rows2 e2 tb2 mv2 Z3 g3 k3 => ?_⟩
    · rw [sb.2 b (fun z : b = S => hSf (by rw [← z]; exact hb))]
      exact e
    · refine fin s2 B2 rows2 e2 tb2 (Moved.trans W.gtrans ((mv.mono wider).then_heap (Nat.le_add_right _ _) fun b o hb e => ?_) mv2) Z3 g3 k3
      rw [sb.2 b (fun z : b = S => hb (by rw [z]; exact List.mem_cons_self))]
      exact e
end
end NS
/-! NS6: sorted(set), x in set. -/
namespace NS
open L2 PyProof.Rows PySem PySem.Spec
section
variable {P : Program} {w : World} {A : Around} {E : Value → Shared → Prop} {st : Shared} {a : Addr} {B : List El} {rows : Array (Int × Value)} {e0 : Nat} {tb : SetTable}
theorem each_of {R : Value → El → Prop} : ∀ {L : List El}, (∀ p ∈ L, R (.ref p.1) p) → W.EachIs R (L.map fun p => Value.ref p.1) L
  | [], _ => .nil
  | _ :: _, all => .cons (all _ List.mem_cons_self) (each_of fun q hq => all q (List.mem_cons_of_mem _ hq))
theorem of_each : ∀ {vs : List Value} {L : List El}, W.EachIs (fun v (p : El) => v = .ref p.1) vs L → vs = L.map fun p => Value.ref p.1
  | _, _, .nil => rfl
  | _, _, .cons e t => by rw [e, of_each t, List.map_cons]
/-- sorted(s): the data of the elements, sorted -/
theorem sorted_of {enc : El → PyData} (Z : SetN P w st.heap a B rows e0 tb) (hh : A.handled = none) (rd : ∀ p ∈ B, ∃ as, Reads st.heap (.ref p.1) (enc p) as) (nl : ∀ p ∈ B, ∀ as, Reads st.heap (.ref p.1) (enc p) as → as = [])
    (al : W.AllAlike (B.map enc)) (so : W.Sortable (B.map enc)) (hu : ∀ p ∈ B, A.units + 3 + (enc p).depth < cLine) {Q : Value → Shared → Prop}
    (fin : ∀ s' q (L : List El) (c : Nat), (∀ b o, st.heap.get? b = some o → s'.heap.get? b = some o) → s'.gens = st.gens → s'.os = st.os → st.heap.objs.size ≤ q → L.Perm B →
      s'.heap.get? q = some (seqObj "list" ((L.mergeSort (W.dataLe false enc)).map fun p => Value.ref p.1).toArray c) → Q (.ref q) s') :
    wpAny (model P w) A (call (.builtin "sorted") [.ref a]) Q E st := by
  obtain ⟨o, ho, hex, hd⟩ := Z.obj
  have cnt := Z.count
  have few := Z.few; refine Calls.call_function_entry kind_sorted plain_sorted entry_sorted (args_sorted1 _) ?_
  unfold Builtin.«sorted»; refine wpAny_bind (m := checkCount "sorted" 1 1 _) (wpAny_pure ?_)
  refine wpAny_bind (collect_set (A := A.in1) hh ⟨o, ho, hex.1, hd⟩ Z.inTable (by unfold scanBound; omega) Z.tab.ris Z.ldd fun s1 vs k1 hz g1 o1 pm => ?_)
  have vals : rows.toList.map (·.2) = B.map fun p => Value.ref p.1 := by
    rw [Z.rws, List.map_map]
    rfl
  rw [vals] at pm
  -- the collected values are the elements in some order
  obtain ⟨L, pL, eL⟩ : ∃ L : List El, L.Perm B ∧ vs = L.map fun p => Value.ref p.1 := by
    have gen : ∀ {vs : List Value} {ys : List Value}, vs.Perm ys → ∀ B : List El, ys = B.map (fun p => Value.ref p.1) → ∃ L : List El, L.Perm B ∧ vs = L.map fun p => Value.ref p.1 := by
      intro vs ys h
      induction h with
      | nil => exact fun B e => by cases B with | nil => exact ⟨[], .nil, rfl⟩ | cons _ _ => cases e
      | cons x h ih =>
        intro B e
        cases B with
        | nil => cases e
        | cons p B =>
          simp only [List.map_cons, List.cons.injEq] at e; obtain ⟨L, g1, g2⟩ := ih B e.2
          exact ⟨p :: L, g1.cons p, by rw [List.map_cons, g2, e.1]⟩
      | swap x y l =>
        intro B e
        match B, e with
        | p :: q :: B, e =>
          simp only [List.map_cons, List.cons.injEq] at e; exact ⟨q :: p :: B, .swap p q B, by rw [List.map_cons, List.map_cons, e.1, e.2.1, e.2.2]⟩
      | trans h1 h2 ih1 ih2 =>
        intro B e
        obtain ⟨L2, g1, g2⟩ := ih2 B e
        obtain ⟨L1, g3, g4⟩ := ih1 L2 g2
        exact ⟨L1, g3.trans g1, g4⟩
    exact gen pm B rfl
  have len : vs.length = B.length := by rw [eL, List.length_map, pL.length_eq]
  refine wpAny_bind (wpAny_newList ?_ (by rw [sizeLine_eq]; omega)); have at_l : (s1.heap.push (seqObj "list" vs.toArray 0)).get? s1.heap.objs.size = some (seqObj "list" vs.toArray 0) := Heap.get?_push_size _ rfl
  have keep : ∀ b u, st.heap.get? b = some u → (s1.heap.push (seqObj "list" vs.toArray 0)).get? b = some u := fun b u e => Heap.get?_push_of_some _ (k1 b u e)
  have allIn : ∀ p ∈ L, p ∈ B := fun p hp => pL.mem_iff.mp hp
  have rd1 : ∀ p ∈ L, ∃ as, Reads (s1.heap.push (seqObj "list" vs.toArray 0)) (.ref p.1) (enc p) as ∧ s1.heap.objs.size ∉ as := fun p hp => by
    obtain ⟨as, r⟩ := rd p (allIn p hp)
    have e := nl p (allIn p hp) as r
    exact ⟨as, PyProof.Rows.Reads.keeps keep r, by rw [e]; exact fun z => nomatch z⟩
  have al1 : W.AllAlike (L.map enc) := fun d hd d' hd' => by
    obtain ⟨p, hp, rfl⟩ := List.mem_map.mp hd
    obtain ⟨q, hq, rfl⟩ := List.mem_map.mp hd'
    exact al _ (List.mem_map.mpr ⟨p, allIn p hp, rfl⟩) _ (List.mem_map.mpr ⟨q, allIn q hq, rfl⟩)
  have so1 : W.Sortable (L.map enc) := by
    rcases so with z | z
    · exact .inl fun d hd => by
        obtain ⟨p, hp, rfl⟩ := List.mem_map.mp hd
        exact z _ (List.mem_map.mpr ⟨p, allIn p hp, rfl⟩)
    · exact .inr fun d hd => by
        obtain ⟨p, hp, rfl⟩ := List.mem_map.mp hd
        exact z _ (List.mem_map.mpr ⟨p, allIn p hp, rfl⟩)
  refine wpAny_bind (wpAny_holding (W.list_sort_data (s := { s1 with heap := s1.heap.push (seqObj "list" vs.toArray 0) }) (R := fun v (p : El) => v = .ref p.1) (enc := enc) (bs := L) at_l
    (by rw [eL]; exact each_of fun p _ => rfl) (by rw [eL] at rd1 ⊢; exact each_of rd1) al1 so1 (by rw [pL.length_eq, sizeLine_eq]; omega) (fun p hp => ?_) fun out ol oe => ?_))
  · have q := hu p (allIn p hp)
    show A.units + 1 + 1 + (enc p).depth < cLine
    omega
  · have eo := of_each oe
    obtain ⟨c, hc⟩ := sortedHeap_at (vs := vs) (out := out.toArray) at_l
    refine wpAny_pure ⟨_, rfl, fin _ s1.heap.objs.size L c (fun b u e => ?_) g1 o1 hz pL (by rw [← eo]; exact hc)⟩
    have q := k1 b u e
    have lt := Heap.lt_size q
    show (sortedHeap (s1.heap.push (seqObj "list" vs.toArray 0)) s1.heap.objs.size vs out.toArray).get? b = some u
    rw [sortedHeap_old (Nat.ne_of_lt lt) (by rw [size_push']; exact Nat.lt_succ_of_lt lt)]; exact Heap.get?_push_of_some _ q
theorem found (Z : SetN P w st.heap a B rows e0 tb) {b : Addr} {k : NestedKey} (x : Elt st.heap k b) (hu : A.units + 8 < cLine) {Q : Option Nat → Shared → Prop} (q : ∀ r : Option Nat, r.isSome = decide (k ∈ B.map (·.2)) → Q r st) :
    wpAny (model P w) A (setFind a (.ref b) (k.hash w)) Q E st := by
  obtain ⟨o, ho, hex, hd⟩ := Z.obj
  unfold setFind
  rw [show (100000 : Nat) = 99999 + 1 from rfl]
  unfold setFindIn
  refine wpAny_bind (wpAny_setState_of ho hd Z.inTable ?_)
  dsimp only; refine wp_if_neg (by simp [byScan, Value.scannable]) ?_
  try (refine wpAny_bind (wpAny_pure ?_))
  refine wpAny_bind (sought Z x hu (fun r hr hm => ?_) fun K hm _ _ => ?_)
  · refine wpAny_pure (q r ?_)
    rw [decide_eq_true hm]
    rcases hr with z | z
    · cases z
    · exact z
  · exact wpAny_pure (q none (by rw [decide_eq_false hm]; rfl))
theorem has_of (Z : SetN P w st.heap a B rows e0 tb) {b : Addr} {k : NestedKey} (x : Elt st.heap k b) (hu : A.units + 20 < cLine) {Q : Bool → Shared → Prop} (q : ∀ tk, Q (decide (k ∈ B.map (·.2))) { st with toks := tk }) :
    wpAny (model P w) A (contains (.ref a) (.ref b)) Q E st := by
  obtain ⟨o, ho, hex, hd⟩ := id Z.obj
  have isSet : st.TypeIs (.ref a) "set" := ⟨o, ho, hex.1⟩
  unfold contains
  try (with_reducible refine wpAny_holding ?_)
  refine wpAny_bind (wpAny_specialOf isSet PySem.F.slot_set_contains.lookup ?_)
  show wpAny _ _ (if (some (Value.builtin "set.__contains__") == some Value.none) = true then _ else _) _ E st; rw [if_neg (by rw [beq_builtin_none]; exact Bool.false_ne_true)]
  refine wpAny_bind (wpAny_callSpecialUnlessNone?_slot (name := Str.ofString "__contains__") isSet PySem.F.slot_set_contains
    (wpAny_call_entry PySem.F.slot_set_contains isSet entry_set_contains ?_ (PySem.F.args_set_contains_2 _ _)))
  unfold Builtin.«frozenset.__contains__» Builtin.Frozenset.oneOther; simp only [List.isEmpty_nil, bind_assoc]; unfold Builtin.Frozenset.addrOf Builtin.Frozenset.withSetAsKey setContains; refine wpAny_bind (wpAny_pure ?_)
  try dsimp only
  (refine wpAny_bind (wpAny_pure ?_))
  try dsimp only
  refine wpAny_bind (wpAny_tryCatch ?_); refine wpAny_holding ?_
  refine wpAny_bind ((nestedKind P w).pyHash (by show _ + 8 < cLine; simp; omega) ⟨x.is, x.dp⟩ ?_)
  refine wpAny_bind (found (st := { st with toks := st.toks + (nestedKind P w).draws k }) Z x (by simp; omega) fun r hr => ?_)
  refine wpAny_pure ?_; show wpAny _ _ (ret (Value.bool r.isSome)) _ _ _
  rw [hr]
  exact wpAny_pure ⟨_, rfl, wpAny_truthy_bool (q _)⟩
/-- b in s, b not in s -/
theorem in_of (Z : SetN P w st.heap a B rows e0 tb) {b : Addr} {k : NestedKey} (x : Elt st.heap k b) (hu : A.units + 20 < cLine) {Q : Value → Shared → Prop} (q : ∀ tk, Q (.bool (decide (k ∈ B.map (·.2)))) { st with toks := tk }) :
    wpAny (model P w) A (compareOp .In (.ref b) (.ref a)) Q E st := by
  show wpAny _ _ (do return .bool (← contains (.ref a) (.ref b))) Q E st
  exact wpAny_bind (has_of Z x hu fun tk => wpAny_pure (q tk))
theorem notIn_of (Z : SetN P w st.heap a B rows e0 tb) {b : Addr} {k : NestedKey} (x : Elt st.heap k b) (hu : A.units + 20 < cLine) {Q : Value → Shared → Prop} (q : ∀ tk, Q (.bool (!decide (k ∈ B.map (·.2)))) { st with toks := tk }) :
    wpAny (model P w) A (compareOp .NotIn (.ref b) (.ref a)) Q E st := by
  show wpAny _ _ (do return .bool (!(← contains (.ref a) (.ref b)))) Q E st
  exact wpAny_bind (has_of Z x hu fun tk => wpAny_pure (q tk))
end
end NS
/-! NS7: the elements as data; the one sorted list. -/
namespace NS
open PySem PySem.Spec L2
mutual
/-- whole numbers (no bools), None, tuples of such: the key -/
def keyOf : PyData → Option NestedKey
  | .none => some .none
  | .int i => some (.num i)
  | .tuple ds => (keysOf ds).map .tup
  | .bool _ => none
  | .str _ => none
  | .list _ => none
  | .dict _ => none
def keysOf : List PyData → Option (List NestedKey)
  | [] => some []
  | d :: ds => match keyOf d with
    | some k => (keysOf ds).map (k :: ·)
    | none => none
end
mutual
def dataOf : NestedKey → PyData
  | .none => .none
  | .num i => .int i
  | .text x => .str x
  | .tup ks => .tuple (datasOf ks)
def datasOf : List NestedKey → List PyData
  | [] => []
  | k :: ks => dataOf k :: datasOf ks
end
mutual
theorem data_key : ∀ (d : PyData) (k : NestedKey), keyOf d = some k → dataOf k = d
  | .none, k, h => by simp only [keyOf] at h; cases h; rfl
  | .int i, k, h => by simp only [keyOf] at h; cases h; rfl
  | .tuple ds, k, h => by
    simp only [keyOf] at h
    cases e : keysOf ds with
    | none => (rw [e] at h; cases h)
    | some ks =>
      rw [e] at h
      cases h
      simp only [dataOf]
      rw [datas_keys ds ks e]
  | .bool _, _, h => by simp only [keyOf] at h; cases h
  | .str _, _, h => by simp only [keyOf] at h; cases h
  | .list _, _, h => by simp only [keyOf] at h; cases h
  | .dict _, _, h => by simp only [keyOf] at h; cases h
theorem datas_keys : ∀ (ds : List PyData) (ks : List NestedKey), keysOf ds = some ks → datasOf ks = ds
  | [], ks, h => by simp only [keysOf] at h; cases h; rfl
  | d :: ds, ks, h => by
    simp only [keysOf] at h
    cases e : keyOf d with
    | none => (rw [e] at h; cases h)
    | some k =>
      rw [e] at h
      dsimp only at h
      cases e2 : keysOf ds with
      | none => rw [e2] at h; cases h
      | some ks' =>
        rw [e2] at h
        cases h
        simp only [datasOf]
        rw [data_key d k e, datas_keys ds ks' e2]
end
mutual
theorem key_bare : ∀ (d : PyData) (k : NestedKey), keyOf d = some k → bare k = true
  | .none, k, h => by simp only [keyOf] at h; cases h; rfl
  | .int i, k, h => by simp only [keyOf] at h; cases h; rfl
  | .tuple ds, k, h => by
    simp only [keyOf] at h
    cases e : keysOf ds with
    | none => (rw [e] at h; cases h)
    | some ks => rw [e] at h; cases h; simp only [bare]; exact keys_bare ds ks e
  | .bool _, _, h => by simp only [keyOf] at h; cases h
  | .str _, _, h => by simp only [keyOf] at h; cases h
  | .list _, _, h => by simp only [keyOf] at h; cases h
  | .dict _, _, h => by simp only [keyOf] at h; cases h
theorem keys_bare : ∀ (ds : List PyData) (ks : List NestedKey), keysOf ds = some ks → bareAll ks = true
  | [], ks, h => by simp only [keysOf] at h; cases h; rfl
  | d :: ds, ks, h => by
    simp only [keysOf] at h
    cases e : keyOf d with
    | none => (rw [e] at h; cases h)
    | some k =>
      rw [e] at h
      dsimp only at h
      cases e2 : keysOf ds with
      | none => rw [e2] at h; cases h
      | some ks' =>
        rw [e2] at h
        cases h
        simp only [bareAll, key_bare d k e, keys_bare ds ks' e2, Bool.and_self]
end
mutual
theorem key_reads {h : Heap} : ∀ (d : PyData) (k : NestedKey) (v : Value) (as : List Addr), keyOf d = some k → Reads h v d as → NestedIs h k v ∧ as = []
  | .none, k, v, as, e, r => by simp only [keyOf] at e; cases e; cases r; exact ⟨.none, rfl⟩
  | .int i, k, v, as, e, r => by simp only [keyOf] at e; cases e; cases r; exact ⟨.int i _, rfl⟩
  | .tuple ds, k, v, as, e, r => by
    simp only [keyOf] at e
    cases e2 : keysOf ds with
    | none => rw [e2] at e; cases e
    | some ks =>
      rw [e2] at e
      cases e
      cases r with
      | tuple h1 h2 h3 h4 =>
        obtain ⟨q1, q2⟩ := keys_reads ds ks _ _ e2 h4
        exact ⟨.tup h1 h2 h3 q1, q2⟩
  | .bool _, _, _, _, h, _ => by simp only [keyOf] at h; cases h
  | .str _, _, _, _, h, _ => by simp only [keyOf] at h; cases h
  | .list _, _, _, _, h, _ => by simp only [keyOf] at h; cases h
  | .dict _, _, _, _, h, _ => by simp only [keyOf] at h; cases h
theorem keys_reads {h : Heap} : ∀ (ds : List PyData) (ks : List NestedKey) (vs : List Value) (as : List Addr), keysOf ds = some ks → ReadsAll h vs ds as → NestedAll h ks vs ∧ as = []
  | [], ks, vs, as, e, r => by simp only [keysOf] at e; cases e; cases r; exact ⟨.nil, rfl⟩
  | d :: ds, ks, vs, as, e, r => by
    simp only [keysOf] at e
    cases e1 : keyOf d with
    | none => rw [e1] at e; cases e
    | some k =>
      rw [e1] at e
      dsimp only at e
      cases e2 : keysOf ds with
      | none => rw [e2] at e; cases e
      | some ks' =>
        rw [e2] at e
        cases e
        cases r with
        | cons r1 r2 =>
          obtain ⟨q1, q2⟩ := key_reads d k _ _ e1 r1
          obtain ⟨q3, q4⟩ := keys_reads ds ks' _ _ e2 r2
          exact ⟨.cons q1 q3, by rw [q2, q4]; rfl⟩
end
/-! ### once each -/
def once : List NestedKey → List NestedKey
  | [] => []
  | k :: ks => if k ∈ ks then once ks else k :: once ks
theorem mem_once {x : NestedKey} : ∀ {ks : List NestedKey}, x ∈ once ks ↔ x ∈ ks
  | [] => Iff.rfl
  | k :: ks => by
    unfold once
    split
    · rename_i h
      rw [mem_once, List.mem_cons]
      exact ⟨.inr, fun z => z.elim (fun e => e ▸ h) id⟩
    · rw [List.mem_cons, List.mem_cons, mem_once]
theorem once_nodup : ∀ ks : List NestedKey, (once ks).Nodup
  | [] => List.nodup_nil
  | k :: ks => by
    unfold once
    split
    · exact once_nodup ks
    · rename_i h
      exact List.nodup_cons.mpr ⟨fun z => h (mem_once.mp z), once_nodup ks⟩
/-! ### the order tells unlike data apart -/
abbrev leD : PyData → PyData → Bool := W.dataLe false id
theorem le_antisymm {x y : PyData} (hal : W.alike x y = true) (h1 : leD x y = true) (h2 : leD y x = true) : PyData.eqv x y = true := by
  have a1 : W.dataLt y x = false := by
    have q : (!W.dataLt y x) = true := h1
    simpa using q
  have a2 : W.dataLt x y = false := by
    have q : (!W.dataLt x y) = true := h2
    simpa using q
  have e : W.keyToks x = W.keyToks y := PyProof.Rows.lex_total _ _ a2 a1
  cases ev : PyData.eqv x y with
  | true => rfl
  | false =>
    exfalso
    have q := (W.toks_eqv x y hal).2 ev [] [Sum.inl 0]
    rw [e, W.lex_pre, PyProof.Rows.lex_irrefl] at q
    cases q
mutual
theorem eqv_key : ∀ (x y : PyData) (k j : NestedKey), keyOf x = some k → keyOf y = some j → PyData.eqv x y = true → x = y
  | .none, y, k, j, hx, hy, e => by
    cases y with
    | none => rfl
    | int _ => simp [PyData.eqv] at e
    | tuple _ => simp [PyData.eqv] at e
    | _ => simp only [keyOf] at hy; cases hy
  | .int i, y, k, j, hx, hy, e => by
    cases y with
    | none => simp [PyData.eqv] at e
    | int z =>
      simp only [PyData.eqv, beq_iff_eq] at e
      rw [e]
    | tuple _ => simp [PyData.eqv] at e
    | _ => simp only [keyOf] at hy; cases hy
  | .tuple xs, y, k, j, hx, hy, e => by
    cases y with
    | none => simp [PyData.eqv] at e
    | int _ => simp [PyData.eqv] at e
    | tuple ys =>
      simp only [keyOf] at hx hy
      cases e1 : keysOf xs with
      | none => rw [e1] at hx; cases hx
      | some ks =>
        cases e2 : keysOf ys with
        | none => rw [e2] at hy; cases hy
        | some js =>
          simp only [PyData.eqv] at e
          rw [eqvs_keys xs ys ks js e1 e2 e]
    | _ => simp only [keyOf] at hy; cases hy
  | .bool _, _, _, _, h, _, _ => by simp only [keyOf] at h; cases h
  | .str _, _, _, _, h, _, _ => by simp only [keyOf] at h; cases h
  | .list _, _, _, _, h, _, _ => by simp only [keyOf] at h; cases h
  | .dict _, _, _, _, h, _, _ => by simp only [keyOf] at h; cases h
theorem eqvs_keys : ∀ (xs ys : List PyData) (ks js : List NestedKey), keysOf xs = some ks → keysOf ys = some js → PyData.eqvAll xs ys = true → xs = ys
  | [], [], _, _, _, _, _ => (rfl)
  | [], _ :: _, _, _, _, _, e => by simp [PyData.eqvAll] at e
  | _ :: _, [], _, _, _, _, e => by simp [PyData.eqvAll] at e
  | x :: xs, y :: ys, ks, js, hx, hy, e => by
    simp only [keysOf] at hx hy
    simp only [PyData.eqvAll, Bool.and_eq_true] at e
    cases e1 : keyOf x with
    | none => rw [e1] at hx; cases hx
    | some k =>
      cases e2 : keyOf y with
      | none => rw [e2] at hy; cases hy
      | some j =>
        rw [e1] at hx
        rw [e2] at hy
        dsimp only at hx hy
        cases e3 : keysOf xs with
        | none => rw [e3] at hx; cases hx
        | some ks' =>
          cases e4 : keysOf ys with
          | none => rw [e4] at hy; cases hy
          | some js' =>
            rw [eqv_key x y k j e1 e2 e.1, eqvs_keys xs ys ks' js' e3 e4 e.2]
end
theorem leD_total : W.TotalLe leD := W.sortLe_total (PyProof.Rows.listOrd PyProof.Rows.itemOrd) false (fun d : PyData => W.keyToks d)
theorem perm_few {α : Type} {l1 l2 : List α} (p : l1.Perm l2) (n : l1.Nodup) (h : ∀ x ∈ l1, ∀ y ∈ l1, x = y) : l1 = l2 := by
  match l1, p, n, h with
  | [], p, _, _ => exact (List.Perm.nil_eq p)
  | [x], p, _, _ => exact (List.Perm.singleton_eq p)
  | x :: y :: l, p, n, h =>
    exfalso
    have e := h x (by simp) y (by simp)
    rw [List.nodup_cons] at n
    exact n.1 (by simp [e])
/-- two lists with the same bare, comparable data, once each, are sorted to one list -/
theorem sort_same {l m : List PyData} (p : l.Perm m) (n : l.Nodup) (key : ∀ d ∈ l, ∃ k, keyOf d = some k) (al : W.AllAlike l) : l.mergeSort leD = m.mergeSort leD := by
  refine W.sort_unique leD_total (W.sort_pairwise leD_total l) fun c => ?_
  rw [W.sort_stable leD_total]
  refine perm_few (p.filter _) (n.filter _) fun x hx y hy => ?_
  have x1 := List.mem_filter.mp hx
  have y1 := List.mem_filter.mp hy
  have x2 : leD c x = true ∧ leD x c = true := by simpa [W.sameRank] using x1.2
  have y2 : leD c y = true ∧ leD y c = true := by simpa [W.sameRank] using y1.2
  obtain ⟨k, hk⟩ := key x x1.1
  obtain ⟨j, hj⟩ := key y y1.1
  exact eqv_key x y k j hk hj (le_antisymm (al x x1.1 y y1.1) (leD_total.trans _ _ _ x2.2 y2.1) (leD_total.trans _ _ _ y2.2 x2.1))
end NS
namespace NS
open PySem PySem.Spec L2
/-- the set at a, without its elements' own objects -/
def SetO0 (w : World) (h : Heap) (a : Addr) (B : List El) : Prop :=
  ∃ (rows : Array (Int × Value)) (e0 : Nat) (tb : SetTable), (∃ o, h.get? a = some o ∧ o.ExactSet ∧ o.data = .set rows e0 tb) ∧ rows.toList = B.map (rowW w) ∧ TabOk tb (B.map (hOf w)) ∧ (B.map (·.2)).Nodup ∧ tb.plain = true ∧
    (w.params.followText "set-order" = true ∨ tb.led = true) ∧ B.length * 5 < tb.mask * 3 ∧ B.length < 64
def setHO (w : World) (a : Addr) (B : List El) : HO := .ext fun h => SetO0 w h a B
theorem SetN.bare {P : Program} {w : World} {h : Heap} {a : Addr} {B : List El} {rows : Array (Int × Value)} {e0 : Nat} {tb : SetTable} (Z : SetN P w h a B rows e0 tb) : SetO0 w h a B :=
  ⟨rows, e0, tb, Z.obj, Z.rws, Z.tab, Z.uni, Z.pln, Z.ldd, Z.rom, Z.few⟩
theorem SetO0.full {P : Program} {w : World} {h : Heap} {a : Addr} {B : List El} (Z : SetO0 w h a B) (e : ∀ p ∈ B, Elt h p.2 p.1) : ∃ rows e0 tb, SetN P w h a B rows e0 tb := by
  obtain ⟨rows, e0, tb, z1, z2, z3, z4, z5, z6, z7, z8⟩ := Z
  exact ⟨rows, e0, tb, z1, z2, z3, z4, e, z5, z6, z7, z8⟩
theorem setHO_new {P : Program} {w : World} {H : Hp} {h : Heap} {a : Addr} {B : List El} (Z : SetO0 w h a B) : ObjOk P w H h a (setHO w a B) := by
  obtain ⟨rows, e0, tb, ⟨o, ho, r⟩, q⟩ := id Z
  refine ⟨Z, ⟨o, ho⟩, fun h1 h2 y k => ?_⟩
  obtain ⟨rows', e0', tb', ⟨o', ho', r'⟩, q'⟩ := y
  exact ⟨rows', e0', tb', ⟨o', k o' ho', r'⟩, q'⟩
end NS
/-! EX1: own exception classes over any built-in class, made with positional and keyword arguments. -/
namespace EX
open PySem PySem.Spec PySem.W PySem.Calls PyProof.Rows Builtin Builtin.ObjectAttr
theorem hasOf {C : Addr} {bm bmB : List Value} {Y : String} {b : Bool} (hT : ∀ Y : String, bm.contains (.type Y) = bmB.contains (.type Y)) (h : bmB.contains (.type Y) = b) : (Value.ref C :: bm).contains (.type Y) = b := by
  rw [List.contains_cons, hT, h]; cases b <;> rfl
section
variable {M : Model} {A : Around} {E : Value → Shared → Prop} {h : Heap} {g : Array GenState} {d : Drawn} {t : Nat} {os : OsState} {nm q : Str} {C N : Addr} {bs bm bmB : List Value} {hdct : Bool} {sn : List Str} {sub : List Value} {ab : Bool} {col : Option Bool} {dd : Option Addr} {k0 k1 k2 k3 k5 : Option Value} {B newId initId : String}
theorem checkNew (F : ExcBaseFacts B newId initId bmB) (hT : ∀ Y : String, bm.contains (.type Y) = bmB.contains (.type Y)) {rest : List Value} {kw : List (Str × Value)} {Q : Unit → Shared → Prop}
    (hC : h.get? C = some (excClassObj nm q C N bs bm hdct sn sub ab col dd k0 k1 k2 k3 k5 newId)) (hq : Q () ⟨h, g, d, t, os⟩) : wpAny M A (checkBuiltinCall newId ⟨.ref C :: rest, kw⟩) Q E ⟨h, g, d, t, os⟩ := by
  have hcont := hasOf (C := C) hT F.hasB
  have hstar := F.noStar; simp only [checkBuiltinCall, F.newKind, F.newSplit, F.newRow]; repeat (first | refine wpAny_loadPart_at hC ?_ | (refine wpAny_isSubtype_exc hC ?_; rw [hcont]) | refine wpAny_staticBase_exc hC ?_ | refine wpAny_madeBy_exc hC ?_ | simp only [bne_self_eq_false, Bool.false_eq_true, if_false] | wp_step)
  exact hq
end
section
variable {prog : Program} {w : World} {A : Around} {E : Value → Shared → Prop} {R : Result → Shared → Prop} {h : Heap} {g : Array GenState} {d : Drawn} {t : Nat} {os : OsState} {nm q : Str} {C N : Addr} {bs bm bmB : List Value} {hdct : Bool} {sn : List Str} {sub : List Value} {ab : Bool} {col : Option Bool} {dd : Option Addr} {k0 k1 k2 k3 k5 : Option Value} {B newId initId : String}
abbrev exO (C t : Addr) : Obj := { cls := .ref C, data := .fields #[.ref t, .none, .none, .none, .bool false, .none] }
theorem newKw (F : ExcBaseFacts B newId initId bmB) (hT : ∀ Y : String, bm.contains (.type Y) = bmB.contains (.type Y)) {rest : List Value} {kw : List (Str × Value)} (hC : h.get? C = some (excClassObj nm q C N bs bm hdct sn sub ab col dd k0 k1 k2 k3 k5 newId))
    (hq : R (.ok (.ret (.ref (h.objs.size + 1)))) ⟨(h.push (W.kdv_tup rest)).push (exO C h.objs.size), g, d, t, os⟩) (hl : rest.length ≤ sizeLine) :
    codeAny (model prog w) A (.builtin newId ⟨.ref C :: rest, kw⟩) R ⟨h, g, d, t, os⟩ := by
  have hends := F.ends; have hcB := hasOf (C := C) hT F.hasB
  have hcA := hasOf (C := C) hT F.noAttr
  have hcN := hasOf (C := C) hT F.noName
  refine codeAny_builtinAt F.entry ?_; unfold Builtin.«BaseException.__new__»
  refine PySem.wpAt_bind ?_
  show PySem.wpAt _ _ _ (stack >>= _) _ _ _
  refine PySem.wpAt_bind (PySem.wpAt_stack fun p below => PySem.wpAt_of_wpAny ?_)
  wp_walk
  refine PySem.wpAt_of_wpAny ?_
  rw [F.owner]; repeat (first | with_reducible refine wpAny_madeHere_exc F.canon hC ?_ | with_reducible refine wpAny_loadPart_at hC ?_ | (with_reducible refine wpAny_isSubtype_exc hC ?_; first | rw [hcB] | rw [hcA] | rw [hcN]) | wp_step)
  show R _ _
  rw [Heap.size_push]
  exact hq
theorem typeCallKw (F : ExcBaseFacts B newId initId bmB) (hT : ∀ Y : String, bm.contains (.type Y) = bmB.contains (.type Y)) {rest : List Value} {kw : List (Str × Value)} {fI : Addr} {Q : Fin → Shared → Prop} (hC : h.get? C = some (excClassObj nm q C N bs bm hdct sn sub ab col dd k0 k1 k2 k3 k5 newId))
    (hi : W.Looks (model prog w) h (typeLookup (.ref C) "__init__") (some (.ref fI))) (hb : ∀ self, W.Looks (model prog w) h (bindSpecial (.ref fI) self) (.ref fI, [self])) (hl : rest.length ≤ sizeLine)
    (hq : codeAny (model prog w) A (.call (.ref fI) ⟨.ref (h.objs.size + 1) :: rest, kw⟩) (fun r s' => match r with | .ok (.ret v) => v = .none ∧ Q (.done (.ret (.ref (h.objs.size + 1)))) s' | .ok _ => False | .error e => E e s')
      ⟨(h.push (W.kdv_tup rest)).push (exO C h.objs.size), g, d, t, os⟩) :
    wpAny (model prog w) A (Builtin.«type.__call__» ⟨.ref C :: rest, kw⟩) Q E ⟨h, g, d, t, os⟩ := by
  (repeat (first | with_reducible refine wpAny_loadPart_at hC ?_ | with_reducible refine wpAny_madeBy_exc hC ?_ | wp_step)); refine codeAny_call_builtin_code (Code.quiet_builtin _ F.quiet) (checkNew F hT hC ?_)
  refine newKw F hT hC ?_ hl
  show wpAny _ _ _ _ _ _
  have k : ∀ b o, h.get? b = some o → ((h.push (W.kdv_tup rest)).push (exO C h.objs.size)).get? b = some o := fun b o e => Heap.get?_push_of_some _ (Heap.get?_push_of_some _ e)
  have hC1 := k _ _ hC
  have hget : ((h.push (W.kdv_tup rest)).push (exO C h.objs.size)).get? (h.objs.size + 1) = some (exO C h.objs.size) := by heap_get
  have self : (Value.ref C :: bm).contains (.ref C) = true := List.contains_iff_mem.mpr List.mem_cons_self
  have i1 := hi.keeps k; have b1 := (hb (.ref (h.objs.size + 1))).keeps k
  unfold isInstance
  repeat (first | with_reducible refine wpAny_loadPart_at hget ?_ | (with_reducible refine wpAny_isSubtype_exc hC1 ?_; rw [self]) | wp_step)
  show wpAny _ _ (typeLookup (.ref C) _) _ _ _; refine i1.at ?_; refine wpAny_holding (wpAny_bind (b1.at ?_)); refine wpAny_bind (wpAny_call (codeAny_mono hq fun r s' z => ?_)); rcases r with e | (v | _ | _ | _) <;> first | exact z | exact z.elim | skip
  obtain ⟨rfl, z⟩ := z
  first | exact wpAny_pure (wpAny_pure z) | (wp_walk; exact z)
theorem checkTypeCall {M : Model} {rest : List Value} {kw : List (Str × Value)} {Q : Unit → Shared → Prop} (hC : h.get? C = some (excClassObj nm q C N bs bm hdct sn sub ab col dd k0 k1 k2 k3 k5 newId))
    (hq : Q () ⟨h, g, d, t, os⟩) : wpAny M A (checkBuiltinCall "type.__call__" ⟨.ref C :: rest, kw⟩) Q E ⟨h, g, d, t, os⟩ := by
  have f3 := tc_sub; have hTy : (⟨h, g, d, t, os⟩ : Shared).TypeIs (.ref C) "type" := ⟨_, hC, rfl⟩; simp only [checkBuiltinCall, tc_kind, tc_split]; repeat (any_goals (first | assumption | with_reducible refine wpAny_loadPart_at hC ?_ | with_reducible refine wpAny_onRaise ?_ | with_reducible refine wpAny_map ?_ | wp_step))
theorem callKw (F : ExcBaseFacts B newId initId bmB) (hT : ∀ Y : String, bm.contains (.type Y) = bmB.contains (.type Y)) {rest : List Value} {kw : List (Str × Value)} {fI : Addr} (hC : h.get? C = some (excClassObj nm q C N bs bm hdct sn sub ab col dd k0 k1 k2 k3 k5 newId))
    (hi : W.Looks (model prog w) h (typeLookup (.ref C) "__init__") (some (.ref fI))) (hb : ∀ self, W.Looks (model prog w) h (bindSpecial (.ref fI) self) (.ref fI, [self])) (hl : rest.length ≤ sizeLine)
    (hq : codeAny (model prog w) (A.under (.builtin "type.__call__" ⟨.ref C :: rest, kw⟩)) (.call (.ref fI) ⟨.ref (h.objs.size + 1) :: rest, kw⟩) (W.InitBack (h.objs.size + 1) R)
      ⟨(h.push (W.kdv_tup rest)).push (exO C h.objs.size), g, d, t, os⟩) : codeAny (model prog w) A (.call (.ref C) ⟨rest, kw⟩) R ⟨h, g, d, t, os⟩ := by
  have f1 := tc_lookup
  have f2 := tc_bind (.ref C); have hTy : (⟨h, g, d, t, os⟩ : Shared).TypeIs (.ref C) "type" := ⟨_, hC, rfl⟩
  refine codeAny_of_tree ?_; show wpAny _ _ (callAny (.ref C) _) _ _ _; repeat (any_goals (first | assumption | with_reducible refine wpAny_loadPart_at hC ?_ | wp_step))
  refine ⟨rfl, ?_⟩
  refine codeAny_call_builtin_at (Code.quiet_builtin _ (by decide +kernel)) entry_typeCall (checkTypeCall hC (typeCallKw F hT hC hi hb hl ?_)); refine codeAny_mono hq fun r s' z => ?_; rcases r with e | (v | _ | _ | _) <;> exact z
end
end EX
/-! EX2: fields stored on such an exception. -/
namespace EX
open PySem PySem.Spec PySem.W PySem.Calls PyProof.Rows Builtin Builtin.ObjectAttr
/-- what the built-in class says -/
structure EB (B newId initId : String) (bmB : List Value) : Prop where
  base : ExcBaseFacts B newId initId bmB
  sto : StoreFacts B bmB "object.__setattr__" "object"
theorem eb_VE : EB "ValueError" "ValueError.__new__" "ValueError.__init__" [.type "ValueError", .type "Exception", .type "BaseException", .type "object"] := ⟨F.excBase_ValueError, F.store_ValueError⟩
theorem eb_RE : EB "RuntimeError" "RuntimeError.__new__" "RuntimeError.__init__" [.type "RuntimeError", .type "Exception", .type "BaseException", .type "object"] := ⟨F.excBase_RuntimeError, F.store_RuntimeError⟩
theorem eb_OE : EB "OverflowError" "OverflowError.__new__" "OverflowError.__init__" [.type "OverflowError", .type "ArithmeticError", .type "Exception", .type "BaseException", .type "object"] := ⟨F.excBase_OverflowError, F.store_OverflowError⟩
section
variable {prog : Program} {w : World} {A : Around} {E : Value → Shared → Prop} {R : Result → Shared → Prop} {hp : Heap} {g : Array GenState} {d : Drawn} {t : Nat} {os : OsState} {B newId initId : String} {bmB : List Value}
/-- the first field: the object's dict is made -/
theorem saNew (b : EB B newId initId bmB) {K : W.Frag} {name : Str} {tk : Tok} {v : Value} {x C t0 : Addr} {s : Shared}
    (kin : K.In s.heap) (hx : s.heap.get? x = some (excObj C t0 none .none)) (ho : excOver K C bmB = true) (hh : hasDictIn K C = true) (ha : takerIn K C name = some none)
    (hq : ∀ h' tk' dx, (∀ c o, c ≠ x → s.heap.get? c = some o → h'.get? c = some o) → s.heap.objs.size ≤ dx → dx ≠ x → h'.get? x = some (excObj C t0 (some dx) .none) →
      h'.Ns1 dx (fun y => if y = name then some v else none) → R (.ok (.ret .none)) { s with heap := h', toks := tk' }) : codeAny (model prog w) A (.call (.builtin "object.__setattr__") ⟨[.ref x, .str name tk, v], []⟩) R s :=
  osa_openX (od := none) b.sto kin ⟨hx, rfl, rfl, trivial⟩ ho ha fun _ => by
    obtain ⟨cd, hc, hd⟩ := any_some hh; have lx := Heap.lt_size hx
    refine wpAny_bind (wpAny_pure (wpAny_bind (instanceDict_exc hx (looks_clsIn kin hc) hd ?_))); show wpAny _ _ (storeInDict s.heap.objs.size (.str name tk) name v) _ _ _
    refine HandSPX.store_in_new ⟨dictOf [] 0, #[], _, (Heap.get?_update_other _ _ (Nat.ne_of_lt lx)).trans (Heap.get?_push_size _ rfl), rfl, fun e he => absurd he (by simp), fun _ => rfl⟩ fun h' tk' hn' hs => ?_
    refine hq h' tk' s.heap.objs.size (fun c o hb ho => ?_) (Nat.le_refl _) (Nat.ne_of_gt lx) ?_ hn'
    · exact (hs.2 c (Nat.ne_of_lt (Heap.lt_size ho))).trans ((Heap.get?_update_other _ _ (Ne.symm hb)).trans (Heap.get?_push_of_some _ ho))
    · exact (hs.2 x (Nat.ne_of_lt lx)).trans (Heap.get?_update_self _ (Heap.get?_push_of_some _ hx) rfl)
/-- a further field -/
theorem saOld (b : EB B newId initId bmB) {K : W.Frag} {name : Str} {tk : Tok} {v : Value} {x C t0 dx : Addr} {s : Shared} {m0 : Str → Option Value} {nl : List Str}
    (kin : K.In s.heap) (hx : s.heap.get? x = some (excObj C t0 (some dx) .none)) (hns : s.heap.Ns1 dx m0) (hw : Within m0 nl) (hz : nl.length ≤ 1000) (ho : excOver K C bmB = true) (hh : hasDictIn K C = true) (ha : takerIn K C name = some none)
    (hq : ∀ h' tk', (∀ c o, c ≠ dx → s.heap.get? c = some o → h'.get? c = some o) → h'.Ns1 dx (fun y => if y = name then some v else m0 y) → R (.ok (.ret .none)) { s with heap := h', toks := tk' }) : codeAny (model prog w) A (.call (.builtin "object.__setattr__") ⟨[.ref x, .str name tk, v], []⟩) R s := by
  obtain ⟨oD, _, _, D, _, _⟩ := hns.count hw
  refine osa_openX (od := some oD) b.sto kin ⟨hx, rfl, rfl, D⟩ ho ha fun _ => ?_; obtain ⟨cd, hc, hd⟩ := any_some hh
  refine wpAny_bind (wpAny_pure (wpAny_bind (wpAny_bind (wpAny_loadPart hx (wpAny_bind ((looks_clsIn kin hc).here ?_)))))); rw [hd]
  exact wpAny_pure (a := some dx) (OEX.store_in_old hns hw hz fun h' tk' hn' hs => hq h' tk' (fun c o hb e => (hs.2 c hb).trans e) hn')
end
end EX
/-! EX3: such exceptions in the abstract heap: stores, the base's __init__, the call of the class. -/
namespace EX
open L2 PyProof.Rows PySem PySem.Spec
/-- what the written part says of an own exception class -/
structure Xc (K : PySem.W.Frag) (C : Addr) (newId : String) (bmB : List Value) : Prop where
  ini : W.excInitIn K C bmB newId = true
  ovr : W.excOver K C bmB = true
  dct : W.hasDictIn K C = true
  sa : W.findIn K (.ref C) "__setattr__" = some (some (.builtin "object.__setattr__"))
  exC : W.subIn K (.ref C) (.type "BaseException") = some true
  tyC : W.typeIn K (.ref C) = some (.type "type")
  kC : W.keepIn K (.ref C) = true
  ga : W.findIn K (.ref C) "__getattribute__" = some (some (.builtin "BaseException.__getattribute__"))
  gg : W.findIn K (.ref C) "__getattr__" = some none
  ca : W.findIn K (.ref C) "__class__" = some (some (.builtin "object.__class__"))
  cn : W.specialIn K (.builtin "object.__class__") "__get__" = some (some (.builtin "getset_descriptor.__get__"))
  ct : W.takesIn K (.builtin "object.__class__") = some true
  cm : W.mroIn K C (.type "object") = some true
section
variable {X : Cx} {pins : List (Addr × Obj)} {σ : L2.St} {H : Hp} {s : Shared} {a C dx : Addr} {f : Str} {y : V} {u : Value} {fs : List (Str × V)} {Q : Unit → Shared → Prop} {E : Value → Shared → Prop} {A : Around} {B newId initId : String} {bmB : List Value}
/-- an object gets its dict: both are known then -/
theorem dictMadeInv {h' : Heap} {tk : Nat} (I : Inv X pins σ H s) (e : H a = some (exo a C none)) (ry : RelV y u) {t0 : Addr}
    (k : ∀ c o, c ≠ a → s.heap.get? c = some o → h'.get? c = some o) (dn : s.heap.objs.size ≤ dx) (hx : h'.get? a = some (W.excObj C t0 (some dx) .none)) (hn : h'.Ns1 dx (fun z => if z = f then some u else none)) :
    Inv X pins σ (upd (upd H dx (exd dx [(f, y)])) a (exo a C (some dx))) { s with heap := h', toks := tk } := by
  have hd0 : H dx = none := I.hok.fresh dn
  have fromA : ∀ {c : Addr}, H c = none → c ≠ a := fun n z => by rw [z, e] at n; cases n
  have fromD : ∀ {c : Addr} {o : Obj}, s.heap.get? c = some o → c ≠ dx := fun q => Nat.ne_of_lt (Nat.lt_of_lt_of_le (Heap.lt_size q) dn)
  have stays : ∀ {c : Addr} {o : HO}, H c = some o → exo a C none ≠ o → upd (upd H dx (exd dx [(f, y)])) a (exo a C (some dx)) c = some o := fun {c o} q n => by
    rw [upd_ne (at_ne e q n), upd_ne (ne_of_none q hd0)]; exact q
  refine I.un (t' := tk) ⟨fun c o q n _ _ => k c o (fromA n) q, fun c o q n _ _ => ⟨o.slots, k c o (fromA n) q⟩, fun c o q n _ => ?_, fun c o q _ => ?_, fun c xs q => stays q exo_tup, fun c o v q => stays q exo_frz, fun c ps q => ⟨#[], ?_⟩⟩ fun c o q => ?_
  · rw [upd_ne (fromA n), upd_ne (fromD q)]; exact n
  · by_cases hc : c = a
    · exact ⟨_, hc ▸ hx⟩
    · exact ⟨o, k c o hc q⟩
  · rw [stays q exo_tbl]; simp
  · by_cases hc : c = a
    · subst hc; rw [upd_same] at q; cases q
      exact exo_ok hx
    · rw [upd_ne hc] at q
      by_cases hc2 : c = dx
      · subst hc2; rw [upd_same] at q; cases q
        exact exd_ok hn (relO_put (fs := []) ry fun _ => trivial)
      · rw [upd_ne hc2] at q
        refine (I.hok c o q).stay (fun b v hb z => k b v ?_ z) (fun b hb => stays hb exo_own) fun b xs hb => stays hb exo_tup
        rcases hb with hb | hb
        · exact hb ▸ hc
        · exact at_ne e hb exo_own
theorem sto1 (b : EB B newId initId bmB) (T : Xc X.K C newId bmB) (I : Inv X pins σ H s) (e : H a = some (exo a C none)) (hno : W.takerIn X.K C f = some none) (ry : RelV y u)
    (h : ∀ b s', H b = none → b ≠ a → Inv X pins σ (upd (upd H b (exd b [(f, y)])) a (exo a C (some b))) s' → Q () s') : wpAny (model X.prog X.w) A (setAttr (.ref a) f u) Q E s := by
  obtain ⟨t1, ho⟩ := exo_at I.hok e; refine W.set_plain I.kIn (od := none) ⟨ho, rfl, rfl, trivial⟩ T.sa (saNew (s := { s with toks := s.toks + 1 }) b I.kIn ho T.ovr T.dct hno fun h' tk' dx k dn dne hx hn => ?_)
  exact h dx _ (I.hok.fresh dn) dne (dictMadeInv (I.tok _) e ry k dn hx hn)
theorem sto2 (b : EB B newId initId bmB) (T : Xc X.K C newId bmB) (I : Inv X pins σ H s) (e : H a = some (exo a C (some dx))) (ed : H dx = some (exd dx fs)) (hl : fs.length ≤ 900) (hno : W.takerIn X.K C f = some none) (ry : RelV y u)
    (h : ∀ s2, Inv X pins σ (upd H dx (exd dx ((f, y) :: fs))) s2 → Q () s2) : wpAny (model X.prog X.w) A (setAttr (.ref a) f u) Q E s := by
  obtain ⟨t1, ho⟩ := exo_at I.hok e; obtain ⟨mA, hns, rel⟩ := exd_at I.hok ed
  obtain ⟨oD, _, _, hoD, _, _⟩ := hns.count (within_of rel)
  refine W.set_plain I.kIn (od := some oD) ⟨ho, rfl, rfl, hoD⟩ T.sa (saOld (s := { s with toks := s.toks + 1 }) b I.kIn ho hns (within_of rel) (by rw [List.length_map]; omega) T.ovr T.dct hno fun h' tk' k hn => ?_)
  obtain ⟨o, _, _, hd', _⟩ := id hn
  exact h _ (I.write (t' := tk') (x := dx) (e := dx) (o := exd dx ((f, y) :: fs)) (by rw [ed]; exact True.intro) (.inl rfl) k ⟨o, hd'⟩ (exd_ok hn (relO_put ry rel)))
/-- the base's own __init__(self) -/
theorem baseInit {us : List Value} {Q : Value → Shared → Prop} (b : EB B newId initId bmB) (T : Xc X.K C newId bmB) (I : Inv X pins σ H s) (e : H a = some (exo a C none)) (hl : us.length ≤ sizeLine) (h : ∀ s', Inv X pins σ H s' → Q .none s') :
    wpAny (model X.prog X.w) A (call (.builtin initId) (.ref a :: us)) Q E s := by
  obtain ⟨nm, N', qn, bs, bm, hdct, sn, sub, ab, col, dd, k0, k1, k2, k3, k5, hC, hT⟩ := W.excInit_of I.kIn T.ini; obtain ⟨t1, ho⟩ := exo_at I.hok e
  obtain ⟨hp, g, d, t, os⟩ := s
  refine wpAny_call (HandSPX.init_base b.base hT hC ho hl fun h' t2 k hx => h _ ?_); have J := I.write (t' := t) (x := a) (e := a) (o := exo a C none) (by rw [e]; exact True.intro) (.inl rfl) k ⟨_, hx⟩ (exo_ok hx)
  rwa [show upd H a (exo a C none) = H from funext fun c => by by_cases hc : c = a; { rw [hc, upd_same, e] }; { rw [upd_ne hc] }] at J
end
end EX
/-! EX4: the rules: self.f = e, the base's __init__(self), the call of the class. -/
namespace EX
open L2 PyProof.Rows PySem PySem.Spec
def XcE (K : PySem.W.Frag) (C : Addr) : Prop := ∃ (B newId initId : String) (bmB : List Value), EB B newId initId bmB ∧ Xc K C newId bmB
/-- self.f = e -/
def tSto (K : PySem.W.Frag) (f : Str) (to te : TE) : TS := fun D σ H => te σ H fun y H1 => to σ H1 fun x H2 => ∃ a C : Addr, x = .ref a ∧ XcE K C ∧ W.takerIn K C f = some none ∧
  ((H2 a = some (exo a C none) ∧ ∀ b, H2 b = none → b ≠ a → D.nx σ (upd (upd H2 b (exd b [(f, y)])) a (exo a C (some b)))) ∨
    ∃ (b : Addr) (fs : List (Str × V)), H2 a = some (exo a C (some b)) ∧ H2 b = some (exd b fs) ∧ fs.length ≤ 900 ∧ D.nx σ (upd H2 b (exd b ((f, y) :: fs))))
/-- the class called: the object is laid, __init__ (its promise: sp) runs -/
def tMkX (C : Addr) (n m : Nat) (sp : Sp) (gV : List V → List V → List V) (t tk : TA) : TE := fun σ H Q => t σ H fun vs H1 => tk σ H1 fun zs H2 => vs.length = n ∧ zs.length = m ∧ n ≤ 1000 ∧
  ∀ a, H2 a = none → sp (gV (.ref a :: vs) zs) (upd H2 a (exo a C none)) (fun v H3 => v = .non ∧ Q (.ref a) H3) (fun _ _ _ => False)
section
variable {X : Cx} {o e : Expr} {es : List Expr} {kws : List Keyword} {to te : TE} {t tk : TA} {f : Str} {p p' p1 p2 pos : Pos}
theorem ps_sto (ho : PE X o to) (he : PE X e te) (hs : swapsWith e (some (.Attribute o f p')) pos.line X.env = pure false := by rfl) : PS X (.Assign [.Attribute o f p'] e pos) (tSto X.K f to te) :=
  ⟨fun pins s σ H D I h => plainObj_wpAny_Assign_Attribute (thn (he.run pins s σ H _ I h) fun v s1 ⟨y, H1, I1, r1, q1⟩ => thn (ho.run pins s1 σ H1 _ I1 q1) fun u s2 ⟨x, H2, I2, r2, q2⟩ => by
    obtain ⟨a, C, ex, ⟨B, nI, iI, bmB, b, T⟩, hno, q⟩ := q2
    subst ex; obtain rfl : u = Value.ref a := r2; rcases q with ⟨ea, q⟩ | ⟨dx, fs, ea, ed, hl, q⟩
    · exact sto1 b T I2 ea hno r1 fun dx s' n ne J => ⟨σ, _, J, q dx n ne⟩
    · exact sto2 b T I2 ea ed hl hno r1 fun s' J => ⟨σ, _, J, q⟩) hs⟩
variable {CX : CXT} {k n : Nat} {fI C : Addr} {fd : FuncData} {ps ks : List Str} {sp : Sp} {x : Str} {g : List Value → List Value → List Value} {gV : List V → List V → List V}
theorem runMk {pins : List (Addr × Obj)} {σ : L2.St} {H : Hp} {s : Shared} {Q : VK} {us ws : List Value} {vs zs : List V} (T : XcE X.K C) (iC : W.findIn X.K (.ref C) "__init__" = some (some (.ref fI))) (tI : W.typeIn X.K (.ref fI) = some (.type "function"))
    (F1 : FnOk X.prog X.w X.K X.mg X.base CX k fI fd ps sp) (hr : Room (k + 1) X.A) (hb : KBn X.K fd ps (n + 1) ks g gV) (hx : Passes CX X (fun _ _ _ => False)) (I : Inv X pins σ H s) (r : Vals vs us) (rz : Vals zs ws) (l1 : vs.length = n) (l2 : zs.length = ks.length) (ln : n ≤ 1000)
    (h : ∀ a, H a = none → sp (gV (.ref a :: vs) zs) (upd H a (exo a C none)) (fun v H3 => v = .non ∧ Q (.ref a) H3) (fun _ _ _ => False)) : wpAny (model X.prog X.w) X.A (call (.ref C) us (ks.zip ws)) (EP X pins σ Q) X.xe s := by
  obtain ⟨B, nI, iI, bmB, b, T⟩ := T
  obtain ⟨nm, N', qn, bs, bm, hdct, sn, sub, ab, col, dd, k0, k1, k2, k3, k5, hC, hT⟩ := W.excInit_of I.kIn T.ini
  obtain ⟨hp, g0, dr, tk, os⟩ := s
  have q := h (hp.objs.size + 1) (I.hok.fresh (Nat.le_succ _))
  have keep : ∀ c ob, hp.get? c = some ob → ((hp.push (W.kdv_tup us)).push (exO C hp.objs.size)).get? c = some ob := fun c ob z => Heap.get?_push_of_some _ (Heap.get?_push_of_some _ z)
  have there : ((hp.push (W.kdv_tup us)).push (exO C hp.objs.size)).get? (hp.objs.size + 1) = some (exO C hp.objs.size) := by heap_get
  have J := I.laid (t' := tk) (a := hp.objs.size + 1) (o := exo (hp.objs.size + 1) C none) keep (Nat.le_succ _) (exo_ok there)
  have rs : Vals (V.ref (hp.objs.size + 1) :: vs) (Value.ref (hp.objs.size + 1) :: us) := .cons rfl r
  have lu : us.length = n := r.length.symm.trans l1
  refine wpAny_call (callKw b.base hT hC (W.looks_findIn I.kIn iC) (fun self => W.bind_fn I.kIn self tI) (by rw [lu, sizeLine_eq]; omega) (codeAny_mono (F1.run _ X.stack _ _ ⟨Value.ref (hp.objs.size + 1) :: us, ks.zip ws⟩ _ _ _ _ (hr.make C us (ks.zip ws)) (J.env0.make C us (ks.zip ws))
    (hb.to _ _ ws J.kIn (rs.length.symm.trans (congrArg Nat.succ l1)) (rz.length.symm.trans l2)) (hb.rel rs rz) q) fun res s' z => ?_))
  match res, z with
  | .error er, z => exact hx pins σ _ _ er s' J z
  | .ok (.ret u), z =>
    obtain ⟨v, H3, J3, rv, ev, q3⟩ := J.after z
    subst ev
    exact ⟨rv, ⟨V.ref (hp.objs.size + 1), H3, J3, rfl, q3⟩⟩
  | .ok .next, z => exact z.elim
  | .ok .brk, z => exact z.elim
  | .ok .cont, z => exact z.elim
theorem pe_mkX (T : XcE X.K C) (iC : W.findIn X.K (.ref C) "__init__" = some (some (.ref fI))) (tI : W.typeIn X.K (.ref fI) = some (.type "function")) (F1 : FnOk X.prog X.w X.K X.mg X.base CX k fI fd ps sp) (hr : Room (k + 1) X.A) (hb : KBn X.K fd ps (n + 1) [] g gV) (hx : Passes CX X (fun _ _ _ => False))
    (hg : Gl X x) (hm : X.mg x = some (.ref C)) (ha : PA X (e :: es) t) (hdb : (x == ("__debug__" : Str)) = false := by decide) (he : starEach (e :: es) X.env = (false, eval e X.env) :: starEach es X.env := by rfl) (hpl : (backTo pos (starEach es X.env)).any (·.1) = false := by rfl) :
    PE X (.Call (.Name x p) (e :: es) [] pos) (tMkX C n 0 sp gV t tNil) :=
  ⟨fun pins s σ H Q I h => by
    have kC := T
    obtain ⟨_, _, _, _, _, T'⟩ := kC
    exact wpAny_Call_Name_kw (ld_glob I hg hm (W.callWith_K (h₀ := X.base) I.ok.mod.kin T'.kC (thn (ha.run pos pins s σ H _ I h) fun us s1 ⟨vs, H1, I1, r1, l1, l2, ln, q⟩ => ⟨I1.kIn, by
      have z := runMk (ks := []) T iC tI F1 hr hb hx I1 r1 .nil l1 l2 ln q
      simpa using z⟩) he hpl) hdb)⟩
theorem pe_mkX0 (T : XcE X.K C) (iC : W.findIn X.K (.ref C) "__init__" = some (some (.ref fI))) (tI : W.typeIn X.K (.ref fI) = some (.type "function")) (F1 : FnOk X.prog X.w X.K X.mg X.base CX k fI fd ps sp) (hr : Room (k + 1) X.A) (hb : KBn X.K fd ps 1 [] g gV) (hx : Passes CX X (fun _ _ _ => False))
    (hg : Gl X x) (hm : X.mg x = some (.ref C)) (hdb : (x == ("__debug__" : Str)) = false := by decide) : PE X (.Call (.Name x p) [] [] pos) (tMkX C 0 0 sp gV tNil tNil) :=
  ⟨fun pins s σ H Q I h => by
    have kC := T
    obtain ⟨_, _, _, _, _, T'⟩ := kC
    obtain ⟨l1, l2, ln, q⟩ := h
    exact wpAny_Call_Name_kw (ld_glob I hg hm (W.callWith_K0 I.kIn T'.kC (by simpa using runMk (n := 0) (ks := []) (us := []) T iC tI F1 hr hb hx I .nil .nil l1 l2 ln q)) hdb)⟩
theorem pe_mkXK (T : XcE X.K C) (iC : W.findIn X.K (.ref C) "__init__" = some (some (.ref fI))) (tI : W.typeIn X.K (.ref fI) = some (.type "function")) (F1 : FnOk X.prog X.w X.K X.mg X.base CX k fI fd ps sp) (hr : Room (k + 1) X.A) (hb : KBn X.K fd ps 1 ks g gV) (hx : Passes CX X (fun _ _ _ => False))
    (hg : Gl X x) (hm : X.mg x = some (.ref C)) (hkw : PK X kws tk) (hall : (backToKw pos (keywordEach kws X.env)).all (·.1.isSome) = true := by rfl) (hks : (backToKw pos (keywordEach kws X.env)).filterMap (·.1) = ks := by rfl) (hdb : (x == ("__debug__" : Str)) = false := by decide)
    (hpl : ((backTo pos (starEach [] X.env)).any (·.1) || (backToKw pos (keywordEach kws X.env)).any (·.1.isNone)) = false := by rfl) : PE X (.Call (.Name x p) [] kws pos) (tMkX C 0 ks.length sp gV tNil tk) :=
  ⟨fun pins s σ H Q I h => by
    have kC := T
    obtain ⟨_, _, _, _, _, T'⟩ := kC
    refine wpAny_Call_Name_kw (ld_glob I hg hm (W.callWith_KW0 (h₀ := X.base) I.ok.mod.kin T'.kC hall (thn (hkw.run pos pins s σ H _ I h) fun ws s2 ⟨zs, H2, I2, rz, l1, l2, ln, q2⟩ => ⟨I2.kIn, ?_⟩) hpl) hdb)
    rw [hks]
    exact runMk (n := 0) (us := []) T iC tI F1 hr hb hx I2 .nil rz l1 l2 ln q2⟩
end
end EX
/-! EX5: such an exception as a value: its fields, isinstance; raised. -/
namespace EX
open L2 PyProof.Rows PySem PySem.Spec
theorem exInst {h : Heap} {a C dx t0 : Addr} {od : Obj} (ha : h.get? a = some (W.excObj C t0 (some dx) .none)) (hd : h.get? dx = some od) : W.InstAt h a (W.excObj C t0 (some dx) .none) C (some od) := ⟨ha, rfl, rfl, hd⟩
/-- e.f -/
def tGetX (K : PySem.W.Frag) (n : Str) (te : TE) : TE := fun σ H Q => te σ H fun x H1 => ∃ (a C dx : Addr) (fs : List (Str × V)) (v : V), x = .ref a ∧ XcE K C ∧ W.findIn K (.ref C) n = some none ∧ H1 a = some (exo a C (some dx)) ∧ H1 dx = some (exd dx fs) ∧ fs.lookup n = some v ∧ Q v H1
/-- isinstance(e, c) -/
def rIsX (K : PySem.W.Frag) : List V → Hp → VK → Prop := fun xs H Q => ∃ (a C : Addr) (d : Option Addr) (c : V) (u : Value) (b : Bool), xs = [.ref a, c] ∧ ClsV c u ∧ XcE K C ∧ H a = some (exo a C d) ∧ (d = none ∨ ∃ (dx : Addr) (fs : List (Str × V)), d = some dx ∧ H dx = some (exd dx fs)) ∧ W.kitOne K (.ref C) u = some b ∧ Q (.bl b) H
section
variable {X : Cx} {e : Expr} {te : TE} {n : Str} {pos : Pos}
theorem pe_getX (he : PE X e te) (hb : attributeBase e n X.env (eval e X.env) = eval e X.env := by rfl) : PE X (.Attribute e n pos) (tGetX X.K n te) :=
  ⟨fun pins s σ H Q I h => attr_of hb (thn (he.run pins s σ H _ I h) fun u s1 ⟨x, H1, I1, rx, a, C, dx, fs, v, ex, ⟨B, nI, iI, bmB, b, T⟩, hno, ea, ed, l, q⟩ => by
    subst ex; obtain rfl : u = Value.ref a := rx
    obtain ⟨t0, ha⟩ := exo_at I1.hok ea
    obtain ⟨mA, hns, rel⟩ := exd_at I1.hok ed; obtain ⟨od, ho, hl⟩ := lookIn_ns hns
    obtain ⟨w', hw, rw'⟩ := RelO.some_of (v := v) (o := mA n) (by rw [← l]; exact rel n)
    exact HandSPX.exc_get I1.kIn (exInst ha ho) T.ga T.gg T.exC (W.findObj_own T.dct hno rfl (by rw [hl, hw])) (handed_of rw') ⟨v, H1, I1.tok _, rw', q⟩)⟩
theorem call_isX : CallR X (.builtin "isinstance") (rIsX X.K) := by
  rintro pins s σ H xs us Q I r ⟨a, C, d, c, u, b, rfl, hc, ⟨B, nI, iI, bmB, eb, T⟩, ea, ed, ek, q⟩
  obtain ⟨u1, u2, rfl, r1, r2⟩ := vals2 r; cases hc.eq r2
  cases r1
  obtain ⟨t0, ha⟩ := exo_at I.hok ea
  have cl : (W.clsIn X.K C).isSome = true := by
    obtain ⟨cd, z, _⟩ := W.any_some T.dct
    rw [z]; rfl
  have fin : ∀ od, W.InstAt s.heap a (W.excObj C t0 d .none) C od → wpAny (model X.prog X.w) X.A (call (.builtin "isinstance") [.ref a, u]) (EP X pins σ Q) X.xe s := fun od J =>
    W.kia_one (W.kitx_exc cl T.ga T.gg T.exC T.ca T.cn T.ct T.cm) I.kIn J ek (fun z => nomatch z) fun tk => ⟨.bl b, H, I.tok tk, rfl, q⟩
  rcases ed with rfl | ⟨dx, fs, rfl, ed⟩
  · exact fin none ⟨ha, rfl, rfl, trivial⟩
  · obtain ⟨mA, hns, rel⟩ := exd_at I.hok ed
    obtain ⟨od, ho, hl⟩ := lookIn_ns hns; exact fin (some od) (exInst ha ho)
end
end EX
/-! DG1: promises of defs that may show lists (repr): known is that no list is being shown. -/
namespace DG
open L2 PyProof.Rows PySem PySem.Spec
/-- the promise of a def, called where nothing is being shown -/
structure FnG (P : Program) (w : World) (K : PySem.W.Frag) (mg : Str → Option Value) (base : Heap) (k : Nat) (f : Addr) (fd : FuncData) (ps : List Str) (sp : Sp) : Prop where
  len : ∀ xs H Q E, sp xs H Q E → xs.length = ps.length
  run : ∀ (A : Around) (outer : List Env) (s : Shared) (H : Hp) (us : List Value) (vs : List V) (Q : VK) (E : XK), A.guards = some [] → Room k A → Env0 P w K mg base A outer s H → BindsTo s fd ⟨us, []⟩ (ps.zip us) → Vals vs us → sp vs H Q E →
    codeAny (model P w) A (.call (.ref f) ⟨us, []⟩) (CR (L2.CX P w) outer P w H s Q E) s
theorem FnG.mono {P : Program} {w : World} {K : PySem.W.Frag} {mg : Str → Option Value} {base : Heap} {j k : Nat} {f : Addr} {fd : FuncData} {ps : List Str} {sp : Sp} (F : FnG P w K mg base j f fd ps sp) (h : j ≤ k) : FnG P w K mg base k f fd ps sp :=
  ⟨F.len, fun A outer s H us vs Q E g hr => F.run A outer s H us vs Q E g (hr.mono h)⟩
section
variable {P : Program} {w : World} {K : PySem.W.Frag} {mg : Str → Option Value} {base : Heap} {k : Nat} {f : Addr} {fd : FuncData} {N ps : List Str} {sp : Sp}
theorem SP.call {qual : Str} {sc : Scope} {cdv : Value} {A : Around} {outer : List Env} {s s' : Shared} {H : Hp} {Q : VK} {E : XK} {fl : Flow} (h : SP (cxOf (L2.CX P w) P w K mg base N qual sc f cdv A outer s H E) [] { nx := fun _ H' => Q .non H', rt := Q } fl s') :
    CE outer P w H s Q (match fl with | .ret u => u | _ => .none) s' :=
  match fl, h with
  | .ret u, ⟨v, _, H', J, rv, q⟩ => ⟨v, H', J.os, J.bare, J.base, J.hok, rv, q⟩
  | .next, ⟨_, H', J, q⟩ => ⟨.non, H', J.os, J.bare, J.base, J.hok, rfl, q⟩
  | .brk, ⟨_, _, _, q⟩ => q.elim
  | .cont, ⟨_, _, _, q⟩ => q.elim
/-- THE RULE for a def, where nothing is being shown -/
theorem FnG.of {x qual : Str} {st : Stmt} (Fn : Fun K x qual st f fd) (Sc : FnScope N ps (defScope st)) (len : ∀ vs H Q E, sp vs H Q E → vs.length = ps.length)
    (hbody : ∀ (cdv : Value) (A : Around) (outer : List Env) (s : Shared) (H : Hp) (vs : List V) (Q : VK) (E : XK), A.guards = some [] → Room k (A.deeper (envOfC qual (defScope st) s.heap.objs.size f cdv)) → sp vs H Q E →
      ∃ t, PSs (cxOf (L2.CX P w) P w K mg base N qual (defScope st) f cdv A outer s H E) (defBody st) t ∧ t { nx := fun _ H' => Q .non H', rt := Q } (L2.start N vs) H) : FnG P w K mg base (k + 1) f fd ps sp := by
  obtain ⟨oc, od, kV, doc, pm, an, cdv, ct, osl, rfl, lk, hcd⟩ := Fn.ex
  refine ⟨len, fun A outer s H us vs Q E hg hr e0 hb r hsp => ?_⟩
  have up : ∀ {b : Addr} {o : Obj}, base.get? b = some o → s.heap.get? b = some o := fun {b o} e => (e0.bs b o e).1
  have KX : K.In s.heap := e0.mod.kin.keeps fun b o e => up e
  have kinds : ∀ y ∈ ps.zip us, (defScope st).names.lookup y.1 = some .local ∨ ((defScope st).names.lookup y.1 = some .cell ∧ ((cellsFrom (s.heap.objs.size + 1) (defScope st).names []).lookup y.1).isSome = true) := fun y hy =>
    (Sc.par y.1 (List.of_mem_zip (show (y.1, y.2) ∈ ps.zip us from hy)).1).imp id fun q => ⟨q, PySem.W.cellsFrom_some _ _ _ (.inl q)⟩
  refine codeAny_call_function hr.depth (KX _ _ lk) rfl Sc.co Sc.gen rfl (PySem.W.codeRec_of KX hcd) (hb _ _ _ _ (wpAny_newFunctionEnv_cells Sc.kind kinds fun env he s1 x => ?_))
  subst he
  refine ⟨(e0.mod.nolimit.keeps fun b o e => up e).keeps x.toInCall.keep, codeAny_func ?_⟩
  obtain ⟨t, ht, hq⟩ := hbody cdv A outer s H vs Q E hg (hr.deeper _) hsp
  exact wpAny_mono (ht.run [] s1 (L2.start N vs) H _ (inv_start Sc hr.hd e0 (len _ _ _ _ hsp) r x) hq) (fun fl s' hs => by have z := SP.call hs; cases fl <;> exact z) fun e s' hs => hs
end
section
variable {X : Cx} {k : Nat} {f : Addr} {fd : FuncData} {ps : List Str} {sp : Sp} {E : XK} {x : Str} {p pos : Pos} {e : Expr} {es : List Expr} {t : TA}
theorem runG {pins : List (Addr × Obj)} {σ : L2.St} {H : Hp} {s : Shared} {Q : VK} {us : List Value} {vs : List V} (F : FnG X.prog X.w X.K X.mg X.base k f fd ps sp) (hg : X.A.guards = some []) (hr : Room k X.A) (hb : Binds X.K fd ps []) (hx : Passes (L2.CX X.prog X.w) X E)
    (I : Inv X pins σ H s) (r : Vals vs us) (h : sp vs H Q E) : wpAny (model X.prog X.w) X.A (call (.ref f) us) (EP X pins σ Q) X.xe s := by
  have hl : us.length = ps.length := r.length.symm.trans (F.len _ _ _ _ h)
  have b := hb s us I.kIn (by simpa using hl)
  rw [List.append_nil] at b
  refine wpAny_call (codeAny_mono (F.run X.A X.stack s H us vs Q E hg hr I.env0 b r h) fun res s' z => ?_)
  match res, z with
  | .error er, z => exact hx pins σ H s er s' I z
  | .ok (.ret _), z => exact I.after z
  | .ok .next, z => exact z.elim
  | .ok .brk, z => exact z.elim
  | .ok .cont, z => exact z.elim
theorem pe_callG (F : FnG X.prog X.w X.K X.mg X.base k f fd ps sp) (hgd : X.A.guards = some []) (hr : Room k X.A) (hg : Gl X x) (hm : X.mg x = some (.ref f)) (hk : PySem.W.keepIn X.K (.ref f) = true) (hb : Binds X.K fd ps []) (hx : Passes (L2.CX X.prog X.w) X E) (ha : PA X (e :: es) t) (hdb : (x == ("__debug__" : Str)) = false := by decide) (he : starEach (e :: es) X.env = (false, eval e X.env) :: starEach es X.env := by rfl) (hpl : (backTo pos (starEach es X.env)).any (·.1) = false := by rfl) :
    PE X (.Call (.Name x p) (e :: es) [] pos) (fun σ H Q => t σ H fun vs H1 => sp vs H1 Q E) :=
  ⟨fun pins s σ H Q I h => wpAny_Call_Name_kw (ld_glob I hg hm (PySem.W.callWith_K (h₀ := X.base) I.ok.mod.kin hk (thn (ha.run pos pins s σ H _ I h) fun us s1 ⟨vs, H1, I1, r, q⟩ => ⟨I1.kIn, runG F hgd hr hb hx I1 r q⟩) he hpl) hdb)⟩
theorem pe_callG0 (F : FnG X.prog X.w X.K X.mg X.base k f fd ps sp) (hgd : X.A.guards = some []) (hr : Room k X.A) (hg : Gl X x) (hm : X.mg x = some (.ref f)) (hk : PySem.W.keepIn X.K (.ref f) = true) (hb : Binds X.K fd ps []) (hx : Passes (L2.CX X.prog X.w) X E)
    (hdb : (x == ("__debug__" : Str)) = false := by decide) : PE X (.Call (.Name x p) [] [] pos) (fun σ H Q => sp [] H Q E) :=
  ⟨fun pins s σ H Q I h => wpAny_Call_Name_kw (ld_glob I hg hm (PySem.W.callWith_K0 I.kIn hk (runG (us := []) F hgd hr hb hx I .nil h)) hdb)⟩
end
end DG
/-! DG2: a law's own call, from a promise that holds where nothing is being shown. -/
namespace DG
open L2 PyProof.Rows PySem PySem.Spec
open Classical in
/-- the heap in which the script alone is known (unless the module has it) -/
noncomputable def scriptHp (K : PySem.W.Frag) (a : Addr) (vs : List Value) (ns : List Int) : Hp := fun b => if b = a ∧ K.lookup a = none then some (.frz { cls := .type "list", data := .seq vs.toArray } (.lst (ns.map V.int))) else none
section
variable {P : Program} {w : World} {K : PySem.W.Frag} {a : Addr} {vs : List Value} {ns : List Int} {h : Heap}
theorem scriptHp_some {b : Addr} {u : HO} (e : scriptHp K a vs ns b = some u) : b = a ∧ K.lookup a = none ∧ u = .frz { cls := .type "list", data := .seq vs.toArray } (.lst (ns.map V.int)) := by
  unfold scriptHp at e
  split at e
  · rename_i c; exact ⟨c.1, c.2, (Option.some.inj e).symm⟩
  · cases e
theorem scriptHp_only : Only (scriptHp K a vs ns) := fun b => by
  cases e : scriptHp K a vs ns b with
  | none => exact .inl rfl
  | some u => exact .inr ⟨_, _, congrArg some (scriptHp_some e).2.2⟩
theorem scriptHp_seq (KX : K.In h) (ha : h.get? a = some { cls := .type "list", data := .seq vs.toArray }) (hi : IntsAre vs ns) (hl : ns.length ≤ sizeLine) : SqL K (scriptHp K a vs ns) a (ns.map V.int) := by
  cases hk : K.lookup a with
  | none => exact .inl (.inr ⟨{ cls := .type "list", data := .seq vs.toArray }, if_pos ⟨rfl, hk⟩⟩)
  | some o =>
    cases ha.symm.trans (KX a o hk)
    exact .inr ⟨_, vs.toArray, _, hk, rfl, rfl, rfl, by rw [List.size_toArray, hi.length]; exact hl, by simpa using vals_ints hi⟩
theorem scriptHp_ok (ha : h.get? a = some { cls := .type "list", data := .seq vs.toArray }) (hi : IntsAre vs ns) (hl : ns.length ≤ sizeLine) : HOk P w (scriptHp K a vs ns) h := fun b u e => by
  obtain ⟨rfl, _, rfl⟩ := scriptHp_some e
  exact ⟨ha, by rw [List.length_map]; exact hl, vs, _, vals_ints hi, ha⟩
end
theorem lawCall {P : Program} {w : World} {K : PySem.W.Frag} {mg mb : Str → Option Value} {k : Nat} {fa a : Addr} {fd : FuncData} {x : Str} {sp : Sp} {s : Shared} {vs : List Value} {ns : List Int}
    (KX : K.In s.heap) (hm : s.heap.Ns mainGlobals mg) (hb : s.heap.Ns builtinsNs mb) (hbb : ∀ x : Str, x ≠ "__name__" → mb x = bootBuiltins x) (lim : s.heap.NoLimit) (gens : s.gens = #[])
    (ha : s.heap.get? a = some { cls := .type "list", data := .seq vs.toArray }) (hi : IntsAre vs ns) (hl : ns.length ≤ sizeLine) (hr : Room k callerA)
    (F : ∀ base : Heap, K.In base → base.Ns mainGlobals mg → FnG P w K mg base k fa fd [x] sp) (hbind : ∀ (s : Shared) (u : Value), BindsTo s fd ⟨[u], []⟩ [(x, u)])
    (hsp : ∀ H : Hp, Only H → SqL K H a (ns.map V.int) → sp [.ref a] H (fun v _ => v = .bl true) fun _ _ _ => False) :
    codeAny (model P w) callerA (.call (.ref fa) ⟨[.ref a], []⟩) (fun r s' => r = .ok (.ret (.bool true)) ∧ OldK s.heap s'.heap ∧ s'.os = s.os ∧ AllBare s'.gens) s := by
  generalize hH : scriptHp K a vs ns = H
  have hO : Only H := hH ▸ scriptHp_only
  have hS : SqL K H a (ns.map V.int) := hH ▸ scriptHp_seq KX ha hi hl
  have hok : HOk P w H s.heap := hH ▸ scriptHp_ok ha hi hl
  have isA : ∀ {b : Addr} {u : HO}, H b = some u → b = a ∧ K.lookup a = none := fun {b u} e => by subst hH; exact ⟨(scriptHp_some e).1, (scriptHp_some e).2.1⟩
  have free : ∀ {b : Addr}, (∀ u, H b = some u → False) → H b = none := fun {b} z => by
    cases e : H b with
    | none => rfl
    | some u => exact (z u e).elim
  have dictFree : ∀ {b : Addr} {m : Str → Option Value}, s.heap.Ns b m → (hidT s.heap H).Ns b m := fun {b m} ⟨o, es, ep, e, d, r⟩ => ⟨o, es, ep, hidT_get e (free fun u z => by
    obtain ⟨rfl, _⟩ := isA z
    cases ha.symm.trans e
    cases d), d, r⟩
  have KB : K.In (hidT s.heap H) := fun b o e => hidT_get (KX b o e) (free fun u z => by
    obtain ⟨rfl, z2⟩ := isA z
    rw [z2] at e; cases e)
  obtain ⟨mc, l1, l2⟩ := lim
  have e0 : Env0 P w K mg (hidT s.heap H) callerA [] s H := ⟨rfl, ⟨KB, dictFree hm, ⟨mb, dictFree hb, hbb⟩, ⟨mc, dictFree l1, l2⟩⟩, fun b o e => of_hidT e, Nat.le_of_eq (hidT_size _ _), trivial, (fun b z => by cases z), hok, .of_eq gens⟩
  refine codeAny_mono ((F _ KB (dictFree hm)).run callerA [] s H [.ref a] [.ref a] _ _ rfl hr e0 (hbind s (.ref a)) (.cons rfl .nil) (hsp H hO hS)) fun r s' z => ?_
  match r, z with
  | .error e, ⟨_, _, _, _, _, _, _, _, _, _, _, _, z⟩ => exact z.elim
  | .ok .next, z => exact z.elim
  | .ok .brk, z => exact z.elim
  | .ok .cont, z => exact z.elim
  | .ok (.ret u), ⟨v, H', os, bare, un, hok', rv, ev⟩ =>
    subst ev
    cases rv; refine ⟨rfl, OldK.of_keep fun b o e => ?_, os, bare⟩
    cases q : H b with
    | none => exact un.keep b o e q (fun z => by cases z) (fun z => by cases z)
    | some u =>
      rcases hO b with z | ⟨ob, ys, z⟩
      · rw [q] at z; cases z
      · obtain ⟨e1, _⟩ := hok b _ z
        obtain ⟨e2, _⟩ := hok' b _ (un.frzs b ob _ z)
        cases e.symm.trans e1
        exact e2
/-- the end of a law: from the promise of its def -/
theorem walkG {l : PySem.W.OpenLaw} {n k : Nat} {q : Program} {loose : List Str} {XP : (Str → Option Value) → Heap → Prop} {YP : World → Heap → Prop} {d : DefRec} {K : Params → PySem.W.Frag} {sp : World → (Str → Option Value) → Sp} {x : Str} (hn : l.most = some n) (hn2 : n ≤ sizeLine) (hdf : d.params.defaults = []) (hr : Room k callerA) (hY : ∀ (w : World) (h : Heap), YP w h → (K w.params).In h) (F : ∀ (w : World) (mg : Str → Option Value) (fa : Addr) (h : Heap), (K w.params).In h → h.Ns mainGlobals mg → mg d.name = some (.ref fa) →
      ∃ fd : FuncData, (∀ (s : Shared) (u : Value), BindsTo s fd ⟨[u], []⟩ [(x, u)]) ∧ ∀ base : Heap, (K w.params).In base → base.Ns mainGlobals mg → FnG l.prog w (K w.params) mg base k fa fd [x] (sp w mg))
    (hsp : ∀ (w : World) (mg : Str → Option Value) (H : Hp) (a : Addr) (ns : List Int), ns.length ≤ n → Only H → SqL (K w.params) H a (ns.map V.int) → sp w mg [.ref a] H (fun v _ => v = .bl true) fun _ _ _ => False) : PySem.W.WalkO q loose XP YP l.row.toRowW d [] (fun f vs => PySem.call f vs) :=
  Att.attach_call hn hdf fun w s0 s1 mg mb fa o pm cd doc a vs ns G Y _ _ _ hmg hobj hints hlen hg => by
    obtain ⟨fd, hb, hF⟩ := F w mg fa _ (hY w _ Y) G.T.g hmg
    exact lawCall (hY w _ Y) G.T.g G.T.b G.T.builtins G.T.nolimit hg hobj hints (Nat.le_trans hlen hn2) hr hF hb fun H hO hS => hsp w mg H a ns hlen hO hS
end DG
/-! TN1: tuples that have no dict, made by displays, tuple(..), slices, sums, products. -/
namespace TN
open L2 PyProof.Rows PySem PySem.Spec
/-- a plain tuple's object -/
abbrev oT (its : List Value) : Obj := { cls := .type "tuple", data := .seq its.toArray }
/-- a plain tuple, read as it is -/
abbrev hT (its : List Value) (xs : List V) : HO := .frz (oT its) (.tup xs)
def SqN (H : Hp) (a : Addr) (xs : List V) : Prop := ∃ its, H a = some (hT its xs)
theorem SqN.of {H : Hp} {a : Addr} {xs : List V} {its : List Value} (h : H a = some (hT its xs)) : SqN H a xs := ⟨its, h⟩
theorem SqN.sqt {K : PySem.W.Frag} {H : Hp} {a : Addr} {xs : List V} (h : SqN H a xs) : SqT K H a xs := let ⟨its, e⟩ := h; .inl (.inr ⟨_, e⟩)
theorem SqN.same {H H' : Hp} {a : Addr} {xs : List V} (e : L2.Same H H') (h : SqN H a xs) : SqN H' a xs := let ⟨its, q⟩ := h; ⟨its, e _ _ q⟩
section
variable {s : Shared} {X : Cx} {pins : List (Addr × Obj)} {σ : L2.St} {H : Hp}
theorem SqN.at {a : Addr} {xs : List V} (h : SqN H a xs) (I : Inv X pins σ H s) : ∃ its, Vals xs its ∧ s.heap.get? a = some (oT its) ∧ xs.length ≤ sizeLine := by
  obtain ⟨its, e⟩ := h
  obtain ⟨e1, z, its2, r, o, e2, c, n, d⟩ := I.hok a _ e
  rw [e1] at e2
  cases e2
  have : its = its2 := by
    have d' : Data.seq its.toArray 0 = Data.seq its2.toArray n := d
    injection d' with d1 _
    have := congrArg Array.toList d1
    simpa using this
  subst this
  exact ⟨its, r, e1, z⟩
/-- a new plain tuple -/
theorem newN (I : Inv X pins σ H s) {its : List Value} {xs : List V} (r : Vals xs its) (hz : xs.length ≤ sizeLine) : Inv X pins σ (upd H s.heap.objs.size (hT its xs)) { s with heap := s.heap.push (oT its) } :=
  I.laid (t' := s.toks) (fun b ob q => Heap.get?_push_of_some _ q) (Nat.le_refl _) (show ObjOk X.prog X.w _ _ _ (hT its xs) from ⟨Heap.get?_push_size _ rfl, hz, its, r, IsTup.new _ _⟩)
/-! ### displays -/
def tTupN (t : TA) : TE := fun σ H Q => t σ H fun xs H1 => xs.length ≤ sizeLine ∧ ∀ p its, H1 p = none → Q (.ref p) (upd H1 p (hT its xs))
theorem pe_tupN {es : List Expr} {t : TA} {pos : Pos} {x1 : Nat} (h : PA X es t) : PE X (.Tuple es x1 pos) (tTupN t) := by
  refine ⟨fun pins s σ H Q I hq => wpAny_Tuple_spliced (thn (h.run pos pins s σ H _ I hq) fun us s1 ⟨xs, H1, I1, r, z, q⟩ => ⟨by rw [← r.length]; exact z, ?_⟩)⟩
  exact ⟨.ref s1.heap.objs.size, _, newN I1 r z, rfl, q _ us (I1.hok.fresh (Nat.le_refl _))⟩
/-! ### tuple(x) -/
theorem call_tupN : CallR X (.type "tuple") (fun xs H Q => ∃ p ys, xs = [.ref p] ∧ ((SqL X.K H p ys ∧ ∀ l its, H l = none → Q (.ref l) (upd H l (hT its ys))) ∨ (SqN H p ys ∧ Q (.ref p) H))) := by
  rintro pins s σ H xs us Q I r ⟨p, ys, rfl, h⟩
  obtain ⟨u, rfl, rx⟩ := vals1 r; cases rx; rcases h with ⟨hq, q⟩ | ⟨hq, q⟩
  · (obtain ⟨its, r', pl, hz⟩ := I.list hq)
    refine call_tuple_list pl.isList (fun h' kp => ?_) (by have := r'.length; simp only [List.size_toArray]; omega); have I1 : Inv X pins σ H { s with heap := h' } := I.kept (t' := s.toks) kp
    exact ⟨.ref h'.objs.size, _, newN I1 r' hz, rfl, q _ its (I1.hok.fresh (Nat.le_refl _))⟩
  · obtain ⟨its, r', pl, hz⟩ := I.tuple (hq.sqt (K := X.K))
    (exact call_tuple_same pl ⟨.ref p, H, I, rfl, q⟩)
/-! ### t + u -/
def rCatN : R2 := fun x y H Q => ∃ a b xs ys, x = .ref a ∧ y = .ref b ∧ SqN H a xs ∧ SqN H b ys ∧ xs.length + ys.length ≤ sizeLine ∧
  (xs = [] → Q (.ref b) H) ∧ (xs ≠ [] → ys = [] → Q (.ref a) H) ∧ (xs ≠ [] → ys ≠ [] → ∀ p its, H p = none → Q (.ref p) (upd H p (hT its (xs ++ ys))))
theorem op_catN : OpR X (binaryOp .Add) rCatN := by
  rintro pins s σ H x y v u Q I rx ry ⟨a, b, xs, ys, rfl, rfl, ha, hb, hz, q0, q1, q2⟩
  by_cases hx : xs = []
  · exact op_catA pins s σ H _ _ v u Q I rx ry ⟨a, b, xs, ys, rfl, rfl, ha.sqt, hb.sqt, hz, q0, q1, fun h => absurd hx h⟩
  cases rx
  cases ry
  obtain ⟨its, r1, p1, _⟩ := I.tuple (ha.sqt (K := X.K))
  obtain ⟨its2, r2, p2, _⟩ := I.tuple (hb.sqt (K := X.K))
  refine HT.cat_tup p1 p2 (fun z => hx (r1.nil_iff.mp z)) (fun z => ⟨.ref a, H, I, rfl, q1 hx (r2.nil_iff.mp z)⟩) (fun z => ?_) (by rw [← r1.length, ← r2.length]; exact hz)
  exact ⟨.ref s.heap.objs.size, _, newN I (r1.append r2) (by rw [List.length_append]; exact hz), rfl, q2 hx (fun w => z (r2.nil_iff.mpr w)) _ _ (I.hok.fresh (Nat.le_refl _))⟩
/-! ### t[lo:hi] -/
def rSlN : V → Option Int → Option Int → Hp → VK → Prop := fun x lo hi H Q => ∃ a xs, x = .ref a ∧ SqN H a xs ∧
  (HT.sIx xs.length 0 lo = 0 ∧ HT.sIx xs.length xs.length hi = xs.length → Q (.ref a) H) ∧ (¬ (HT.sIx xs.length 0 lo = 0 ∧ HT.sIx xs.length xs.length hi = xs.length) → ∀ p its, H p = none → Q (.ref p) (upd H p (hT its (cutV xs lo hi))))
theorem sl_tupN : SlR X rSlN := by
  rintro pins s σ H x v vl vu lo hi sl Q I rx hs pl pu ⟨a, xs, rfl, hx, q1, q2⟩
  by_cases hw : (HT.sIx xs.length 0 lo = 0 ∧ HT.sIx xs.length xs.length hi = xs.length)
  · exact sl_tupA pins s σ H _ v vl vu lo hi sl Q I rx hs pl pu ⟨a, xs, rfl, hx.sqt, q1, fun h => absurd hw h⟩
  cases rx
  obtain ⟨its, r, ht, hz⟩ := I.tuple (hx.sqt (K := X.K)); have hlen : its.toArray.size = xs.length := by rw [List.size_toArray]; exact r.length.symm
  refine ⟨"tuple", _, PyProof.Rows.slot_tuple_getitem.lookup, ht.typeIs, HT.getItem_tuple_cut ht hs pl pu (by rw [hlen]; exact hw) ?_ (by rw [hlen]; exact hz)⟩
  rw [hlen]
  exact ⟨.ref s.heap.objs.size, _, newN I ((r.drop (HT.sIx xs.length 0 lo)).take (HT.sIx xs.length xs.length hi - HT.sIx xs.length 0 lo)) (Nat.le_trans (cutV_length xs lo hi) hz), rfl, q2 hw _ _ (I.hok.fresh (Nat.le_refl _))⟩
/-! ### t * n -/
def rRepN : R2 := fun x y H Q => ∃ l k xs, x = .ref l ∧ y = .int k ∧ SqN H l xs ∧ xs ≠ [] ∧ 2 ≤ k ∧ k ≤ 1000 ∧ xs.length ≤ 1000 ∧ ∀ p its, H p = none → Q (.ref p) (upd H p (hT its (List.replicate k.toNat xs).flatten))
theorem op_repN : OpR X (binaryOp .Mult) rRepN := by
  rintro pins s σ H x y v u Q I rx ry ⟨l, k, xs, rfl, rfl, hT, hne, h1, h2, hz, q⟩
  cases rx
  obtain ⟨t, rfl⟩ := ry
  obtain ⟨its, r, ho, _⟩ := hT.at I; have hle : its.length = xs.length := r.length.symm
  have hn : its ≠ [] := fun e => hne (List.eq_nil_of_length_eq_zero (by rw [← hle, e]; rfl))
  have hi : its.toArray.isEmpty = false := by cases its with | nil => exact absurd rfl hn | cons a b => rfl
  (have hsz0 : its.toArray.size = xs.length := by rw [List.size_toArray, hle])
  have a0 : ((xs.length : Nat) : Int) * k ≤ 1000 * k := Int.mul_le_mul_of_nonneg_right (by omega) (by omega)
  have hm : ((its.toArray.size : Nat) : Int) * k ≤ 1000000 := by rw [hsz0]; omega
  have a1 : k.toNat * xs.length ≤ 1000 * 1000 := Nat.mul_le_mul (by omega) hz; have zle : sizeLine = 16777216 := sizeLine_eq
  have flen : (List.replicate k.toNat its).flatten.length ≤ sizeLine := by rw [PyProof.Rows.lm_len_rep_flat, hle]; omega
  have c0 : (decide (k < -(2 ^ 63)) || decide (k ≥ 2 ^ 63)) = false := by rw [decide_eq_false (by omega), decide_eq_false (by omega)] <;> rfl
  have c1 : (its.toArray.isEmpty || k == 1) = false := by rw [hi, Bool.false_or]; exact beq_eq_false_iff_ne.mpr (by omega)
  have c2 : (decide (k ≤ 0) || its.toArray.isEmpty) = false := by rw [hi, Bool.or_false]; exact decide_eq_false (by omega)
  have c4 : Builtin.Tuple.tupleTooMany (((its.toArray.size : Nat) : Int) * k) = false := by unfold Builtin.Tuple.tupleTooMany; exact decide_eq_false (by omega)
  refine wpAny_binaryOp_repeat_ref (T := "tuple") (U := "int") (by decide) ⟨_, ho, rfl⟩ (fun s' => typeIs_int s' k t) noFill_tuple_mul F.fills_int_mul F.slot_int_rmul repeat_tuple F.slot_int_index.lookup (call_meets F.slot_int_rmul (typeIs_int s k t) F.entry_int_rmul (F.args_int_rmul_2 _ _) (int_rmul_tuple k t l its.toArray 0 none #[]) ⟨ho, rfl, ⟨_, ho, rfl⟩, call_meets F.slot_tuple_mul ⟨_, ho, rfl⟩ F.entry_tuple_mul (F.args_tuple_mul_2 _ _) (tuple_mulW l its.toArray 0 none #[] k t c0 c1 c2 (by omega) c4 (by rw [size_rep, List.size_toArray]; exact flen)) ⟨ho, ?_⟩⟩)
  rw [size_rep]
  exact ⟨.ref s.heap.objs.size, _, newN I (r.rep k.toNat) (by rw [PyProof.Rows.lm_len_rep_flat]; omega), rfl, q _ _ (I.hok.fresh (Nat.le_refl _))⟩
end
/-! ### t.index(n) -/
section
variable {X : Cx} {o e : Expr} {to : TE} {t : TA} {apos cpos : Pos}
def rIndex : V → List V → Hp → VK → Prop := fun x vs H Q => ∃ (a : Addr) (ns : List Int) (k : Int), x = .ref a ∧ vs = [.int k] ∧ SqN H a (ns.map V.int) ∧ k ∈ ns ∧ Q (.int (ns.idxOf k : Nat)) H
def tIndex (to : TE) (t : TA) : TE := fun σ H Q => to σ H fun x H1 => (∃ a xs, x = .ref a ∧ SqN H1 a xs) ∧ t σ H1 fun vs H2 => rIndex x vs H2 Q
theorem ints_are : ∀ {ns : List Int} {us : List Value}, Vals (ns.map V.int) us → IntsAre us ns
  | [], _, .nil => .nil
  | k :: ns, _, .cons r q => by obtain ⟨tk, rfl⟩ := r; exact .cons k tk (ints_are q)
theorem pe_index (ho : PE X o to) (ha : PA X [e] t) (hbase : attributeBase o "index" X.env (eval o X.env) = eval o X.env := by rfl)
    (hfew : ((backTo cpos (starEach [e] X.env)).all (fun x => !x.1) && (backToKw cpos (keywordEach [] X.env)).all (fun x => x.1.isSome) && decide ([e].length + ([] : List Keyword).length + (if ([] : List Keyword).isEmpty then 0 else 1) < 30)) = true := by rfl) (hline : (apos.endLine == cpos.line) = true := by rfl) (hs : starEach [e] X.env = (false, eval e X.env) :: starEach [] X.env := by rfl) (hplain : (backTo cpos (starEach [] X.env)).any (·.1) = false := by rfl) :
    PE X (.Call (.Attribute o "index" apos) [e] [] cpos) (tIndex to t) := by
  refine ⟨fun pins s σ H Q I h => wpAny_Call_method_late hbase hfew hline rfl (thn (ho.run pins s σ H _ I h) fun v s1 ⟨x, H1, I1, r1, ⟨a, xs, ex, hx⟩, q1⟩ => ?_)⟩
  subst ex
  cases r1
  obtain ⟨its, _, e1, _⟩ := hx.at I1
  refine ⟨"tuple", "tuple.index", PySem.F.plainAttrs_tuple, PySem.F.slot_tuple_index, PySem.F.type_tuple_index, ⟨_, e1, rfl⟩, fun b eb => ?_, ?_⟩
  · cases eb; exact ⟨_, e1, rfl⟩
  have hA := ha.run cpos pins s1 σ H1 _ I1 q1; rw [hs] at hA ⊢
  refine Calls.callWith_builtin (by show (false || (backTo cpos (starEach [] X.env)).any (·.1)) = false; rw [hplain] <;> rfl) (Calls.evalArgs_plain (thn hA fun us s2 ⟨vs, H2, I2, r2, b, ns, k, eb, ev, hn, hk, q2⟩ => ?_))
  cases eb
  subst ev
  obtain ⟨u, rfl, tk, rfl⟩ := vals1 r2
  obtain ⟨its2, r3, e3, _⟩ := hn.at I2
  exact PySem.SeqAt.tuple_index_ints ⟨_, e3, rfl, _, rfl⟩ (ints_are r3) hk ⟨.int (ns.idxOf k : Nat), H2, I2.tok _, ⟨_, rfl⟩, q2⟩
end
end TN
/-! DL1: data states over the hand layer: every value is data (PyData) or a mutable list (a cell). -/
namespace DL
open PySem PySem.Spec L2

mutual
inductive Dd (K : PySem.W.Frag) (H : Hp) : V → PyData → Prop
  | non : Dd K H .non .none
  | bl (b : Bool) : Dd K H (.bl b) (.bool b)
  | int (i : Int) : Dd K H (.int i) (.int i)
  | str (x : Str) : Dd K H (.str x) (.str x)
  | lst {a : Addr} {xs : List V} {ds : List PyData} : Rd H a (.lst xs) → DdAll K H xs ds → Dd K H (.ref a) (.list ds)
  | tup {a : Addr} {xs : List V} {ds : List PyData} : TN.SqN H a xs → DdAll K H xs ds → Dd K H (.ref a) (.tuple ds)
  | dic {a : Addr} : H a = some (.dK []) → Dd K H (.ref a) (.dict [])
inductive DdAll (K : PySem.W.Frag) (H : Hp) : List V → List PyData → Prop
  | nil : DdAll K H [] []
  | cons {v : V} {vs : List V} {d : PyData} {ds : List PyData} : Dd K H v d → DdAll K H vs ds → DdAll K H (v :: vs) (d :: ds)
end

theorem Same.rd {H H' : Hp} {a : Addr} {u : HO} (e : Same H H') (h : Rd H a u) : Rd H' a u := by
  rcases h with h | ⟨o, h⟩
  · exact .inl (e _ _ h)
  · exact .inr ⟨o, e _ _ h⟩
theorem Same.sqt {K : PySem.W.Frag} {H H' : Hp} {a : Addr} {xs : List V} (e : Same H H') (h : SqT K H a xs) : SqT K H' a xs := by
  rcases h with h | h
  · exact .inl (Same.rd e h)
  · exact .inr h
section
variable {K : PySem.W.Frag} {H H' : Hp}
mutual
theorem Dd.same (e : Same H H') : ∀ (d : PyData) (v : V), Dd K H v d → Dd K H' v d
  | .none, _, h => by cases h; exact .non
  | .bool b, _, h => by cases h; exact .bl b
  | .int i, _, h => by cases h; exact .int i
  | .str x, _, h => by cases h; exact .str x
  | .list ds, _, h => by
    cases h with
    | lst hs ha => exact .lst (Same.rd e hs) (DdAll.same e ds _ ha)
  | .tuple ds, _, h => by
    cases h with
    | tup hs ha => exact .tup (TN.SqN.same e hs) (DdAll.same e ds _ ha)
  | .dict kvs, _, h => by
    cases h with
    | dic hs => exact .dic (e _ _ hs)
theorem DdAll.same (e : Same H H') : ∀ (ds : List PyData) (vs : List V), DdAll K H vs ds → DdAll K H' vs ds
  | [], _, h => by cases h; exact .nil
  | d :: ds, _, h => by
    cases h with
    | cons h1 h2 => exact .cons (Dd.same e d _ h1) (DdAll.same e ds _ h2)
end
theorem DdAll.length : ∀ {vs : List V} {ds : List PyData}, DdAll K H vs ds → vs.length = ds.length
  | _, _, .nil => rfl
  | _, _, .cons _ h => by simp [DdAll.length h]
theorem DdAll.get : ∀ {vs : List V} {ds : List PyData} {i : Nat} {v : V}, DdAll K H vs ds → vs[i]? = some v → ∃ d, ds[i]? = some d ∧ Dd K H v d
  | _, _, _, _, DdAll.nil, e => by simp at e
  | _, _, 0, _, .cons h _, e => by simp at e; subst e; exact ⟨_, rfl, h⟩
  | _, _, i + 1, v, .cons _ h, e => by
    obtain ⟨d, h1, h2⟩ := DdAll.get (i := i) (v := v) h (by simpa using e)
    exact ⟨d, by simpa using h1, h2⟩
theorem DdAll.get' : ∀ {vs : List V} {ds : List PyData} {i : Nat} {d : PyData}, DdAll K H vs ds → ds[i]? = some d → ∃ v, vs[i]? = some v ∧ Dd K H v d
  | _, _, _, _, DdAll.nil, e => by simp at e
  | _, _, 0, _, .cons h _, e => by simp at e; subst e; exact ⟨_, rfl, h⟩
  | _, _, i + 1, d, .cons _ h, e => by
    obtain ⟨v, h1, h2⟩ := DdAll.get' (i := i) (d := d) h (by simpa using e)
    exact ⟨v, by simpa using h1, h2⟩
theorem DdAll.append : ∀ {vs ws : List V} {ds es : List PyData}, DdAll K H vs ds → DdAll K H ws es → DdAll K H (vs ++ ws) (ds ++ es)
  | _, _, _, _, .nil, h => h
  | _, _, _, _, .cons h t, k => .cons h (DdAll.append t k)
theorem DdAll.take : ∀ {vs : List V} {ds : List PyData} (n : Nat), DdAll K H vs ds → DdAll K H (vs.take n) (ds.take n)
  | _, _, 0, _ => by simp; exact .nil
  | _, _, _ + 1, .nil => by simp; exact .nil
  | _, _, n + 1, .cons h t => by simp; exact .cons h (DdAll.take n t)
theorem DdAll.drop : ∀ {vs : List V} {ds : List PyData} (n : Nat), DdAll K H vs ds → DdAll K H (vs.drop n) (ds.drop n)
  | _, _, 0, h => by simpa using h
  | _, _, _ + 1, .nil => by simp; exact .nil
  | _, _, n + 1, .cons h t => by simp; exact DdAll.drop n t
theorem DdAll.set {v : V} {d : PyData} (r : Dd K H v d) : ∀ {vs : List V} {ds : List PyData} (i : Nat), DdAll K H vs ds → DdAll K H (vs.set i v) (ds.set i d)
  | _, _, _, .nil => .nil
  | _, _, 0, DdAll.cons _ t => DdAll.cons r t
  | _, _, i + 1, .cons q t => .cons q (DdAll.set r i t)
theorem DdAll.reverse : ∀ {vs : List V} {ds : List PyData}, DdAll K H vs ds → DdAll K H vs.reverse ds.reverse
  | _, _, .nil => .nil
  | _, _, .cons h t => by simp only [List.reverse_cons]; exact DdAll.append (DdAll.reverse t) (.cons h .nil)
end

/-- the world and the module's names -/
structure Wd where
  w : World
  mg : Str → Option Value
abbrev _root_.L2.Cx.wd (X : Cx) : Wd := ⟨X.w, X.mg⟩

/-! ### the state -/
/-- things of other kinds; xc: an exception that is being handled, with its object and its dict -/
inductive Oth where
  | xc (a d : Addr) (cls : Str) (fs : List (Str × PyData))
  | clo (f c : Addr) (q : Str) (σ : L2.St) (sl : List (Option PyData))
/-- a cell: a list (live, or taken as data), a dict of numbers, a set of numbers -/
inductive Cl where
  | ls (live : Bool) (ds : List PyData)
  | dk (kvs : List (Int × Int))
  | si (ns : List Int)
def kvV (kvs : List (Int × Int)) : List (Key × V) := kvs.map fun p => (.inl p.1, .int p.2)
inductive VD where
  | dat (d : PyData)
  | rf (j : Nat)
  | bag (ds : List PyData)
  | st (ds : List PyData)
  | ex (e : Str × List (Str × PyData))
  | exs (es : List (Str × List (Str × PyData)))
  | oth (o : Oth)
structure DS where
  sl : List (Option VD)
  ce : List Cl
structure Exn where
  cls : Str
  fs : List (Str × PyData)
inductive R (α : Type) where
  | ok (a : α)
  | exc (x : Exn) (S : DS)
  | bad
abbrev M (α : Type) := DS → R (α × DS)
def R.bind {α β : Type} (r : R α) (f : α → R β) : R β := match r with
  | .ok a => f a
  | .exc x S => .exc x S
  | .bad => .bad
instance : Monad M where
  pure a := fun S => .ok (a, S)
  bind t f := fun S => R.bind (t S) fun p => f p.1 p.2
def M.bad {α : Type} : M α := fun _ => .bad
theorem M.pure_run {α : Type} (a : α) (S : DS) : (pure a : M α) S = .ok (a, S) := rfl
theorem M.bind_run {α β : Type} (t : M α) (f : α → M β) (S : DS) : (t >>= f) S = R.bind (t S) fun p => f p.1 p.2 := rfl

/-- an exception of an own class as a value: its class by its name, its fields (newest first) -/
def RdX (K : PySem.W.Frag) (wl : Wd) (G : Hp) (e : Str × List (Str × PyData)) (v : V) : Prop := ∃ (a C : Addr) (d : Option Addr), v = .ref a ∧ wl.mg e.1 = some (.ref C) ∧ G a = some (exo a C d) ∧
  ((d = none ∧ e.2 = []) ∨ ∃ (dx : Addr) (vs : List V), d = some dx ∧ G dx = some (exd dx ((e.2.map (·.1)).zip vs)) ∧ DdAll K G vs (e.2.map (·.2)))
def RdXs (K : PySem.W.Frag) (wl : Wd) (G : Hp) : List (Str × List (Str × PyData)) → List V → Prop
  | [], [] => True
  | x :: xs, v :: vs => RdX K wl G x v ∧ RdXs K wl G xs vs
  | _, _ => False
theorem RdX.same {K : PySem.W.Frag} {wl : Wd} {G G' : Hp} (s : Same G G') {e : Str × List (Str × PyData)} {v : V} (h : RdX K wl G e v) : RdX K wl G' e v := by
  obtain ⟨a, C, d, h1, h2, h3, h4⟩ := h
  refine ⟨a, C, d, h1, h2, s _ _ h3, ?_⟩
  rcases h4 with h4 | ⟨dx, vs, h5, h6, h7⟩
  · exact .inl h4
  · exact .inr ⟨dx, vs, h5, s _ _ h6, DdAll.same s _ _ h7⟩
theorem RdXs.same {K : PySem.W.Frag} {wl : Wd} {G G' : Hp} (s : Same G G') : ∀ {es : List (Str × List (Str × PyData))} {vs : List V}, RdXs K wl G es vs → RdXs K wl G' es vs
  | [], [], _ => trivial
  | _ :: _, _ :: _, h => ⟨RdX.same s h.1, RdXs.same s h.2⟩
  | [], _ :: _, h => h.elim
  | _ :: _, [], h => h.elim
def RdO (K : PySem.W.Frag) (wl : Wd) (G : Hp) : Oth → V → Prop
  | .xc a d cls fs, v => v = .ref a ∧ ∃ (C : Addr) (vs : List V), wl.mg cls = some (.ref C) ∧ G d = some (.xd ((fs.map (·.1)).zip vs)) ∧ DdAll K G vs (fs.map (·.2))
  | .clo f c q σ sl, v => v = .ref f ∧ G c = some (LamX.CodeO c q) ∧ ∀ (i : Nat) (d : PyData), sl[i]? = some (some d) → ∃ u, σ[i]? = some (some u) ∧ Dd K G u d
theorem RdO.same {K : PySem.W.Frag} {wl : Wd} {G G' : Hp} (s : Same G G') {o : Oth} {v : V} (h : RdO K wl G o v) : RdO K wl G' o v := by
  cases o with
  | xc a d cls fs =>
    obtain ⟨h1, C, vs, h2, h3, h4⟩ := h
    exact ⟨h1, C, vs, h2, s _ _ h3, DdAll.same s _ _ h4⟩
  | clo f c q σ sl =>
    obtain ⟨h1, h2, h3⟩ := h
    exact ⟨h1, s _ _ h2, fun i d e => let ⟨u, e1, e2⟩ := h3 i d e; ⟨u, e1, Dd.same s _ _ e2⟩⟩ /-! ### tables of code objects -/
/-- which tables there are, and the name that their code objects bear -/
class TabT where
  T : List (Addr × Str)
theorem codeO_set {w : World} {c a : Addr} {q : Str} {S : Int → Bool} {n : Nat} : SetO w a S n ≠ LamX.CodeO c q := fun z => by
  have z' : (fun h => SetR w h a S n) = fun h : Heap => ∃ (oc : Obj) (vs : Array Value) (t : Tok), h.get? c = some oc ∧ oc.data = .fields vs ∧ vs[1]? = some (.str q t) := by
    unfold SetO LamX.CodeO at z
    injection z
  let ob : Obj := { cls := .none, data := .fields #[.none, .str q 0] }
  let h0 : Heap := { objs := Array.replicate (c + a + 1) ob }
  have g : ∀ b, b < c + a + 1 → h0.get? b = some ob := fun b hb => by
    show (match (Array.replicate (c + a + 1) ob)[b]? with | some ⟨_, _, .freed, _⟩ => none | o => o) = some ob
    rw [Array.getElem?_replicate, if_pos hb]
  have y : SetR w h0 a S n := by
    have := congrFun z' h0
    rw [this]
    exact ⟨ob, _, _, g c (Nat.lt_succ_of_le (Nat.le_add_right c a)), rfl, rfl⟩
  obtain ⟨o, es, ep, t, h1, _, h2, _⟩ := y
  rw [g a (Nat.lt_succ_of_le (Nat.le_add_left a c))] at h1
  cases h1
  cases h2
theorem code_lst {c : Addr} {q : Str} {vs : List V} : HO.lst vs ≠ LamX.CodeO c q := fun z => by unfold LamX.CodeO at z; cases z
theorem code_dK {c : Addr} {q : Str} {kvs : List (Key × V)} : HO.dK kvs ≠ LamX.CodeO c q := fun z => by unfold LamX.CodeO at z; cases z
theorem tabs_new {T : List (Addr × Str)} {H : Hp} {p : Addr} {o : HO} (t : LamX.Tabs T H) (h : H p = none) : LamX.Tabs T (upd H p o) := t.ext fun b u q => by
  rw [upd_ne (ne_of_none q h)]; exact q
theorem tabs_write {T : List (Addr × Str)} {H : Hp} {p : Addr} {o u : HO} (t : LamX.Tabs T H) (h : H p = some u) (h1 : ∀ ps, u ≠ .tbl ps) (h2 : ∀ q, u ≠ LamX.CodeO p q) : LamX.Tabs T (upd H p o) := fun b hb => by
  obtain ⟨ps, a1, a2, a3⟩ := t b hb
  refine ⟨ps, ?_, a2, fun pos cv hcv => ?_⟩
  · rw [upd_ne (fun z => h1 ps (by rw [z, h] at a1; exact Option.some.inj a1))]; exact a1
  · obtain ⟨c, e1, e2⟩ := a3 pos cv hcv
    refine ⟨c, e1, ?_⟩
    rw [upd_ne (fun z => h2 b.2 (by rw [z, h] at e2; exact Option.some.inj e2))]
    exact e2
variable [TabT]
/-- what stands for a value -/
def RdV (K : PySem.W.Frag) (wl : Wd) (rs : List Addr) (G : Hp) : VD → V → Prop
  | .dat d, v => Dd K G v d
  | .rf j, v => ∃ a, rs[j]? = some a ∧ v = .ref a
  | .bag ds, v => ∃ a vs, v = .ref a ∧ SqL K G a vs ∧ DdAll K G vs ds
  | .st ds, v => ∃ a B, v = .ref a ∧ G a = some (NS.setHO wl.w a B) ∧ (∀ p ∈ B, ∃ d, d ∈ ds ∧ NS.keyOf d = some p.2 ∧ p.2.depth ≤ 8 ∧ Dd K G (.ref p.1) d) ∧ (∀ d ∈ ds, ∃ k, NS.keyOf d = some k ∧ k ∈ B.map (·.2))
  | .ex e, v => RdX K wl G e v
  | .exs es, v => ∃ a vs, v = .ref a ∧ SqL K G a vs ∧ RdXs K wl G es vs
  | .oth o, v => RdO K wl G o v
def RdVs (K : PySem.W.Frag) (wl : Wd) (rs : List Addr) (G : Hp) : List VD → List V → Prop
  | [], [] => True
  | x :: xs, v :: vs => RdV K wl rs G x v ∧ RdVs K wl rs G xs vs
  | _, _ => False
def CellOk (K : PySem.W.Frag) (wl : Wd) (F G H : Hp) (a : Addr) : Cl → Prop
  | .ls true ds => F a = none ∧ G a = none ∧ ∃ vs, H a = some (.lst vs) ∧ DdAll K G vs ds
  | .ls false ds => ∃ vs, G a = some (.lst vs) ∧ DdAll K G vs ds
  | .dk kvs => F a = none ∧ G a = none ∧ H a = some (.dK (kvV kvs))
  | .si ns => F a = none ∧ G a = none ∧ H a = some (SetO wl.w a (fun k => decide (k ∈ ns)) ns.length) ∧ ns.Nodup
structure Md (K : PySem.W.Frag) (wl : Wd) (F : Hp) (rs : List Addr) (S : DS) (σ : St) (H G : Hp) : Prop where
  len : S.sl.length = σ.length
  sub : Same G H
  frm : Same F H
  rl : rs.length = S.ce.length
  nd : rs.Nodup
  cel : ∀ (j : Nat) (a : Addr) (c : Cl), rs[j]? = some a → S.ce[j]? = some c → CellOk K wl F G H a c
  slot : ∀ (i : Nat) (x : VD), S.sl[i]? = some (some x) → ∃ v, σ[i]? = some (some v) ∧ RdV K wl rs G x v
  ntb : ∀ b ps, G b ≠ some (.tbl ps)
  nft : ∀ b ps, F b ≠ some (.tbl ps)
  tab : LamX.Tabs TabT.T H
theorem ntb_upd {G : Hp} {p : Addr} {o : HO} (h : ∀ b ps, G b ≠ some (.tbl ps)) (ho : ∀ ps, o ≠ .tbl ps) : ∀ b ps, upd G p o b ≠ some (.tbl ps) := fun b ps z => by
  by_cases hb : b = p
  · rw [hb, upd_same] at z; cases z; exact ho _ rfl
  · rw [upd_ne hb] at z; exact h b ps z
def Up (rs : List Addr) (G : Hp) (rs' : List Addr) (G' : Hp) : Prop := (∃ more, rs' = rs ++ more) ∧ Same G G'
theorem Up.refl {rs : List Addr} {G : Hp} : Up rs G rs G := ⟨⟨[], by simp⟩, L2.Same.refl G⟩
theorem Up.trans {rs rs1 rs2 : List Addr} {G G1 G2 : Hp} (a : Up rs G rs1 G1) (b : Up rs1 G1 rs2 G2) : Up rs G rs2 G2 := by
  obtain ⟨⟨m, rfl⟩, s⟩ := a
  obtain ⟨⟨m', rfl⟩, s'⟩ := b
  exact ⟨⟨m ++ m', by simp⟩, L2.Same.trans s s'⟩
theorem RdV.up {K : PySem.W.Frag} {wl : Wd} {rs rs' : List Addr} {G G' : Hp} (u : Up rs G rs' G') : ∀ {x : VD} {v : V}, RdV K wl rs G x v → RdV K wl rs' G' x v := by
  intro x v h
  obtain ⟨⟨m, rfl⟩, s⟩ := u
  cases x with
  | dat d => exact Dd.same s d v h
  | rf j =>
    obtain ⟨a, ha, e⟩ := h
    exact ⟨a, by rw [List.getElem?_append_left (List.getElem?_eq_some_iff.mp ha).1]; exact ha, e⟩
  | bag ds =>
    obtain ⟨a, vs, e, h1, h2⟩ := h
    exact ⟨a, vs, e, L2.Same.seq s h1, DdAll.same s _ _ h2⟩
  | st ds =>
    obtain ⟨a, B, e, h1, h2, h3⟩ := h
    exact ⟨a, B, e, s _ _ h1, fun p hp => let ⟨d, q1, q2, q3, q4⟩ := h2 p hp; ⟨d, q1, q2, q3, Dd.same s _ _ q4⟩, h3⟩
  | ex e => exact RdX.same s h
  | exs es =>
    obtain ⟨a, vs, e, h1, h2⟩ := h
    exact ⟨a, vs, e, L2.Same.seq s h1, RdXs.same s h2⟩
  | oth o => exact RdO.same s h
theorem RdVs.up {K : PySem.W.Frag} {wl : Wd} {rs rs' : List Addr} {G G' : Hp} (u : Up rs G rs' G') : ∀ {xs : List VD} {vs : List V}, RdVs K wl rs G xs vs → RdVs K wl rs' G' xs vs
  | [], [], _ => trivial
  | _ :: _, _ :: _, h => ⟨RdV.up u h.1, RdVs.up u h.2⟩
  | [], _ :: _, h => h
  | _ :: _, [], h => h
theorem RdVs.length {K : PySem.W.Frag} {wl : Wd} {rs : List Addr} {G : Hp} : ∀ {xs : List VD} {vs : List V}, RdVs K wl rs G xs vs → xs.length = vs.length
  | [], [], _ => rfl
  | _ :: _, _ :: _, h => by simp [RdVs.length h.2]
  | [], _ :: _, h => h.elim
  | _ :: _, [], h => h.elim

/-! ### readings of values in the heap -/
section
variable {K : PySem.W.Frag} {wl : Wd} {F : Hp} {rs : List Addr} {S : DS} {σ : St} {H G : Hp}
/-- the data that a value is now -/
def peekS (S : DS) : VD → Option PyData
  | .dat d => some d
  | .rf j => match S.ce[j]? with
    | some (.ls _ ds) => some (.list ds)
    | _ => none
  | .bag _ => none
  | .st _ => none
  | .ex _ => none
  | .exs _ => none
  | .oth _ => none
theorem Md.addr (m : Md K wl F rs S σ H G) {j : Nat} {c : Cl} (h : S.ce[j]? = some c) : ∃ a, rs[j]? = some a := by
  have h1 := (List.getElem?_eq_some_iff.mp h).1
  exact ⟨rs[j]'(by rw [m.rl]; exact h1), List.getElem?_eq_getElem _⟩
theorem CellOk.list {a : Addr} {b : Bool} {ds : List PyData} (s : Same G H) (h : CellOk K wl F G H a (.ls b ds)) : ∃ vs, Rd H a (.lst vs) ∧ DdAll K G vs ds := by
  cases b with
  | true =>
    obtain ⟨_, _, vs, hv, hd⟩ := h
    exact ⟨vs, Rd.of hv, hd⟩
  | false =>
    obtain ⟨vs, hs, ha⟩ := h
    exact ⟨vs, Rd.of (s _ _ hs), ha⟩
theorem Md.peek (m : Md K wl F rs S σ H G) {x : VD} {v : V} {d : PyData} (h : RdV K wl rs G x v) (p : peekS S x = some d) : Dd K H v d := by
  cases x with
  | dat d' => cases p; exact Dd.same m.sub _ _ h
  | rf j =>
    obtain ⟨a, ha, rfl⟩ := h
    unfold peekS at p
    cases e : S.ce[j]? with
    | none => simp [e] at p
    | some c =>
      cases c with
      | dk _ => simp [e] at p
      | si _ => simp [e] at p
      | ls b es =>
      simp [e] at p
      subst p
      obtain ⟨vs, h1, h2⟩ := CellOk.list m.sub (m.cel j a _ ha e)
      exact .lst h1 (DdAll.same m.sub _ _ h2)
  | bag ds => cases p
  | st ds => cases p
  | ex _ => cases p
  | exs _ => cases p
  | oth _ => cases p
/-- a list: the object, its items by the data heap -/
theorem Md.peekL (m : Md K wl F rs S σ H G) {x : VD} {v : V} {ds : List PyData} (h : RdV K wl rs G x v) (p : peekS S x = some (.list ds)) : ∃ a vs, v = .ref a ∧ Rd H a (.lst vs) ∧ DdAll K G vs ds := by
  cases x with
  | dat d' =>
    cases p
    cases (show Dd K G v (.list ds) from h) with
    | lst hs ha => exact ⟨_, _, rfl, Same.rd m.sub hs, ha⟩
  | rf j =>
    obtain ⟨a, ha, rfl⟩ := h
    unfold peekS at p
    cases e : S.ce[j]? with
    | none => simp [e] at p
    | some c =>
      cases c with
      | dk _ => simp [e] at p
      | si _ => simp [e] at p
      | ls b es =>
      simp [e] at p
      subst p
      obtain ⟨vs, h1, h2⟩ := CellOk.list m.sub (m.cel j a _ ha e)
      exact ⟨a, vs, rfl, h1, h2⟩
  | bag ds => cases p
  | st ds => cases p
  | ex _ => cases p
  | exs _ => cases p
  | oth _ => cases p
theorem peek_tuple {S : DS} {x : VD} {ds : List PyData} (p : peekS S x = some (.tuple ds)) : x = .dat (.tuple ds) := by
  cases x with
  | dat d => cases p; rfl
  | rf j =>
    unfold peekS at p
    cases e : S.ce[j]? with
    | none => simp [e] at p
    | some c => cases c <;> simp [e] at p
  | bag _ => cases p
  | st _ => cases p
  | ex _ => cases p
  | exs _ => cases p
  | oth _ => cases p
theorem Md.peekT (m : Md K wl F rs S σ H G) {x : VD} {v : V} {ds : List PyData} (h : RdV K wl rs G x v) (p : peekS S x = some (.tuple ds)) : ∃ a vs, v = .ref a ∧ TN.SqN H a vs ∧ DdAll K G vs ds ∧ Dd K G v (.tuple ds) := by
  cases peek_tuple p
  cases (show Dd K G v (.tuple ds) from h) with
  | tup hs ha => exact ⟨_, _, rfl, TN.SqN.same m.sub hs, ha, .tup hs ha⟩

/-! ### changes -/
theorem free_of {p : Addr} (e : Same G H) (h : H p = none) : G p = none := L2.Same.free e h
theorem same_upd {p : Addr} {o : HO} (h : G p = none) : Same G (upd G p o) := fun b u q => by
  rw [upd_ne (ne_of_none q h)]; exact q
theorem same_upd2 {p : Addr} {o : HO} (e : Same G H) : Same (upd G p o) (upd H p o) := fun b u q => by
  by_cases hb : b = p
  · subst hb; rw [upd_same] at q ⊢; exact q
  · rw [upd_ne hb] at q ⊢; exact e b u q
theorem same_updR {p : Addr} {o : HO} (e : Same G H) (h : G p = none) : Same G (upd H p o) := fun b u q => by
  rw [upd_ne (ne_of_none q h)]; exact e b u q
/-- a new immutable object -/
theorem Md.new (m : Md K wl F rs S σ H G) {p : Addr} {o : HO} (h : H p = none) (ho : ∀ ps, o ≠ .tbl ps := by intro ps z; first | (cases z; done) | (unfold exo at z; cases z; done) | (unfold exd at z; cases z; done) | (unfold NS.setHO at z; cases z; done)) : Md K wl F rs S σ (upd H p o) (upd G p o) where
  len := m.len
  sub := same_upd2 m.sub
  frm := same_updR m.frm (L2.Same.free m.frm h)
  rl := m.rl
  nd := m.nd
  cel := fun j a c h1 h2 => by
    have k := m.cel j a c h1 h2
    have gp : G p = none := L2.Same.free m.sub h
    cases c with
    | ls b ds =>
      cases b with
      | true =>
        obtain ⟨f, g, vs, hv, hd⟩ := k
        have ne : a ≠ p := ne_of_none hv h
        exact ⟨f, by rw [upd_ne ne]; exact g, vs, by rw [upd_ne ne]; exact hv, DdAll.same (same_upd gp) _ _ hd⟩
      | false =>
        obtain ⟨vs, hv, hd⟩ := k
        exact ⟨vs, same_upd gp _ _ hv, DdAll.same (same_upd gp) _ _ hd⟩
    | dk kvs =>
      obtain ⟨f, g, hv⟩ := k
      have ne : a ≠ p := ne_of_none hv h
      exact ⟨f, by rw [upd_ne ne]; exact g, by rw [upd_ne ne]; exact hv⟩
    | si ns =>
      obtain ⟨f, g, hv, hn⟩ := k
      have ne : a ≠ p := ne_of_none hv h
      exact ⟨f, by rw [upd_ne ne]; exact g, by rw [upd_ne ne]; exact hv, hn⟩
  slot := fun i x h1 => by
    obtain ⟨v, h2, h3⟩ := m.slot i x h1
    exact ⟨v, h2, RdV.up ⟨⟨[], by simp⟩, same_upd (L2.Same.free m.sub h)⟩ h3⟩
  ntb := ntb_upd m.ntb ho
  nft := m.nft
  tab := tabs_new m.tab h
/-- a new cell, whatever it is -/
theorem Md.cellG (m : Md K wl F rs S σ H G) {p : Addr} {u : HO} {c : Cl} (h : H p = none) (hc : ∀ Fp Gp : Hp, Fp p = none → Gp p = none → Same G Gp → CellOk K wl Fp Gp (upd H p u) p c) :
    Md K wl F (rs ++ [p]) { S with ce := S.ce ++ [c] } σ (upd H p u) G where
  len := m.len
  sub := same_updR m.sub (L2.Same.free m.sub h)
  frm := same_updR m.frm (L2.Same.free m.frm h)
  rl := by simp [m.rl]
  nd := by
    rw [List.nodup_append]
    refine ⟨m.nd, by simp, fun a ha b hb => ?_⟩
    have e : b = p := by simpa using hb
    subst e
    obtain ⟨j, hj, e⟩ := List.getElem_of_mem ha
    have h1 : rs[j]? = some a := by rw [List.getElem?_eq_getElem hj, e]
    have h2 : S.ce[j]? = some (S.ce[j]'(by rw [← m.rl]; exact hj)) := List.getElem?_eq_getElem _
    rintro rfl
    have k := m.cel j a _ h1 h2
    revert k
    generalize S.ce[j]'(by rw [← m.rl]; exact hj) = c
    intro k
    cases c with
    | ls b ds' =>
      cases b with
      | true =>
        obtain ⟨_, _, vs'', hv, _⟩ := k
        rw [h] at hv; cases hv
      | false =>
        obtain ⟨_, hs, _⟩ := k
        rw [L2.Same.free m.sub h] at hs; cases hs
    | dk kvs =>
      obtain ⟨_, _, hv⟩ := k
      rw [h] at hv; cases hv
    | si ns =>
      obtain ⟨_, _, hv, _⟩ := k
      rw [h] at hv; cases hv
  cel := fun j a c' h1 h2 => by
    by_cases hj : j < rs.length
    · rw [List.getElem?_append_left hj] at h1
      rw [List.getElem?_append_left (by rw [← m.rl]; exact hj)] at h2
      have k := m.cel j a c' h1 h2
      cases c' with
      | ls b ds' =>
        cases b with
        | true =>
          obtain ⟨f, g, vs', hv, hd'⟩ := k
          exact ⟨f, g, vs', by rw [upd_ne (ne_of_none hv h)]; exact hv, hd'⟩
        | false => exact k
      | dk kvs =>
        obtain ⟨f, g, hv⟩ := k
        exact ⟨f, g, by rw [upd_ne (ne_of_none hv h)]; exact hv⟩
      | si ns =>
        obtain ⟨f, g, hv, hn⟩ := k
        exact ⟨f, g, by rw [upd_ne (ne_of_none hv h)]; exact hv, hn⟩
    · have hj' : j = rs.length := by
        have := (List.getElem?_eq_some_iff.mp h1).1
        simp at this
        omega
      subst hj'
      rw [List.getElem?_append_right (Nat.le_refl _)] at h1
      rw [List.getElem?_append_right (by rw [m.rl]; exact Nat.le_refl _)] at h2
      simp at h1
      simp [m.rl] at h2
      subst h1 h2
      exact hc F G (L2.Same.free m.frm h) (L2.Same.free m.sub h) (L2.Same.refl G)
  slot := fun i x h1 => by
    obtain ⟨v, h2, h3⟩ := m.slot i x h1
    exact ⟨v, h2, RdV.up ⟨⟨[p], rfl⟩, L2.Same.refl G⟩ h3⟩
  ntb := m.ntb
  nft := m.nft
  tab := tabs_new m.tab h
/-- a new list -/
theorem Md.cell (m : Md K wl F rs S σ H G) {p : Addr} {vs : List V} {ds : List PyData} (h : H p = none) (hd : DdAll K G vs ds) :
    Md K wl F (rs ++ [p]) { S with ce := S.ce ++ [.ls true ds] } σ (upd H p (.lst vs)) G :=
  m.cellG h fun Fp Gp f g s => ⟨f, g, vs, upd_same, DdAll.same s _ _ hd⟩
/-- a new dict -/
theorem Md.cellD (m : Md K wl F rs S σ H G) {p : Addr} {kvs : List (Int × Int)} (h : H p = none) :
    Md K wl F (rs ++ [p]) { S with ce := S.ce ++ [.dk kvs] } σ (upd H p (.dK (kvV kvs))) G :=
  m.cellG h fun Fp Gp f g s => ⟨f, g, upd_same⟩
theorem Md.nd_ne (m : Md K wl F rs S σ H G) {i j : Nat} {a b : Addr} (h1 : rs[i]? = some a) (h2 : rs[j]? = some b) (h : i ≠ j) : a ≠ b := by
  intro e
  subst e
  obtain ⟨l1, e1⟩ := List.getElem?_eq_some_iff.mp h1
  obtain ⟨l2, e2⟩ := List.getElem?_eq_some_iff.mp h2
  exact h ((List.getElem_inj m.nd).mp (e1.trans e2.symm))
/-- a cell becomes data -/
theorem Md.freeze (m : Md K wl F rs S σ H G) {j : Nat} {a : Addr} {ds : List PyData} (ha : rs[j]? = some a) (h : S.ce[j]? = some (.ls true ds)) :
    ∃ G', Same G G' ∧ Md K wl F rs { S with ce := S.ce.set j (.ls false ds) } σ H G' ∧ Dd K G' (.ref a) (.list ds) := by
  obtain ⟨f, g, vs, hv, hd⟩ := m.cel j a _ ha h
  have sg : Same G (upd G a (.lst vs)) := same_upd g
  refine ⟨upd G a (.lst vs), sg, ⟨m.len, fun b u q => ?_, m.frm, by simp [m.rl], m.nd, fun i b c h1 h2 => ?_, fun i x h1 => ?_, ntb_upd m.ntb (fun ps z => by cases z), m.nft, m.tab⟩, .lst (Rd.of upd_same) (DdAll.same sg _ _ hd)⟩
  · by_cases hb : b = a
    · subst hb; rw [upd_same] at q; cases q; exact hv
    · rw [upd_ne hb] at q; exact m.sub b u q
  · by_cases hi : i = j
    · subst hi
      rw [ha] at h1; cases h1
      rw [List.getElem?_set_self (List.getElem?_eq_some_iff.mp h).1] at h2
      cases h2
      exact ⟨vs, upd_same, DdAll.same sg _ _ hd⟩
    · rw [List.getElem?_set_ne (Ne.symm hi)] at h2
      have k := m.cel i b c h1 h2
      cases c with
      | ls bb ds' =>
        cases bb with
        | true =>
          obtain ⟨f', g', vs', hv', hd'⟩ := k
          exact ⟨f', by rw [upd_ne (m.nd_ne h1 ha hi)]; exact g', vs', hv', DdAll.same sg _ _ hd'⟩
        | false =>
          obtain ⟨vs', hv', hd'⟩ := k
          exact ⟨vs', sg _ _ hv', DdAll.same sg _ _ hd'⟩
      | dk kvs =>
        obtain ⟨f', g', hv'⟩ := k
        exact ⟨f', by rw [upd_ne (m.nd_ne h1 ha hi)]; exact g', hv'⟩
      | si ns =>
        obtain ⟨f', g', hv', hn'⟩ := k
        exact ⟨f', by rw [upd_ne (m.nd_ne h1 ha hi)]; exact g', hv', hn'⟩
  · obtain ⟨v, h2, h3⟩ := m.slot i x h1
    exact ⟨v, h2, RdV.up ⟨⟨[], by simp⟩, sg⟩ h3⟩
/-- a live cell is written -/
theorem Md.writeG (m : Md K wl F rs S σ H G) {j : Nat} {a : Addr} {u : HO} {c' : Cl} (ha : rs[j]? = some a) (hj : j < S.ce.length) (f : F a = none) (g : G a = none) {o : HO} (ho : H a = some o) (ht : ∀ ps, o ≠ .tbl ps) (hn : ∀ q, o ≠ LamX.CodeO a q) (hc : CellOk K wl F G (upd H a u) a c') :
    Md K wl F rs { S with ce := S.ce.set j c' } σ (upd H a u) G := by
  refine ⟨m.len, same_updR m.sub g, same_updR m.frm f, by simp [m.rl], m.nd, fun i b c h1 h2 => ?_, m.slot, m.ntb, m.nft, tabs_write m.tab ho ht hn⟩
  by_cases hi : i = j
  · subst hi
    rw [ha] at h1; cases h1
    rw [List.getElem?_set_self hj] at h2
    cases h2
    exact hc
  · rw [List.getElem?_set_ne (Ne.symm hi)] at h2
    have k := m.cel i b c h1 h2
    cases c with
    | ls bb ds' =>
      cases bb with
      | true =>
        obtain ⟨f', g', vs'', hv'', hd''⟩ := k
        exact ⟨f', g', vs'', by rw [upd_ne (m.nd_ne h1 ha hi)]; exact hv'', hd''⟩
      | false => exact k
    | dk kvs =>
      obtain ⟨f', g', hv''⟩ := k
      exact ⟨f', g', by rw [upd_ne (m.nd_ne h1 ha hi)]; exact hv''⟩
    | si ns =>
      obtain ⟨f', g', hv'', hn'⟩ := k
      exact ⟨f', g', by rw [upd_ne (m.nd_ne h1 ha hi)]; exact hv'', hn'⟩
theorem Md.write (m : Md K wl F rs S σ H G) {j : Nat} {a : Addr} {ds ds' : List PyData} {vs' : List V} (ha : rs[j]? = some a) (h : S.ce[j]? = some (.ls true ds)) (hd' : DdAll K G vs' ds') :
    Md K wl F rs { S with ce := S.ce.set j (.ls true ds') } σ (upd H a (.lst vs')) G := by
  obtain ⟨f, g, vs, hv, hd⟩ := m.cel j a _ ha h
  exact m.writeG ha (List.getElem?_eq_some_iff.mp h).1 f g hv (fun ps z => by cases z) (fun q => code_lst) ⟨f, g, vs', upd_same, hd'⟩
/-- a new set of numbers -/
theorem Md.cellS (m : Md K wl F rs S σ H G) {p : Addr} {ns : List Int} (h : H p = none) (hn : ns.Nodup) :
    Md K wl F (rs ++ [p]) { S with ce := S.ce ++ [.si ns] } σ (upd H p (SetO wl.w p (fun k => decide (k ∈ ns)) ns.length)) G :=
  m.cellG h fun Fp Gp f g s => ⟨f, g, upd_same, hn⟩
/-- a set of numbers is written -/
theorem Md.writeS (m : Md K wl F rs S σ H G) {j : Nat} {a : Addr} {ns ns' : List Int} (ha : rs[j]? = some a) (h : S.ce[j]? = some (.si ns)) (hn : ns'.Nodup) :
    Md K wl F rs { S with ce := S.ce.set j (.si ns') } σ (upd H a (SetO wl.w a (fun k => decide (k ∈ ns')) ns'.length)) G := by
  obtain ⟨f, g, hv, _⟩ := m.cel j a _ ha h
  exact m.writeG ha (List.getElem?_eq_some_iff.mp h).1 f g hv (fun ps z => by unfold SetO at z; cases z) (fun q => codeO_set) ⟨f, g, upd_same, hn⟩
/-- a dict is written -/
theorem Md.writeD (m : Md K wl F rs S σ H G) {j : Nat} {a : Addr} {kvs kvs' : List (Int × Int)} (ha : rs[j]? = some a) (h : S.ce[j]? = some (.dk kvs)) :
    Md K wl F rs { S with ce := S.ce.set j (.dk kvs') } σ (upd H a (.dK (kvV kvs'))) G := by
  obtain ⟨f, g, hv⟩ := m.cel j a _ ha h
  exact m.writeG ha (List.getElem?_eq_some_iff.mp h).1 f g hv (fun ps z => by cases z) (fun q => code_dK) ⟨f, g, upd_same⟩
theorem Md.store (m : Md K wl F rs S σ H G) {i : Nat} {x : VD} {v : V} (h : RdV K wl rs G x v) : Md K wl F rs { S with sl := S.sl.set i (some x) } (σ.set i (some v)) H G := by
  refine ⟨by simp [m.len], m.sub, m.frm, m.rl, m.nd, m.cel, fun k y h1 => ?_, m.ntb, m.nft, m.tab⟩
  by_cases hk : k = i
  · subst hk
    have hl := (List.getElem?_eq_some_iff.mp h1).1
    simp at hl
    rw [List.getElem?_set_self hl] at h1
    cases h1
    exact ⟨v, by rw [List.getElem?_set_self (by rw [← m.len]; exact hl)], h⟩
  · rw [List.getElem?_set_ne (Ne.symm hk)] at h1
    rw [List.getElem?_set_ne (Ne.symm hk)]
    exact m.slot k y h1
/-- only the cells -/
theorem Md.cells (m : Md K wl F rs S σ H G) : Md K wl F rs ⟨[], S.ce⟩ [] H G := ⟨rfl, m.sub, m.frm, m.rl, m.nd, m.cel, (fun i x h => by simp at h), m.ntb, m.nft, m.tab⟩
theorem Md.slots {ce : List Cl} {sl : List (Option VD)} (m : Md K wl F rs ⟨[], ce⟩ [] H G) (hl : sl.length = σ.length) (hs : ∀ (i : Nat) (x : VD), sl[i]? = some (some x) → ∃ v, σ[i]? = some (some v) ∧ RdV K wl rs G x v) : Md K wl F rs ⟨sl, ce⟩ σ H G :=
  ⟨hl, m.sub, m.frm, m.rl, m.nd, m.cel, hs, m.ntb, m.nft, m.tab⟩
end
end DL
/-! DL2: readings over data states. -/
namespace DL
open PySem PySem.Spec L2
variable [TabT]

section
variable {α β γ δ : Type}
/-- what is to be shown behind a run -/
def Post (K : PySem.W.Frag) (wl : Wd) (mg : Str → Option Value) (E : XK) (F : Hp) (σ : L2.St) (Rel : List Addr → Hp → α → β → Prop) (rs : List Addr) (G : Hp) (r : R (α × DS)) (Q : β → Hp → Prop) : Prop :=
  match r with
  | .ok p => ∀ (b : β) (H' G' : Hp) (rs' : List Addr), Up rs G rs' G' → Md K wl F rs' p.2 σ H' G' → Rel rs' G' p.1 b → Q b H'
  | .exc x S' => ∀ (C dx : Addr) (vs : List V) (H' G' : Hp) (rs' : List Addr), Up rs G rs' G' → Md K wl F rs' ⟨[], S'.ce⟩ [] H' G' → mg x.cls = some (.ref C) → H' dx = some (.xd ((x.fs.map (·.1)).zip vs)) → DdAll K G' vs (x.fs.map (·.2)) → E (.ref C) (some dx) H'
  | .bad => False
/-- the reading of a run -/
def lift (K : PySem.W.Frag) (wl : Wd) (mg : Str → Option Value) (E : XK) (Rel : List Addr → Hp → α → β → Prop) (t : M α) : L2.St → Hp → (β → Hp → Prop) → Prop := fun σ H Q =>
  ∃ (F : Hp) (rs : List Addr) (S : DS) (G : Hp), Md K wl F rs S σ H G ∧ Post K wl mg E F σ Rel rs G (t S) Q

variable {K : PySem.W.Frag} {wl : Wd} {mg : Str → Option Value} {E : XK} {F : Hp} {σ : L2.St} {rs rs1 : List Addr} {G G1 H : Hp} {Rel : List Addr → Hp → α → β → Prop} {Rel2 : List Addr → Hp → γ → δ → Prop}
theorem Post.up (u : Up rs G rs1 G1) {r : R (α × DS)} {Q : β → Hp → Prop} (h : Post K wl mg E F σ Rel rs G r Q) : Post K wl mg E F σ Rel rs1 G1 r Q := by
  cases r with
  | ok p => exact fun b H' G' rs' u' m r => h b H' G' rs' (u.trans u') m r
  | exc x S' => exact fun C dx vs H' G' rs' u' => h C dx vs H' G' rs' (u.trans u')
  | bad => exact h
theorem Post.mono {r : R (α × DS)} {Q Q' : β → Hp → Prop} (hQ : ∀ b H, Q b H → Q' b H) (h : Post K wl mg E F σ Rel rs G r Q) : Post K wl mg E F σ Rel rs G r Q' := by
  cases r with
  | ok p => exact fun b H' G' rs' u' m r => hQ _ _ (h b H' G' rs' u' m r)
  | exc x S' => exact h
  | bad => exact h
/-- first t, then the rest -/
theorem Post.seq {t : M α} {g : α → M γ} {S : DS} {Q : δ → Hp → Prop} (h : Post K wl mg E F σ Rel2 rs G ((t >>= g) S) Q) :
    Post K wl mg E F σ Rel rs G (t S) (fun (b : β) H1 => ∃ rs1 S1 G1 a, Up rs G rs1 G1 ∧ Md K wl F rs1 S1 σ H1 G1 ∧ Rel rs1 G1 a b ∧ Post K wl mg E F σ Rel2 rs1 G1 (g a S1) Q) := by
  rw [M.bind_run] at h
  cases e : t S with
  | ok p =>
    rw [e] at h
    exact fun b H' G' rs' u m r => ⟨rs', p.2, G', p.1, u, m, r, Post.up u h⟩
  | exc x S' => rw [e] at h; exact h
  | bad => rw [e] at h; exact h
theorem Post.ret {a : α} {S : DS} {Q : β → Hp → Prop} {b : β} (m : Md K wl F rs S σ H G) (h : Post K wl mg E F σ Rel rs G (.ok (a, S)) Q) (r : Rel rs G a b) : Q b H := h b H G rs Up.refl m r
theorem lift_of {t : M α} {S : DS} {Q : β → Hp → Prop} (m : Md K wl F rs S σ H G) (h : Post K wl mg E F σ Rel rs G (t S) Q) : lift K wl mg E Rel t σ H Q := ⟨F, rs, S, G, m, h⟩
end

/-! ### the four judgements -/
abbrev liftE (K : PySem.W.Frag) (wl : Wd) (mg : Str → Option Value) (E : XK) (t : M VD) : TE := lift K wl mg E (RdV K wl) t
abbrev liftT (K : PySem.W.Frag) (wl : Wd) (mg : Str → Option Value) (E : XK) (t : M Bool) : TT := lift K wl mg E (fun _ _ (a : Bool) (b : Bool) => a = b) t
abbrev liftA (K : PySem.W.Frag) (wl : Wd) (mg : Str → Option Value) (E : XK) (t : M (List VD)) : TA := lift K wl mg E (RdVs K wl) t
abbrev PD (X : Cx) (E : XK) (e : Expr) (t : M VD) : Prop := PE X e (liftE X.K X.wd X.mg E t)
abbrev PDT (X : Cx) (E : XK) (e : Expr) (t : M Bool) : Prop := PT X e (liftT X.K X.wd X.mg E t)
abbrev PDW (X : Cx) (E : XK) (e : Expr) (t : M Bool) : Prop := PW X e (liftT X.K X.wd X.mg E t)
abbrev PDA (X : Cx) (E : XK) (es : List Expr) (t : M (List VD)) : Prop := PA X es (liftA X.K X.wd X.mg E t)

section
variable {X : Cx} {E : XK} {e : Expr}
theorem PE.weak {t t' : TE} (h : PE X e t) (k : ∀ σ H Q, t' σ H Q → t σ H Q) : PE X e t' := ⟨fun pins s σ H Q I q => h.run pins s σ H Q I (k _ _ _ q)⟩
theorem PT.weak {t t' : TT} (h : PT X e t) (k : ∀ σ H Q, t' σ H Q → t σ H Q) : PT X e t' := ⟨fun pins s σ H Q I q => h.run pins s σ H Q I (k _ _ _ q)⟩
theorem PW.weak {t t' : TT} (h : PW X e t) (k : ∀ σ H Q, t' σ H Q → t σ H Q) : PW X e t' := ⟨fun wh pins s σ H Q I q => h.run wh pins s σ H Q I (k _ _ _ q)⟩
theorem PA.weak {es : List Expr} {t t' : TA} (h : PA X es t) (k : ∀ σ H Q, t' σ H Q → t σ H Q) : PA X es t' := ⟨fun pos pins s σ H Q I q => h.run pos pins s σ H Q I (k _ _ _ q)⟩
theorem PS.weak {st : Stmt} {t t' : TS} (h : PS X st t) (k : ∀ D σ H, t' D σ H → t D σ H) : PS X st t' := ⟨fun pins s σ H D I q => h.run pins s σ H D I (k _ _ _ q)⟩
theorem PSs.weak {st : List Stmt} {t t' : TS} (h : PSs X st t) (k : ∀ D σ H, t' D σ H → t D σ H) : PSs X st t' := ⟨fun pins s σ H D I q => h.run pins s σ H D I (k _ _ _ q)⟩

/-! ### names, constants -/
def eVar (i : Nat) : M VD := fun S => match S.sl[i]? with
  | some (some x) => .ok (x, S)
  | _ => .bad
def eC (d : PyData) : M VD := pure (.dat d)
theorem d_var (i : Nat) {x : Str} {pos : Pos} (h : PE X (.Name x pos) (tVar i)) : PD X E (.Name x pos) (eVar i) := PE.weak h fun σ H Q q => by
  obtain ⟨F, rs, S, G, m, p⟩ := q
  unfold eVar at p
  cases hs : S.sl[i]? with
  | none => rw [hs] at p; exact p.elim
  | some o =>
    cases o with
    | none => rw [hs] at p; exact p.elim
    | some y =>
      rw [hs] at p
      obtain ⟨v, h2, h3⟩ := m.slot i y hs
      exact ⟨v, h2, Post.ret m p h3⟩
theorem d_c {v : V} {d : PyData} (h : PE X e (tC v)) (hd : ∀ H, Dd X.K H v d) : PD X E e (eC d) := PE.weak h fun σ H Q q => by
  obtain ⟨F, rs, S, G, m, p⟩ := q
  exact Post.ret m p (hd G)
theorem d_int {i j pos} : PD X E (.Constant (.int i) j pos) (eC (.int i)) := d_c pe_int fun _ => .int i
theorem d_bl {b j pos} : PD X E (.Constant (.bool b) j pos) (eC (.bool b)) := d_c pe_bl fun _ => .bl b
theorem d_non {j pos} : PD X E (.Constant .none j pos) (eC .none) := d_c pe_non fun _ => .non
theorem d_str {x j pos} : PD X E (.Constant (.str x) j pos) (eC (.str x)) := d_c pe_str fun _ => .str x

/-! ### argument lists -/
def aCons (a : M VD) (t : M (List VD)) : M (List VD) := do let x ← a; let xs ← t; pure (x :: xs)
theorem d_nil : PDA X E [] (pure []) := PA.weak pa_nil fun σ H Q q => by
  obtain ⟨F, rs, S, G, m, p⟩ := q
  exact Post.ret (b := []) m p trivial
theorem d_cons {es : List Expr} {a : M VD} {t : M (List VD)} (ha : PD X E e a) (ht : PDA X E es t) (hs : starEach (e :: es) X.env = (false, eval e X.env) :: starEach es X.env := by rfl) : PDA X E (e :: es) (aCons a t) := PA.weak (pa_cons ha ht hs) fun σ H Q q => by
  obtain ⟨F, rs, S, G, m, p⟩ := q
  refine ⟨F, rs, S, G, m, (Post.seq p).mono fun v H1 ⟨rs1, S1, G1, x, u1, m1, r1, p1⟩ => ?_⟩
  refine ⟨F, rs1, S1, G1, m1, (Post.seq p1).mono fun vs H2 ⟨rs2, S2, G2, xs, u2, m2, r2, p2⟩ => ?_⟩
  exact Post.ret (b := v :: vs) m2 p2 ⟨RdV.up u2 r1, r2⟩
end
end DL
/-! DL3: displays, operators, tests, calls. -/
namespace DL
open PySem PySem.Spec L2
variable [TabT]

/-! ### data off the heap -/
section
variable {H : Hp} {s : Shared} {X : Cx} {pins : List (Addr × Obj)} {σ : L2.St}
mutual
theorem Dd.reads (I : Inv X pins σ H s) : ∀ (d : PyData) (v : V) (u : Value), Dd X.K H v d → RelV v u → ∃ as, Reads s.heap u d as
  | .none, _, _, h, r => by cases h; cases r; exact ⟨_, Reads.none⟩
  | .bool b, _, _, h, r => by cases h; cases r; exact ⟨_, Reads.bool b⟩
  | .int i, _, _, h, r => by cases h; obtain ⟨t, rfl⟩ := r; exact ⟨_, Reads.int i t⟩
  | .str x, _, _, h, r => by cases h; obtain ⟨t, rfl⟩ := r; exact ⟨_, Reads.str x t⟩
  | .list ds, _, _, h, r => by
    cases h with
    | lst hs ha =>
      cases r
      obtain ⟨its, rv, ⟨o, n, ho, hc, _, hd⟩, _⟩ := I.list (.inl hs)
      obtain ⟨as, hr⟩ := DdAll.reads I ds _ its ha rv; exact ⟨_, Reads.list ho hc hd hr⟩
  | .tuple ds, _, _, h, r => by
    cases h with
    | tup hs ha =>
      cases r
      obtain ⟨its, rv, ⟨o, ho, hc, n, hd⟩, _⟩ := I.tuple (hs.sqt (K := X.K))
      obtain ⟨as, hr⟩ := DdAll.reads I ds _ its ha rv; exact ⟨_, Reads.tuple ho hc hd hr⟩
  | .dict kvs, _, _, h, r => by
    cases h with
    | dic hs =>
      cases r
      obtain ⟨_, _, vs, rk, o, es, ep, ho, ⟨hx, _⟩, hd, _, hes, _⟩ := I.hok _ _ hs
      cases rk
      have e0 : es.toList = [] := by
        revert hes
        generalize es.toList = l
        intro hes
        cases hes
        rfl
      refine ⟨_, Reads.dict (kvs := []) (as := []) (bs := []) ho hx hd ?_ ?_⟩
      · rw [e0]; exact .nil
      · rw [e0]; exact .nil
theorem DdAll.reads (I : Inv X pins σ H s) : ∀ (ds : List PyData) (vs : List V) (us : List Value), DdAll X.K H vs ds → Vals vs us → ∃ as, ReadsAll s.heap us ds as
  | [], _, _, h, r => by cases h; cases r; exact ⟨_, ReadsAll.nil⟩
  | d :: ds, _, _, h, r => by
    cases h with
    | cons h1 h2 =>
      cases r with
      | cons r1 r2 =>
        obtain ⟨as, q1⟩ := Dd.reads I d _ _ h1 r1
        obtain ⟨bs, q2⟩ := DdAll.reads I ds _ _ h2 r2; exact ⟨_, ReadsAll.cons q1 q2⟩
end
end

/-! ### a value as data -/
def toD : VD → M PyData
  | .dat d => pure d
  | .rf j => fun S => match S.ce[j]? with
    | some (.ls true ds) => .ok (.list ds, { S with ce := S.ce.set j (.ls false ds) })
    | some (.ls false ds) => .ok (.list ds, S)
    | _ => .bad
  | .bag _ => M.bad
  | .st _ => M.bad
  | .ex _ => M.bad
  | .exs _ => M.bad
  | .oth _ => M.bad
def toDs : List VD → M (List PyData)
  | [] => pure []
  | x :: xs => do let d ← toD x; let ds ← toDs xs; pure (d :: ds)
/-- what a value is now (nothing is changed) -/
def peek (x : VD) : M PyData := fun S => match peekS S x with
  | some d => .ok (d, S)
  | none => .bad
def chk (b : Bool) : M Unit := fun S => if b then .ok ((), S) else .bad
def ofO {α : Type} (o : Option α) : M α := fun S => match o with
  | some a => .ok (a, S)
  | none => .bad
section
variable {K : PySem.W.Frag} {wl : Wd} {mg : Str → Option Value} {E : XK} {F : Hp} {rs : List Addr} {S : DS} {σ : L2.St} {H G : Hp} {α β γ δ : Type} {Rel : List Addr → Hp → α → β → Prop}
theorem Md.toD (m : Md K wl F rs S σ H G) {x : VD} {v : V} (r : RdV K wl rs G x v) {g : PyData → M α} {Q : β → Hp → Prop} (h : Post K wl mg E F σ Rel rs G ((toD x >>= g) S) Q) :
    ∃ d S' G', Same G G' ∧ Md K wl F rs S' σ H G' ∧ Dd K G' v d ∧ Post K wl mg E F σ Rel rs G' (g d S') Q := by
  rw [M.bind_run] at h
  cases x with
  | dat d => exact ⟨d, S, G, L2.Same.refl G, m, r, h⟩
  | rf j =>
    obtain ⟨a, ha, rfl⟩ := r
    unfold DL.toD at h
    dsimp only at h
    cases e : S.ce[j]? with
    | none => rw [e] at h; exact h.elim
    | some c =>
      cases c with
      | dk _ => rw [e] at h; exact h.elim
      | si _ => rw [e] at h; exact h.elim
      | ls b ds =>
      cases b with
      | true =>
        rw [e] at h
        obtain ⟨G', sg, m', rd⟩ := m.freeze ha e
        exact ⟨.list ds, _, G', sg, m', rd, Post.up ⟨⟨[], by simp⟩, sg⟩ h⟩
      | false =>
        rw [e] at h
        obtain ⟨vs, hv, hd⟩ := m.cel j a _ ha e
        exact ⟨.list ds, S, G, L2.Same.refl G, m, .lst (Rd.of hv) hd, h⟩
  | bag _ => exact h.elim
  | st _ => exact h.elim
  | ex _ => exact h.elim
  | exs _ => exact h.elim
  | oth _ => exact h.elim
theorem Md.toDs : ∀ {xs : List VD} {vs : List V} {S : DS} {G : Hp} {g : List PyData → M α} {Q : β → Hp → Prop}, Md K wl F rs S σ H G → RdVs K wl rs G xs vs → Post K wl mg E F σ Rel rs G ((toDs xs >>= g) S) Q →
    ∃ ds S' G', Same G G' ∧ Md K wl F rs S' σ H G' ∧ DdAll K G' vs ds ∧ Post K wl mg E F σ Rel rs G' (g ds S') Q
  | [], [], S, G, g, Q, m, _, h => ⟨[], S, G, L2.Same.refl G, m, .nil, h⟩
  | x :: xs, v :: vs, S, G, g, Q, m, r, h => by
    have h' : Post K wl mg E F σ Rel rs G ((DL.toD x >>= fun d => DL.toDs xs >>= fun ds => g (d :: ds)) S) Q := by
      have e : ((DL.toDs (x :: xs) >>= g) S) = ((DL.toD x >>= fun d => DL.toDs xs >>= fun ds => g (d :: ds)) S) := by
        simp only [DL.toDs, M.bind_run]
        cases DL.toD x S with
        | ok p =>
          simp only [R.bind, M.bind_run]
          cases DL.toDs xs p.2 <;> rfl
        | exc _ _ => rfl
        | bad => rfl
      rw [← e]; exact h
    obtain ⟨d, S1, G1, s1, m1, d1, h1⟩ := Md.toD m r.1 h'
    obtain ⟨ds, S2, G2, s2, m2, d2, h2⟩ := Md.toDs m1 (RdVs.up ⟨⟨[], by simp⟩, s1⟩ r.2) h1
    exact ⟨d :: ds, S2, G2, L2.Same.trans s1 s2, m2, .cons (Dd.same s2 _ _ d1) d2, h2⟩
  | [], _ :: _, _, _, _, _, _, r, _ => r.elim
  | _ :: _, [], _, _, _, _, _, r, _ => r.elim
theorem Post.peek {x : VD} {g : PyData → M α} {Q : β → Hp → Prop} (h : Post K wl mg E F σ Rel rs G ((DL.peek x >>= g) S) Q) : ∃ d, peekS S x = some d ∧ Post K wl mg E F σ Rel rs G (g d S) Q := by
  rw [M.bind_run] at h
  unfold DL.peek at h
  cases e : peekS S x with
  | none => rw [e] at h; exact h.elim
  | some d => rw [e] at h; exact ⟨d, rfl, h⟩
theorem Post.chk {b : Bool} {g : Unit → M α} {Q : β → Hp → Prop} (h : Post K wl mg E F σ Rel rs G ((DL.chk b >>= g) S) Q) : b = true ∧ Post K wl mg E F σ Rel rs G (g () S) Q := by
  rw [M.bind_run] at h
  cases b with
  | true => exact ⟨rfl, h⟩
  | false => exact h.elim
theorem Post.ofO {o : Option γ} {g : γ → M α} {Q : β → Hp → Prop} (h : Post K wl mg E F σ Rel rs G ((DL.ofO o >>= g) S) Q) : ∃ a, o = some a ∧ Post K wl mg E F σ Rel rs G (g a S) Q := by
  rw [M.bind_run] at h
  cases o with
  | none => exact h.elim
  | some a => exact ⟨a, rfl, h⟩
theorem Post.ofO' {o : Option α} {Q : β → Hp → Prop} (h : Post K wl mg E F σ Rel rs G (DL.ofO o S) Q) : ∃ a, o = some a ∧ Post K wl mg E F σ Rel rs G (.ok (a, S)) Q := by
  cases o with
  | none => exact h.elim
  | some a => exact ⟨a, rfl, h⟩
end

/-! ### displays -/
/-- a new list -/
def newL (ds : List PyData) : M VD := fun S => .ok (.rf S.ce.length, { S with ce := S.ce ++ [(.ls true ds)] })
def eTup (t : M (List VD)) : M VD := do let xs ← t; let ds ← toDs xs; chk (decide (ds.length ≤ 1000)); pure (.dat (.tuple ds))
def eLst (t : M (List VD)) : M VD := do let xs ← t; let ds ← toDs xs; chk (decide (ds.length ≤ 1000)); newL ds
section
variable {X : Cx} {E : XK} {e a b : Expr} {es : List Expr} {pos : Pos}
variable {F : Hp} {rs : List Addr} {S : DS} {σ : L2.St} {H G : Hp}
theorem newTup {ds : List PyData} {vs : List V} {Q : VK} (m : Md X.K X.wd F rs S σ H G) (hd : DdAll X.K G vs ds) (h : Post X.K X.wd X.mg E F σ (RdV X.K X.wd) rs G (.ok (.dat (.tuple ds), S)) Q) {p : Addr} {its : List Value} (hp : H p = none) : Q (.ref p) (upd H p (TN.hT its vs)) :=
  h (.ref p) _ _ rs ⟨⟨[], by simp⟩, same_upd (L2.Same.free m.sub hp)⟩ (m.new hp) (.tup (TN.SqN.of upd_same) (DdAll.same (same_upd (L2.Same.free m.sub hp)) _ _ hd))
theorem newLst {ds : List PyData} {vs : List V} {Q : VK} (m : Md X.K X.wd F rs S σ H G) (hd : DdAll X.K G vs ds) (h : Post X.K X.wd X.mg E F σ (RdV X.K X.wd) rs G (newL ds S) Q) {p : Addr} (hp : H p = none) : Q (.ref p) (upd H p (.lst vs)) :=
  h (.ref p) _ G (rs ++ [p]) ⟨⟨[p], rfl⟩, L2.Same.refl G⟩ (m.cell hp hd) ⟨p, by rw [← m.rl]; simp, rfl⟩
theorem sz1000 {n : Nat} (h : n ≤ 1000) : n ≤ sizeLine := Nat.le_trans h (by decide)
theorem d_tup {t : M (List VD)} {x1 : Nat} (ht : PDA X E es t) : PD X E (.Tuple es x1 pos) (eTup t) := PE.weak (TN.pe_tupN ht) fun σ H Q q => by
  obtain ⟨F, rs, S, G, m, p⟩ := q
  refine ⟨F, rs, S, G, m, (Post.seq p).mono fun vs H1 ⟨rs1, S1, G1, xs, u1, m1, r1, p1⟩ => ?_⟩
  obtain ⟨ds, S2, G2, s2, m2, d2, p2⟩ := m1.toDs r1 p1
  obtain ⟨hl, p3⟩ := Post.chk p2
  have hl' : ds.length ≤ 1000 := of_decide_eq_true hl
  rw [← DdAll.length d2] at hl'
  exact ⟨sz1000 hl', fun p its hp => newTup m2 d2 p3 hp⟩
theorem d_lst {t : M (List VD)} (ht : PDA X E es t) : PD X E (.List es pos) (eLst t) := PE.weak (pe_lst ht) fun σ H Q q => by
  obtain ⟨F, rs, S, G, m, p⟩ := q
  refine ⟨F, rs, S, G, m, (Post.seq p).mono fun vs H1 ⟨rs1, S1, G1, xs, u1, m1, r1, p1⟩ => ?_⟩
  obtain ⟨ds, S2, G2, s2, m2, d2, p2⟩ := m1.toDs r1 p1
  obtain ⟨hl, p3⟩ := Post.chk p2
  have hl' : ds.length ≤ 1000 := of_decide_eq_true hl
  rw [← DdAll.length d2] at hl'
  exact ⟨sz1000 hl', fun p hp => newLst m2 d2 p3 hp⟩

/-! ### operators -/
def scalV : PyData → Option V
  | .none => some .non
  | .bool b => some (.bl b)
  | .int i => some (.int i)
  | .str x => some (.str x)
  | _ => none
theorem scal_dd {K : PySem.W.Frag} {H : Hp} {d : PyData} {v : V} (h : scalV d = some v) : Dd K H v d := by
  cases d <;> cases h <;> constructor
/-- two data in, a scalar out -/
def rD (K : PySem.W.Frag) (f : PyData → PyData → Option PyData) : R2 := fun x y H Q => ∃ d e r w, Dd K H x d ∧ Dd K H y e ∧ f d e = some r ∧ scalV r = some w ∧ Q w H
theorem OpR.weak {f : Value → Value → Sem Value} {r r' : R2} (h : OpR X f r) (k : ∀ x y H Q, r' x y H Q → r x y H Q) : OpR X f r' := fun pins s σ H x y v u Q I rx ry q => h pins s σ H x y v u Q I rx ry (k _ _ _ _ q)
def scal (d : PyData) : M VD := match scalV d with
  | some _ => pure (.dat d)
  | none => M.bad
theorem Post.scal {d : PyData} {Q : VK} (m : Md X.K X.wd F rs S σ H G) (h : Post X.K X.wd X.mg E F σ (RdV X.K X.wd) rs G (DL.scal d S) Q) : ∃ w, scalV d = some w ∧ Q w H := by
  unfold DL.scal at h
  cases e : scalV d with
  | none => rw [e] at h; exact h.elim
  | some w => rw [e] at h; exact ⟨w, rfl, Post.ret m h (scal_dd e)⟩
def eOp (f : PyData → PyData → Option PyData) (ta tb : M VD) : M VD := do let x ← ta; let y ← tb; let d ← peek x; let e ← peek y; let r ← ofO (f d e); scal r
theorem opD {f : PyData → PyData → Option PyData} {ta tb : M VD} {t : R2} (ha : PD X E a ta) (hb : PD X E b tb) (ht : ∀ x y H Q, rD X.K f x y H Q → t x y H Q) {σ : L2.St} {H : Hp} {Q : VK} (q : liftE X.K X.wd X.mg E (eOp f ta tb) σ H Q) :
    tOp t (liftE X.K X.wd X.mg E ta) (liftE X.K X.wd X.mg E tb) σ H Q := by
  obtain ⟨F, rs, S, G, m, p⟩ := q
  refine ⟨F, rs, S, G, m, (Post.seq p).mono fun v H1 ⟨rs1, S1, G1, x, u1, m1, r1, p1⟩ => ?_⟩
  refine ⟨F, rs1, S1, G1, m1, (Post.seq p1).mono fun w H2 ⟨rs2, S2, G2, y, u2, m2, r2, p2⟩ => ?_⟩
  obtain ⟨d, hd, p3⟩ := Post.peek p2
  obtain ⟨e, he, p4⟩ := Post.peek p3
  obtain ⟨r, hr, p5⟩ := Post.ofO p4
  obtain ⟨z, hz, p6⟩ := Post.scal m2 p5
  exact ht _ _ _ _ ⟨d, e, r, z, m2.peek (RdV.up u2 r1) hd, m2.peek r2 he, hr, hz, p6⟩
theorem d_op {op : Operator} {f : PyData → PyData → Option PyData} {ta tb : M VD} (ho : OpR X (binaryOp op) (rD X.K f)) (ha : PD X E a ta) (hb : PD X E b tb) : PD X E (.BinOp a op b pos) (eOp f ta tb) :=
  PE.weak (pe_op ho ha hb) fun _ _ _ q => opD ha hb (fun _ _ _ _ h => h) q
theorem d_cmp {op : CmpOp} {f : PyData → PyData → Option PyData} {ta tb : M VD} (ho : OpR X (compareOp op) (rD X.K f)) (ha : PD X E a ta) (hb : PD X E b tb) (hm : behindInMarks op b = false) : PD X E (.Compare a [op] [b] pos) (eOp f ta tb) :=
  PE.weak (pe_cmpR ho ha hb hm) fun _ _ _ q => opD ha hb (fun _ _ _ _ h => h) q
/-- what reads as a bool, tested -/
def tOf (t : M VD) : M Bool := do
  let x ← t
  match x with
  | .dat (.bool b) => pure b
  | _ => M.bad
theorem tOf_lift {t : M VD} {σ : L2.St} {H : Hp} {Q : Bool → Hp → Prop} (q : liftT X.K X.wd X.mg E (tOf t) σ H Q) : liftE X.K X.wd X.mg E t σ H (fun x H' => ∃ k, x = .bl k ∧ Q k H') := by
  obtain ⟨F, rs, S, G, m, p⟩ := q
  refine ⟨F, rs, S, G, m, (Post.seq p).mono fun v H1 ⟨rs1, S1, G1, x, u1, m1, r1, p1⟩ => ?_⟩
  cases x with
  | rf j => exact p1.elim
  | bag _ => exact p1.elim
  | st _ => exact p1.elim
  | ex _ => exact p1.elim
  | exs _ => exact p1.elim
  | oth _ => exact p1.elim
  | dat d =>
    cases d with
    | bool k =>
      cases (show Dd X.K G1 v (.bool k) from r1)
      exact ⟨k, rfl, Post.ret m1 p1 rfl⟩
    | _ => exact p1.elim
theorem dt_cmp {op : CmpOp} {f : PyData → PyData → Option PyData} {ta tb : M VD} (ho : OpR X (compareOp op) (rD X.K f)) (ha : PD X E a ta) (hb : PD X E b tb) (hm : behindInMarks op b = false) : PDT X E (.Compare a [op] [b] pos) (tOf (eOp f ta tb)) :=
  PT.weak (pt_cmpR ho ha hb hm) fun _ _ _ q => by
    have q' := tOf_lift q
    exact opD ha hb (fun _ _ _ _ h => h) q'
theorem dt_val {t : M VD} (h : PD X E e t) (he : ∀ whole, isTrue e X.env whole = (do let v ← whole; standAt e.pos; holding [v] (truthy v)) := by intro _; rfl) : PDT X E e (tOf t) :=
  PT.weak (pt_val h he) fun _ _ _ q => tOf_lift q
/-- and, or, not as tests -/
def tAndD (t u : M Bool) : M Bool := do let c ← t; if c then u else pure false
def tOrD (t u : M Bool) : M Bool := do let c ← t; if c then pure true else u
def tNotD (t : M Bool) : M Bool := do let c ← t; pure (!c)
variable {rest : List Expr}
theorem dw_and1 {t : M Bool} (ha : PDT X E a t) : PDW X E (.BoolOp .And [a] pos) t := pw_and1 ha
theorem dw_or1 {t : M Bool} (ha : PDT X E a t) : PDW X E (.BoolOp .Or [a] pos) t := pw_or1 ha
theorem dw_and {t u : M Bool} (ha : PDT X E a t) (hb : PDW X E (.BoolOp .And (b :: rest) pos) u) : PDW X E (.BoolOp .And (a :: b :: rest) pos) (tAndD t u) := PW.weak (pw_and ha hb) fun σ H Q q => by
  obtain ⟨F, rs, S, G, m, p⟩ := q
  refine ⟨F, rs, S, G, m, (Post.seq p).mono fun c H1 ⟨rs1, S1, G1, x, u1, m1, r1, p1⟩ => ?_⟩
  subst r1
  cases x with
  | true => exact ⟨F, rs1, S1, G1, m1, p1⟩
  | false => exact Post.ret m1 p1 rfl
theorem dw_or {t u : M Bool} (ha : PDT X E a t) (hb : PDW X E (.BoolOp .Or (b :: rest) pos) u) : PDW X E (.BoolOp .Or (a :: b :: rest) pos) (tOrD t u) := PW.weak (pw_or ha hb) fun σ H Q q => by
  obtain ⟨F, rs, S, G, m, p⟩ := q
  refine ⟨F, rs, S, G, m, (Post.seq p).mono fun c H1 ⟨rs1, S1, G1, x, u1, m1, r1, p1⟩ => ?_⟩
  subst r1
  cases x with
  | false => exact ⟨F, rs1, S1, G1, m1, p1⟩
  | true => exact Post.ret m1 p1 rfl
theorem dt_not {t : M Bool} (ha : PDT X E a t) : PDT X E (.UnaryOp .Not a pos) (tNotD t) := PT.weak (pt_not ha) fun σ H Q q => by
  obtain ⟨F, rs, S, G, m, p⟩ := q
  refine ⟨F, rs, S, G, m, (Post.seq p).mono fun c H1 ⟨rs1, S1, G1, x, u1, m1, r1, p1⟩ => ?_⟩
  subst r1
  exact Post.ret m1 p1 rfl
/-- .. as values: bools -/
def eAndD (t u : M VD) : M VD := do let c ← tOf t; if c then u else pure (.dat (.bool false))
def eOrD (t u : M VD) : M VD := do let c ← tOf t; if c then pure (.dat (.bool true)) else u
def eNotD (t : M VD) : M VD := do let c ← tOf t; pure (.dat (.bool (!c)))
/-- first a bool, then the rest -/
theorem tOf_seq {α β : Type} {Rel : List Addr → Hp → α → β → Prop} {t : M VD} {g : Bool → M α} {Q : β → Hp → Prop} (h : Post X.K X.wd X.mg E F σ Rel rs G ((tOf t >>= g) S) Q) :
    Post X.K X.wd X.mg E F σ (RdV X.K X.wd) rs G (t S) (fun v H1 => ∃ k rs1 S1 G1, v = .bl k ∧ Up rs G rs1 G1 ∧ Md X.K X.wd F rs1 S1 σ H1 G1 ∧ Post X.K X.wd X.mg E F σ Rel rs1 G1 (g k S1) Q) := by
  have e : ((tOf t >>= g) S) = ((t >>= fun x => (match x with | .dat (.bool b) => pure b | _ => M.bad : M Bool) >>= g) S) := by
    simp only [tOf, M.bind_run]
    cases t S <;> rfl
  rw [e] at h
  refine (Post.seq h).mono fun v H1 ⟨rs1, S1, G1, x, u1, m1, r1, p1⟩ => ?_
  cases x with
  | rf j => exact p1.elim
  | bag _ => exact p1.elim
  | st _ => exact p1.elim
  | ex _ => exact p1.elim
  | exs _ => exact p1.elim
  | oth _ => exact p1.elim
  | dat d =>
    cases d with
    | bool k =>
      cases (show Dd X.K G1 v (.bool k) from r1)
      exact ⟨k, rs1, S1, G1, rfl, u1, m1, p1⟩
    | _ => exact p1.elim
theorem d_and {t u : M VD} (ha : PD X E a t) (hb : PD X E (.BoolOp .And (b :: rest) pos) u) : PD X E (.BoolOp .And (a :: b :: rest) pos) (eAndD t u) := PE.weak (pe_and ha hb) fun σ H Q q => by
  obtain ⟨F, rs, S, G, m, p⟩ := q
  refine ⟨F, rs, S, G, m, (tOf_seq p).mono fun v H1 ⟨k, rs1, S1, G1, e, u1, m1, p1⟩ => ⟨k, e, ?_⟩⟩
  cases k with
  | true => exact ⟨F, rs1, S1, G1, m1, p1⟩
  | false => exact Post.ret m1 p1 (.bl false)
theorem d_or {t u : M VD} (ha : PD X E a t) (hb : PD X E (.BoolOp .Or (b :: rest) pos) u) : PD X E (.BoolOp .Or (a :: b :: rest) pos) (eOrD t u) := PE.weak (pe_or ha hb) fun σ H Q q => by
  obtain ⟨F, rs, S, G, m, p⟩ := q
  refine ⟨F, rs, S, G, m, (tOf_seq p).mono fun v H1 ⟨k, rs1, S1, G1, e, u1, m1, p1⟩ => ⟨k, e, ?_⟩⟩
  cases k with
  | false => exact ⟨F, rs1, S1, G1, m1, p1⟩
  | true => exact Post.ret m1 p1 (.bl true)
theorem d_one {op : BoolOp} {t : M VD} (ha : PD X E a t) : PD X E (.BoolOp op [a] pos) t := pe_one ha
theorem d_not {t : M VD} (ha : PD X E a t) : PD X E (.UnaryOp .Not a pos) (eNotD t) := PE.weak (pe_not ha) fun σ H Q q => by
  obtain ⟨F, rs, S, G, m, p⟩ := q
  exact ⟨F, rs, S, G, m, (tOf_seq p).mono fun v H1 ⟨k, rs1, S1, G1, e, u1, m1, p1⟩ => ⟨k, e, Post.ret m1 p1 (.bl _)⟩⟩
def eIf (c : M Bool) (t u : M VD) : M VD := do let k ← c; if k then t else u
theorem d_if {c : Expr} {tc : M Bool} {t u : M VD} (hc : PDT X E c tc) (ha : PD X E a t) (hb : PD X E b u) : PD X E (.IfExp c a b pos) (eIf tc t u) := PE.weak (pe_ifExp hc ha hb) fun σ H Q q => by
  obtain ⟨F, rs, S, G, m, p⟩ := q
  refine ⟨F, rs, S, G, m, (Post.seq p).mono fun k H1 ⟨rs1, S1, G1, x, u1, m1, r1, p1⟩ => ?_⟩
  subst r1
  cases x with
  | true => exact ⟨F, rs1, S1, G1, m1, p1⟩
  | false => exact ⟨F, rs1, S1, G1, m1, p1⟩
end
end DL
/-! DL4: calls of defs, statements. -/
namespace DL
open PySem PySem.Spec L2 DG
variable [TabT]

/-! ### a def's promise -/
abbrev Fd := List VD → M VD
def spD (K : PySem.W.Frag) (w : World) (mg : Str → Option Value) (n : Nat) (den : Fd) : Sp := fun vs H Q E =>
  vs.length = n ∧ ∃ (F : Hp) (rs : List Addr) (ce : List Cl) (G : Hp) (xs : List VD), Md K ⟨w, mg⟩ F rs ⟨[], ce⟩ [] H G ∧ RdVs K ⟨w, mg⟩ rs G xs vs ∧ Post K ⟨w, mg⟩ mg E F [] (RdV K ⟨w, mg⟩) rs G (den xs ⟨[], ce⟩) Q
/-- a def that can be called at x -/
structure Has (X : Cx) (E : XK) (x : Str) (n : Nat) (den : Fd) : Prop where
  ex : ∃ (k : Nat) (f : Addr) (fd : FuncData) (ps : List Str), FnG X.prog X.w X.K X.mg X.base k f fd ps (spD X.K X.w X.mg n den) ∧ X.A.guards = some [] ∧ Room k X.A ∧ X.mg x = some (.ref f) ∧ PySem.W.keepIn X.K (.ref f) = true ∧ Binds X.K fd ps [] ∧ Passes (L2.CX X.prog X.w) X E
def eCall (n : Nat) (den : Fd) (t : M (List VD)) : M VD := do
  let xs ← t
  chk (decide (xs.length = n))
  fun S => match den xs ⟨[], S.ce⟩ with
    | .ok (x, S') => .ok (x, ⟨S.sl, S'.ce⟩)
    | .exc x S' => .exc x ⟨S.sl, S'.ce⟩
    | .bad => .bad
section
variable {X : Cx} {E : XK} {e a b : Expr} {es : List Expr} {pos p : Pos} {x : Str}
theorem Md.back {K : PySem.W.Frag} {wl : Wd} {F : Hp} {rs rs' : List Addr} {S S' : DS} {σ : L2.St} {H H' G G' : Hp} (m : Md K wl F rs S σ H G) (u : Up rs G rs' G') (m' : Md K wl F rs' ⟨[], S'.ce⟩ [] H' G') : Md K wl F rs' ⟨S.sl, S'.ce⟩ σ H' G' :=
  m'.slots m.len fun i x h => by
    obtain ⟨v, h2, h3⟩ := m.slot i x h
    exact ⟨v, h2, RdV.up u h3⟩
theorem callPost {K : PySem.W.Frag} {wl : Wd} {mg : Str → Option Value} {F : Hp} {rs : List Addr} {G H : Hp} {σ : L2.St} {S : DS} {den : Fd} {xs : List VD} {Q : VK} (m : Md K wl F rs S σ H G)
    (h : Post K wl mg E F σ (RdV K wl) rs G (match den xs ⟨[], S.ce⟩ with
    | .ok (x, S') => R.ok (x, (⟨S.sl, S'.ce⟩ : DS))
    | .exc x S' => .exc x ⟨S.sl, S'.ce⟩
    | .bad => .bad) Q) (hs : ∀ x S', den xs ⟨[], S.ce⟩ = .ok (x, S') → S'.sl = []) : Post K wl mg E F [] (RdV K wl) rs G (den xs ⟨[], S.ce⟩) Q := by
  cases e : den xs ⟨[], S.ce⟩ with
  | ok q =>
    rw [e] at h
    intro v H' G' rs' u m' r
    have e2 : q.2.sl = [] := hs q.1 q.2 e
    have e3 : q.2 = ⟨[], q.2.ce⟩ := by cases hq : q.2; rw [hq] at e2; simp at e2; simp [e2]
    rw [e3] at m'
    exact h v H' G' rs' u (m.back u m') r
  | exc x S' => rw [e] at h; exact h
  | bad => rw [e] at h; exact h
/-- a den leaves no slots -/
def NoSl (den : Fd) : Prop := ∀ xs ce x S', den xs ⟨[], ce⟩ = .ok (x, S') → S'.sl = []
theorem d_call {n : Nat} {den : Fd} {t : M (List VD)} (hh : Has X E x n den) (hn : NoSl den) (hg : Gl X x) (ht : PDA X E (e :: es) t) (hs : starEach (e :: es) X.env = (false, eval e X.env) :: starEach es X.env := by rfl)
    (hpl : (backTo pos (starEach es X.env)).any (·.1) = false := by rfl) (hd : (x == ("__debug__" : Str)) = false := by decide) :
    PD X E (.Call (.Name x p) (e :: es) [] pos) (eCall n den t) := by
  obtain ⟨k, f, fd, ps, F1, hgd, hr, hm, hk, hb, hx⟩ := hh.ex
  refine PE.weak (pe_callG F1 hgd hr hg hm hk hb hx ht (hdb := hd) (he := hs) (hpl := hpl)) fun σ H Q q => ?_
  obtain ⟨F, rs, S, G, m, p⟩ := q
  refine ⟨F, rs, S, G, m, (Post.seq p).mono fun vs H1 ⟨rs1, S1, G1, xs, u1, m1, r1, p1⟩ => ?_⟩
  obtain ⟨hl, p2⟩ := Post.chk p1
  have hl' := RdVs.length r1
  refine ⟨by rw [← hl']; exact of_decide_eq_true hl, F, rs1, S1.ce, G1, xs, m1.cells, r1, ?_⟩
  exact callPost m1 p2 fun x S' e => hn _ _ _ _ e
theorem d_call0 {den : Fd} (hh : Has X E x 0 den) (hn : NoSl den) (hg : Gl X x) (hd : (x == ("__debug__" : Str)) = false := by decide) :
    PD X E (.Call (.Name x p) [] [] pos) (eCall 0 den (pure [])) := by
  obtain ⟨k, f, fd, ps, F1, hgd, hr, hm, hk, hb, hx⟩ := hh.ex
  refine PE.weak (pe_callG0 F1 hgd hr hg hm hk hb hx (hdb := hd)) fun σ H Q q => ?_
  obtain ⟨F, rs, S, G, m, p⟩ := q
  refine ⟨rfl, F, rs, S.ce, G, [], m.cells, trivial, ?_⟩
  exact callPost m p fun x S' e => hn _ _ _ _ e
end

/-! ### statements -/
inductive Fl where
  | nx
  | rt (x : VD)
  | bk
  | ct
abbrev MS := M Fl
section
def PostS (K : PySem.W.Frag) (wl : Wd) (mg : Str → Option Value) (E : XK) (F : Hp) (rs : List Addr) (G : Hp) (r : R (Fl × DS)) (D : Ends) : Prop :=
  match r with
  | .ok p => ∀ (σ' : L2.St) (H' G' : Hp) (rs' : List Addr), Up rs G rs' G' → Md K wl F rs' p.2 σ' H' G' → match p.1 with
    | .nx => D.nx σ' H'
    | .bk => D.bk σ' H'
    | .ct => D.ct σ' H'
    | .rt x => ∀ v, RdV K wl rs' G' x v → D.rt v H'
  | .exc x S' => ∀ (C dx : Addr) (vs : List V) (H' G' : Hp) (rs' : List Addr), Up rs G rs' G' → Md K wl F rs' ⟨[], S'.ce⟩ [] H' G' → mg x.cls = some (.ref C) → H' dx = some (.xd ((x.fs.map (·.1)).zip vs)) → DdAll K G' vs (x.fs.map (·.2)) → E (.ref C) (some dx) H'
  | .bad => False
def liftS (K : PySem.W.Frag) (wl : Wd) (mg : Str → Option Value) (E : XK) (t : MS) : TS := fun D σ H =>
  ∃ (F : Hp) (rs : List Addr) (S : DS) (G : Hp), Md K wl F rs S σ H G ∧ PostS K wl mg E F rs G (t S) D
variable {K : PySem.W.Frag} {wl : Wd} {mg : Str → Option Value} {E : XK} {F : Hp} {σ : L2.St} {rs rs1 : List Addr} {G G1 H : Hp} {D : Ends} {α β : Type} {Rel : List Addr → Hp → α → β → Prop}
theorem PostS.up (u : Up rs G rs1 G1) {r : R (Fl × DS)} (h : PostS K wl mg E F rs G r D) : PostS K wl mg E F rs1 G1 r D := by
  cases r with
  | ok p => exact fun σ' H' G' rs' u' m => h σ' H' G' rs' (u.trans u') m
  | exc x S' => exact fun C dx vs H' G' rs' u' => h C dx vs H' G' rs' (u.trans u')
  | bad => exact h
/-- first an expression, then the rest -/
theorem PostS.expr {t : M α} {g : α → MS} {S : DS} (h : PostS K wl mg E F rs G ((t >>= g) S) D) :
    Post K wl mg E F σ Rel rs G (t S) (fun (b : β) H1 => ∃ rs1 S1 G1 a, Up rs G rs1 G1 ∧ Md K wl F rs1 S1 σ H1 G1 ∧ Rel rs1 G1 a b ∧ PostS K wl mg E F rs1 G1 (g a S1) D) := by
  rw [M.bind_run] at h
  cases e : t S with
  | ok p =>
    rw [e] at h
    exact fun b H' G' rs' u m r => ⟨rs', p.2, G', p.1, u, m, r, PostS.up u h⟩
  | exc x S' => rw [e] at h; exact h
  | bad => rw [e] at h; exact h
end
def sSeq (t u : MS) : MS := do
  let f ← t
  match f with
  | .nx => u
  | f => pure f
def sNil : MS := pure .nx
abbrev PDS (X : Cx) (E : XK) (st : Stmt) (t : MS) : Prop := PS X st (liftS X.K X.wd X.mg E t)
abbrev PDSs (X : Cx) (E : XK) (st : List Stmt) (t : MS) : Prop := PSs X st (liftS X.K X.wd X.mg E t)
section
variable {X : Cx} {E : XK} {e : Expr} {st : Stmt} {rest : List Stmt} {pos pos' : Pos} {x : Str}
theorem s_nil : PDSs X E [] sNil := PSs.weak pss_nil fun D σ H q => by
  obtain ⟨F, rs, S, G, m, p⟩ := q
  exact p σ H G rs Up.refl m
theorem s_one {t : MS} (h : PDS X E st t) : PDSs X E [st] t := pss_one h
theorem s_cons {t u : MS} (h1 : PDS X E st t) (h2 : PDSs X E rest u) : PDSs X E (st :: rest) (sSeq t u) := PSs.weak (pss_cons h1 h2) fun D σ H q => by
  obtain ⟨F, rs, S, G, m, p⟩ := q
  refine ⟨F, rs, S, G, m, ?_⟩
  unfold sSeq at p
  rw [M.bind_run] at p
  cases e : t S with
  | ok q =>
    rw [e] at p
    obtain ⟨f, S'⟩ := q
    intro σ' H' G' rs' u' m'
    cases f with
    | nx => exact ⟨F, rs', S', G', m', PostS.up u' p⟩
    | bk => exact p σ' H' G' rs' u' m'
    | ct => exact p σ' H' G' rs' u' m'
    | rt x => exact p σ' H' G' rs' u' m'
  | exc x S' => rw [e] at p; exact p
  | bad => rw [e] at p; exact p
/-! targets -/
def setSl (i : Nat) (x : VD) : M Unit := fun S => .ok ((), { S with sl := S.sl.set i (some x) })
def sSet (i : Nat) (t : M VD) : MS := do let x ← t; setSl i x; pure .nx
theorem s_set (i : Nat) {t : M VD} (hN : X.N.Nodup) (he : PD X E e t) (hi : X.N[i]? = some x := by rfl) (hx : Loc X.env.scope x := by first | exact Or.inl rfl | exact Or.inr rfl) (hs : swapsWith e (some (.Name x pos')) pos.line X.env = pure false := by rfl) (hf : X.fn x = true ∨ X.env.scope.names.lookup x = some .local := by first | exact .inl rfl | exact .inr rfl) :
    PDS X E (.Assign [.Name x pos'] e pos) (sSet i t) := PS.weak (ps_set hN hi hx he hs hf) fun D σ H q => by
  obtain ⟨F, rs, S, G, m, p⟩ := q
  refine ⟨F, rs, S, G, m, (PostS.expr p).mono fun v H1 ⟨rs1, S1, G1, y, u1, m1, r1, p1⟩ => ?_⟩
  exact p1 _ H1 G1 rs1 Up.refl (m1.store r1)
/-- the same but at the slots is -/
def Off (is : List Nat) (σ σ' : L2.St) : Prop := σ'.length = σ.length ∧ ∀ k, k ∉ is → σ'[k]? = σ[k]?
theorem Off.refl {is : List Nat} {σ : L2.St} : Off is σ σ := ⟨rfl, fun _ _ => rfl⟩
theorem Off.trans {is js : List Nat} {σ σ1 σ2 : L2.St} (a : Off is σ σ1) (b : Off js σ1 σ2) : Off (is ++ js) σ σ2 := ⟨b.1.trans a.1, fun k h => (b.2 k fun z => h (List.mem_append_right _ z)).trans (a.2 k fun z => h (List.mem_append_left _ z))⟩
theorem Off.set {i : Nat} {σ : L2.St} {v : Option V} : Off [i] σ (σ.set i v) := ⟨by simp, fun k h => List.getElem?_set_ne (fun z => h (by simp [z]))⟩
/-- a target that takes a value -/
def PostU (K : PySem.W.Frag) (wl : Wd) (F : Hp) (rs : List Addr) (G : Hp) (is : List Nat) (σ : L2.St) (r : R (Unit × DS)) (Q : L2.St → Hp → Prop) : Prop :=
  match r with
  | .ok p => ∀ (σ' : L2.St) (H' G' : Hp) (rs' : List Addr), Up rs G rs' G' → Md K wl F rs' p.2 σ' H' G' → Off is σ σ' → Q σ' H'
  | _ => False
def liftG (K : PySem.W.Frag) (wl : Wd) (is : List Nat) (g : VD → M Unit) : TG := fun v σ H Q => ∃ (F : Hp) (rs : List Addr) (S : DS) (G : Hp) (x : VD), Md K wl F rs S σ H G ∧ RdV K wl rs G x v ∧ PostU K wl F rs G is σ (g x S) Q
abbrev PDG (X : Cx) (is : List Nat) (tg : Expr) (g : VD → M Unit) : Prop := PG X tg (liftG X.K X.wd is g)
def PDGs (X : Cx) (is : List Nat) (tgs : List Expr) (g : List PyData → M Unit) : Prop := PGs X tgs (fun vs σ H Q => ∃ (F : Hp) (rs : List Addr) (S : DS) (G : Hp) (ds : List PyData), Md X.K X.wd F rs S σ H G ∧ DdAll X.K G vs ds ∧ PostU X.K X.wd F rs G is σ (g ds S) Q)
theorem PG.weak {tg : Expr} {t t' : TG} (h : PG X tg t) (k : ∀ v σ H Q, t' v σ H Q → t v σ H Q) : PG X tg t' := ⟨fun pins s σ H v u Q I r q => h.run pins s σ H v u Q I r (k _ _ _ _ q)⟩
theorem PGs.weak {tgs : List Expr} {t t' : TGs} (h : PGs X tgs t) (k : ∀ v σ H Q, t' v σ H Q → t v σ H Q) : PGs X tgs t' := ⟨fun pins s σ H v u Q I r q => h.run pins s σ H v u Q I r (k _ _ _ _ q)⟩
theorem g_name (i : Nat) (hN : X.N.Nodup) (hi : X.N[i]? = some x := by rfl) (hx : Loc X.env.scope x := by first | exact Or.inl rfl | exact Or.inr rfl) (hf : X.fn x = true ∨ X.env.scope.names.lookup x = some .local := by first | exact .inl rfl | exact .inr rfl) :
    PDG X [i] (.Name x pos) (setSl i) := PG.weak (pg_name hN hi hx hf) fun v σ H Q q => by
  obtain ⟨F, rs, S, G, x, m, r, p⟩ := q
  exact p _ H G rs Up.refl (m.store r) Off.set
def gNilD : List PyData → M Unit
  | [] => pure ()
  | _ => M.bad
def gConsD (g : VD → M Unit) (gs : List PyData → M Unit) : List PyData → M Unit
  | d :: ds => do g (.dat d); gs ds
  | [] => M.bad
theorem g_nil : PDGs X [] [] gNilD := PGs.weak pgs_nil fun v σ H Q q => by
  obtain ⟨F, rs, S, G, ds, m, r, p⟩ := q
  cases r with
  | nil => exact ⟨rfl, p σ H G rs Up.refl m Off.refl⟩
  | cons _ _ => exact p.elim
theorem g_cons {es : List Expr} {g : VD → M Unit} {gs : List PyData → M Unit} {is js : List Nat} (h1 : PDG X is e g) (h2 : PDGs X js es gs) (hs : (assignEach (e :: es) X.env).map (·.2) = assign e X.env :: (assignEach es X.env).map (·.2) := by rfl) : PDGs X (is ++ js) (e :: es) (gConsD g gs) := PGs.weak (pgs_cons h1 h2 hs) fun v σ H Q q => by
  obtain ⟨F, rs, S, G, ds, m, r, p⟩ := q
  cases r with
  | nil => exact p.elim
  | @cons v0 vs d ds r1 r2 =>
    refine ⟨v0, vs, rfl, F, rs, S, G, .dat d, m, r1, ?_⟩
    unfold gConsD at p
    dsimp only at p
    rw [M.bind_run] at p
    cases e : g (.dat d) S with
    | ok q =>
      rw [e] at p
      exact fun σ' H' G' rs' u' m' o' => ⟨F, rs', q.2, G', ds, m', DdAll.same u'.2 _ _ r2, by
        have p' : PostU X.K X.wd F rs G (is ++ js) σ (gs ds q.2) Q := p
        revert p'
        cases gs ds q.2 with
        | ok w => exact fun p' σ'' H'' G'' rs'' u'' m'' o'' => p' σ'' H'' G'' rs'' (u'.trans u'') m'' (o'.trans o'')
        | exc _ _ => exact fun p' => p'
        | bad => exact fun p' => p'⟩
    | exc _ _ => rw [e] at p; exact p.elim
    | bad => rw [e] at p; exact p.elim
def gTupD (n : Nat) (gs : List PyData → M Unit) : VD → M Unit
  | .dat (.tuple ds) => do chk (decide (ds.length = n)); gs ds
  | _ => M.bad
theorem g_tup {es : List Expr} {k n : Nat} {gs : List PyData → M Unit} {is : List Nat} (hc : X.calm = true) (h : PDGs X is es gs) (hn : (assignEach es X.env).length = n := by rfl) (hst : (assignEach es X.env).findIdx? (·.1) = none := by rfl) : PDG X is (.Tuple es k pos) (gTupD n gs) :=
  PG.weak (pg_tup hc h hn hst) fun v σ H Q q => by
  obtain ⟨F, rs, S, G, x, m, r, p⟩ := q
  cases x with
  | rf j => exact p.elim
  | bag _ => exact p.elim
  | st _ => exact p.elim
  | ex _ => exact p.elim
  | exs _ => exact p.elim
  | oth _ => exact p.elim
  | dat d =>
    cases d with
    | tuple ds =>
      cases (show Dd X.K G v (.tuple ds) from r) with
      | tup hs ha =>
        unfold gTupD at p
        dsimp only at p
        rw [M.bind_run] at p
        by_cases hl : ds.length = n
        · unfold chk at p
          rw [decide_eq_true hl] at p
          exact ⟨_, _, rfl, (TN.SqN.same m.sub hs).sqt, (DdAll.length ha).trans hl, F, rs, S, G, ds, m, ha, p⟩
        · unfold chk at p
          rw [decide_eq_false hl] at p
          exact p.elim
    | _ => exact p.elim
def noX (t : M Unit) : MS := fun S => match t S with
  | .ok p => .ok (.nx, p.2)
  | _ => .bad
def sAsg (t : M VD) (g : VD → M Unit) : MS := do let x ← t; noX (g x)
theorem s_asg {tg : Expr} {t : M VD} {g : VD → M Unit} {is : List Nat} (he : PD X E e t) (hg : PDG X is tg g) (hs : swapsWithSole [tg] e pos.line X.env = pure false := by rfl) (hw : swappedStores [tg] e X.env = pure none := by rfl)
    (h1 : (assignEach [tg] X.env).map (·.2) = [assign tg X.env] := by rfl) : PDS X E (.Assign [tg] e pos) (sAsg t g) := PS.weak (ps_asg he hg hs hw h1) fun D σ H q => by
  obtain ⟨F, rs, S, G, m, p⟩ := q
  refine ⟨F, rs, S, G, m, (PostS.expr p).mono fun v H1 ⟨rs1, S1, G1, y, u1, m1, r1, p1⟩ => ⟨F, rs1, S1, G1, y, m1, r1, ?_⟩⟩
  unfold noX at p1
  cases e : g y S1 with
  | ok q => rw [e] at p1; exact fun σ' H' G' rs' u' m' _ => p1 σ' H' G' rs' u' m'
  | exc _ _ => rw [e] at p1; exact p1.elim
  | bad => rw [e] at p1; exact p1.elim
def sRet (t : M VD) : MS := do let x ← t; pure (.rt x)
theorem s_ret {t : M VD} (he : PD X E e t) : PDS X E (.Return (some e) pos) (sRet t) := PS.weak (ps_ret he) fun D σ H q => by
  obtain ⟨F, rs, S, G, m, p⟩ := q
  exact ⟨F, rs, S, G, m, (PostS.expr p).mono fun v H1 ⟨rs1, S1, G1, y, u1, m1, r1, p1⟩ => p1 σ H1 G1 rs1 Up.refl m1 v r1⟩
def sExp (t : M VD) : MS := do let _ ← t; pure .nx
theorem s_exp {t : M VD} (he : PD X E e t) (hs : swapsWith e none pos.line X.env = pure false := by rfl) : PDS X E (.Expr e pos) (sExp t) := PS.weak (ps_expr he hs) fun D σ H q => by
  obtain ⟨F, rs, S, G, m, p⟩ := q
  exact ⟨F, rs, S, G, m, (PostS.expr p).mono fun v H1 ⟨rs1, S1, G1, y, u1, m1, r1, p1⟩ => p1 σ H1 G1 rs1 Up.refl m1⟩
def sIf (c : M Bool) (t u : MS) : MS := do let b ← c; if b then t else u
theorem s_if {c : Expr} {tc : M Bool} {A B : List Stmt} {t u : MS} (hc : PDT X E c tc) (ha : PDSs X E A t) (hb : PDSs X E B u) : PDS X E (.If c A B pos) (sIf tc t u) := PS.weak (ps_if hc ha hb) fun D σ H q => by
  obtain ⟨F, rs, S, G, m, p⟩ := q
  refine ⟨F, rs, S, G, m, (PostS.expr p).mono fun k H1 ⟨rs1, S1, G1, y, u1, m1, r1, p1⟩ => ?_⟩
  subst r1
  cases y with
  | true => exact ⟨F, rs1, S1, G1, m1, p1⟩
  | false => exact ⟨F, rs1, S1, G1, m1, p1⟩
end
end DL
/-! DL5: bodies of defs, loops, comprehensions. -/
namespace DL
open PySem PySem.Spec L2
variable [TabT]

/-! ### a def's body -/
section
variable {K : PySem.W.Frag} {wl : Wd} {F : Hp} {rs : List Addr} {S : DS} {σ : L2.St} {H G : Hp} {ce : List Cl}
/-- the elder cells alone -/
theorem Md.pre {more : List Addr} {n : Nat} (m : Md K wl F (rs ++ more) S σ H G) (hn : rs.length = n) : Md K wl F rs ⟨[], S.ce.take n⟩ [] H G where
  len := rfl
  sub := m.sub
  frm := m.frm
  rl := by
    have := m.rl
    simp only [List.length_append] at this
    rw [List.length_take]
    omega
  nd := (List.nodup_append.mp m.nd).1
  cel := fun j a c h1 h2 => by
    have hj := (List.getElem?_eq_some_iff.mp h1).1
    refine m.cel j a c (by rw [List.getElem?_append_left hj]; exact h1) ?_
    rw [List.getElem?_take] at h2
    split at h2
    · exact h2
    · cases h2
  slot := fun i x h => by simp at h
  ntb := m.ntb
  nft := m.nft
  tab := m.tab
/-- .. and one of the younger ones -/
theorem Md.pre1 {more : List Addr} {n j : Nat} {a : Addr} {c : Cl} (m : Md K wl F (rs ++ more) S σ H G) (hn : rs.length = n) (hj : n ≤ j) (ha : (rs ++ more)[j]? = some a) (hc : S.ce[j]? = some c) :
    Md K wl F (rs ++ [a]) ⟨[], S.ce.take n ++ [c]⟩ [] H G := by
  have m0 := m.pre hn
  have hl : (S.ce.take n).length = n := by have := m0.rl; simp only at this; omega
  refine ⟨rfl, m.sub, m.frm, by simp [hl, hn], ?_, fun i b d h1 h2 => ?_, (fun i x h => by simp at h), m.ntb, m.nft, m.tab⟩
  · rw [List.nodup_append]
    refine ⟨m0.nd, by simp, fun x hx y hy => ?_⟩
    have e : y = a := by simpa using hy
    subst e
    obtain ⟨i, hi, e⟩ := List.getElem_of_mem hx
    exact m.nd_ne (by rw [List.getElem?_append_left hi, List.getElem?_eq_getElem hi, e]) ha (by omega)
  · by_cases hi : i < rs.length
    · rw [List.getElem?_append_left hi] at h1
      rw [List.getElem?_append_left (by rw [hl, ← hn]; exact hi)] at h2
      exact m0.cel i b d h1 h2
    · have hi' : i = rs.length := by
        have := (List.getElem?_eq_some_iff.mp h1).1
        simp at this
        omega
      subst hi'
      rw [List.getElem?_append_right (Nat.le_refl _)] at h1
      rw [List.getElem?_append_right (by rw [hl, hn]; exact Nat.le_refl _)] at h2
      simp at h1
      simp [hl, hn] at h2
      subst h1 h2
      exact m.cel j a c ha hc
end
/-- at a def's end only the elder cells and the result stay -/
def gc (n : Nat) (x : VD) (ce : List Cl) : R (VD × DS) := match x with
  | .dat d => .ok (.dat d, ⟨[], ce.take n⟩)
  | .rf j => if j < n then .ok (.rf j, ⟨[], ce.take n⟩) else match ce[j]? with
    | some c => .ok (.rf n, ⟨[], ce.take n ++ [c]⟩)
    | none => .bad
  | .bag _ => .bad
  | .st _ => .bad
  | .ex e => .ok (.ex e, ⟨[], ce.take n⟩)
  | .exs _ => .bad
  | .oth _ => .bad
def runF (N : Nat) (body : MS) : Fd := fun xs S0 => match body ⟨xs.map some ++ List.replicate (N - xs.length) none, S0.ce⟩ with
  | .ok (.rt x, S') => gc S0.ce.length x S'.ce
  | .ok (.nx, S') => gc S0.ce.length (.dat .none) S'.ce
  | .ok (_, _) => .bad
  | .exc x S' => .exc x ⟨[], S'.ce.take S0.ce.length⟩
  | .bad => .bad
theorem runF_nosl (N : Nat) (body : MS) : NoSl (runF N body) := by
  intro xs ce x S' h
  have g : ∀ (n : Nat) (y : VD) (c : List Cl), gc n y c = .ok (x, S') → S'.sl = [] := by
    intro n y c e
    cases y with
    | dat d => cases e; rfl
    | rf j =>
      unfold gc at e
      dsimp only at e
      split at e
      · cases e; rfl
      · split at e
        · cases e; rfl
        · cases e
    | bag _ => cases e
    | st _ => cases e
    | ex _ => cases e; rfl
    | exs _ => cases e
    | oth _ => cases e
  unfold runF at h
  split at h
  · exact g _ _ _ h
  · exact g _ _ _ h
  · cases h
  · cases h
  · cases h
theorem gcPost {K : PySem.W.Frag} {wl : Wd} {mg : Str → Option Value} {E : XK} {F : Hp} {rs rs' : List Addr} {S' : DS} {σ' : L2.St} {H' G G' : Hp} {n : Nat} {x : VD} {v : V} {Q : VK} (u : Up rs G rs' G') (m : Md K wl F rs' S' σ' H' G') (r : RdV K wl rs' G' x v) (hn : rs.length = n)
    (h : Post K wl mg E F [] (RdV K wl) rs G (gc n x S'.ce) Q) : Q v H' := by
  obtain ⟨⟨more, rfl⟩, sg⟩ := u
  cases x with
  | dat d => exact h v H' G' rs ⟨⟨[], by simp⟩, sg⟩ (m.pre hn) r
  | bag _ => exact h.elim
  | st _ => exact h.elim
  | ex e => exact h v H' G' rs ⟨⟨[], by simp⟩, sg⟩ (m.pre hn) r
  | exs _ => exact h.elim
  | oth _ => exact h.elim
  | rf j =>
    obtain ⟨a, ha, rfl⟩ := r
    unfold gc at h
    dsimp only at h
    by_cases hj : j < n
    · rw [if_pos hj] at h
      exact h (.ref a) H' G' rs ⟨⟨[], by simp⟩, sg⟩ (m.pre hn) ⟨a, by rw [List.getElem?_append_left (by omega)] at ha; exact ha, rfl⟩
    · rw [if_neg hj] at h
      cases e : S'.ce[j]? with
      | none => rw [e] at h; exact h.elim
      | some c =>
        rw [e] at h
        exact h (.ref a) H' G' (rs ++ [a]) ⟨⟨[a], rfl⟩, sg⟩ (m.pre1 hn (by omega) ha e) ⟨a, by rw [List.getElem?_append_right (by omega)]; simp [hn], rfl⟩
section
variable {P : Program} {w : World} {K : PySem.W.Frag} {wl : Wd} {mg : Str → Option Value} {base : Heap}
theorem rdvs_get {K : PySem.W.Frag} {wl : Wd} {rs : List Addr} {G : Hp} : ∀ {xs : List VD} {vs : List V} {i : Nat} {x : VD}, RdVs K wl rs G xs vs → xs[i]? = some x → ∃ v, vs[i]? = some v ∧ RdV K wl rs G x v
  | [], [], _, _, _, e => by simp at e
  | y :: xs, v :: vs, 0, x, h, e => by simp at e; subst e; exact ⟨v, rfl, h.1⟩
  | y :: xs, v :: vs, i + 1, x, h, e => by
    obtain ⟨w, h1, h2⟩ := rdvs_get (i := i) (x := x) h.2 (by simpa using e)
    exact ⟨w, by simpa using h1, h2⟩
  | [], _ :: _, _, _, h, _ => h.elim
  | _ :: _, [], _, _, h, _ => h.elim
/-- THE RULE for a def -/
theorem fn_ok {x qual : Str} {st : Stmt} {f : Addr} {fd : FuncData} {N ps : List Str} {k : Nat} {body : MS} (Fn : Fun K x qual st f fd) (Sc : FnScope N ps (defScope st))
    (hbody : ∀ (cdv : Value) (A : Around) (outer : List Env) (s : Shared) (H : Hp) (E : XK), A.guards = some [] → Room k (A.deeper (PyProof.Rows.envOfC qual (defScope st) s.heap.objs.size f cdv)) →
      PDSs (cxOf (L2.CX P w) P w K mg base N qual (defScope st) f cdv A outer s H E) E (defBody st) body) : DG.FnG P w K mg base (k + 1) f fd ps (spD K w mg ps.length (runF N.length body)) := by
  refine DG.FnG.of Fn Sc (fun vs H Q E h => h.1) fun cdv A outer s H vs Q E hgd hr h => ?_
  refine ⟨_, hbody cdv A outer s H E hgd hr, ?_⟩
  obtain ⟨hl, F, rs, ce, G, xs, m, r, p⟩ := h
  have hxl := RdVs.length r
  refine ⟨F, rs, ⟨xs.map some ++ List.replicate (N.length - xs.length) none, ce⟩, G, m.slots (by simp [L2.start, hxl]) fun i x h => ?_, ?_⟩
  · by_cases hi : i < xs.length
    · rw [List.getElem?_append_left (by simpa using hi), List.getElem?_map] at h
      cases e : xs[i]? with
      | none => rw [e] at h; simp at h
      | some y =>
        rw [e] at h
        simp at h
        subst h
        obtain ⟨v, h1, h2⟩ := rdvs_get r e
        refine ⟨v, ?_, h2⟩
        unfold L2.start
        rw [List.getElem?_append_left (by simp; omega), List.getElem?_map, h1]
        rfl
    · rw [List.getElem?_append_right (by simp; omega)] at h
      rw [List.getElem?_replicate] at h
      split at h
      · cases h
      · cases h
  · unfold runF at p
    dsimp only at p
    have hn : rs.length = ce.length := m.rl
    cases e : body ⟨xs.map some ++ List.replicate (N.length - xs.length) none, ce⟩ with
    | ok q =>
      obtain ⟨f, S'⟩ := q
      rw [e] at p
      intro σ' H' G' rs' u' m'
      cases f with
      | nx => exact gcPost (x := .dat .none) u' m' .non hn p
      | rt x => exact fun v rv => gcPost u' m' rv hn p
      | bk => exact p.elim
      | ct => exact p.elim
    | exc x S' =>
      rw [e] at p
      intro C dx vs' H' G' rs' u' m' h1 h2 h3
      obtain ⟨⟨more, rfl⟩, sg⟩ := u'
      exact p C dx vs' H' G' rs ⟨⟨[], by simp⟩, sg⟩ (m'.pre hn) h1 h2 h3
    | bad => rw [e] at p; exact p.elim
end

/-! ### what a for walks -/
structure SrcOk (K : PySem.W.Frag) (J : It) (G0 : Hp) (ds : List PyData) : Prop where
  stop : ∀ (H G : Hp), Same G0 G → Same G H → J.stop ds.length H
  go : ∀ (i : Nat) (H G : Hp), i < ds.length → Same G0 G → Same G H → J.go i H
  yld : ∀ (i : Nat) (H G : Hp) (x : V) (H' : Hp), i < ds.length → Same G0 G → Same G H → J.yld i H x H' → ∃ d, ds[i]? = some d ∧ ((H' = H ∧ Dd K G x d) ∨ ∃ T o, H T = none ∧ H' = upd H T o ∧ (∀ ps, o ≠ .tbl ps) ∧ Dd K (upd G T o) x d)
abbrev PDI (X : Cx) (E : XK) (tg iter : Expr) (src : M (List PyData)) : Prop := PI X tg iter (lift X.K X.wd X.mg E (fun _ G ds J => SrcOk X.K J G ds) src)
section
variable {K : PySem.W.Frag} {wl : Wd} {G : Hp} {a : Addr} {vs : List V} {ds : List PyData}
theorem src_list (hs : SqL K G a vs) (hd : DdAll K G vs ds) (inj : ∀ (H : Hp) (xs ys : List V), SqL K H a xs → SqL K H a ys → xs = ys) : SrcOk K (Itl K a) G ds where
  stop := fun H G1 s1 s2 => ⟨vs, Same.seq s2 (Same.seq s1 hs), Nat.le_of_eq (DdAll.length hd)⟩
  go := fun i H G1 hi s1 s2 => by
    have hi' : i < vs.length := by rw [DdAll.length hd]; exact hi
    exact ⟨vs, vs[i], Same.seq s2 (Same.seq s1 hs), List.getElem?_eq_getElem hi'⟩
  yld := fun i H G1 x H' hi s1 s2 y => by
    obtain ⟨e, y⟩ := y
    obtain ⟨d, h1, h2⟩ := DdAll.get hd (y vs (Same.seq s2 (Same.seq s1 hs)))
    exact ⟨d, h1, .inl ⟨e, Dd.same s1 _ _ h2⟩⟩
theorem src_tup (hs : SqT K G a vs) (hd : DdAll K G vs ds) : SrcOk K (Itt K a) G ds where
  stop := fun H G1 s1 s2 => ⟨vs, Same.sqt s2 (Same.sqt s1 hs), Nat.le_of_eq (DdAll.length hd)⟩
  go := fun i H G1 hi s1 s2 => by
    have hi' : i < vs.length := by rw [DdAll.length hd]; exact hi
    exact ⟨vs, vs[i], Same.sqt s2 (Same.sqt s1 hs), List.getElem?_eq_getElem hi'⟩
  yld := fun i H G1 x H' hi s1 s2 y => by
    obtain ⟨e, y⟩ := y
    obtain ⟨d, h1, h2⟩ := DdAll.get hd (y vs (Same.sqt s2 (Same.sqt s1 hs)))
    exact ⟨d, h1, .inl ⟨e, Dd.same s1 _ _ h2⟩⟩
end
def rngD (lo : Int) (n : Nat) : List PyData := (List.range n).map fun i => .int (lo + (i : Nat))
theorem src_rng {K : PySem.W.Frag} {G : Hp} (lo : Int) (n : Nat) : SrcOk K (Itr lo n) G (rngD lo n) where
  stop := fun H G1 _ _ => by show n ≤ (rngD lo n).length; simp [rngD]
  go := fun i H G1 hi _ _ => by
    show i < n
    simpa [rngD] using hi
  yld := fun i H G1 x H' hi s1 s2 y => by
    obtain ⟨e, y⟩ := y
    subst y
    have hi' : i < n := by simpa [rngD] using hi
    refine ⟨.int (lo + (i : Nat)), ?_, .inl ⟨e, .int _⟩⟩
    simp [rngD, List.getElem?_range hi']
def asSeq (d : PyData) : Option (List PyData) := match d with
  | .list ds => some ds
  | .tuple ds => some ds
  | _ => none
def srcSeq (t : M VD) : M (List PyData) := do let x ← t; let d ← toD x; ofO (asSeq d)
def srcRng (t : M VD) : M (List PyData) := do
  let x ← t
  match x with
  | .dat (.int j) => do chk (decide (-(2 ^ 62) ≤ j ∧ j < 2 ^ 62)); pure (rngD 0 j.toNat)
  | _ => M.bad
section
variable {X : Cx} {E : XK} {tg iter l : Expr} {p pos : Pos}
theorem i_seq {t : M VD} (hl : PD X E l t) : PDI X E tg l (srcSeq t) := by
  refine ⟨fun pins s σ H R I h => ?_⟩; obtain ⟨F, rs, S, G, m, p⟩ := h
  refine thn (hl.run pins s σ H _ I ⟨F, rs, S, G, m, Post.seq p⟩) fun v s1 ⟨x, H1, I1, r1, rs1, S1, G1, xd, u1, m1, rx, p1⟩ => ?_
  obtain ⟨d, S2, G2, sg, m2, rd, p2⟩ := m1.toD rx p1
  obtain ⟨ds, hds, p3⟩ := Post.ofO' p2
  cases d with
  | list es =>
    cases hds
    cases rd with
    | @lst a xs _ hs ha =>
      cases r1
      have hq : SqL X.K H1 a xs := .inl (Same.rd m2.sub hs); obtain ⟨its, rv, p', hz⟩ := I1.list hq
      refine wpAny_pyIter_list p'.isList ?_
      refine ⟨s1.heap.objs.size, [s1.heap.objs.size], _, Itl X.K a, H1, rfl, I1.kept (t' := s1.toks) fun b o e => Heap.get?_push_of_some _ e, turn_list a _, ⟨_, Heap.get?_push_size _ rfl, rfl, rfl⟩, fun b hb => ?_, ?_⟩
      · have e : b = s1.heap.objs.size := by simpa using hb
        subst e; exact I1.fpOk (Nat.le_refl _) (I1.hok.fresh (Nat.le_refl _))
      · refine p3 (Itl X.K a) H1 G2 rs1 Up.refl m2 ⟨fun H G1 s1 s2 => ⟨xs, .inl (Same.rd s2 (Same.rd s1 hs)), Nat.le_of_eq (DdAll.length ha)⟩, fun i H G1 hi s1 s2 => ?_, fun i H G1 x H' hi s1 s2 y => ?_⟩
        · have hi' : i < xs.length := by rw [DdAll.length ha]; exact hi
          exact ⟨xs, xs[i], .inl (Same.rd s2 (Same.rd s1 hs)), List.getElem?_eq_getElem hi'⟩
        · obtain ⟨e, y⟩ := y
          obtain ⟨d, h1, h2⟩ := DdAll.get ha (y xs (.inl (Same.rd s2 (Same.rd s1 hs))))
          exact ⟨d, h1, .inl ⟨e, Dd.same s1 _ _ h2⟩⟩
  | tuple es =>
    cases hds
    cases rd with
    | @tup a xs _ hs ha =>
      cases r1
      have hq : SqT X.K H1 a xs := (TN.SqN.same m2.sub hs).sqt
      obtain ⟨its, rv, p', hz⟩ := I1.tuple hq
      refine wpAny_pyIter_tuple (show s1.heap.IsTuple a its.toArray from p') ?_
      refine ⟨s1.heap.objs.size, [s1.heap.objs.size], _, Itt X.K a, H1, rfl, I1.kept (t' := s1.toks) fun b o e => Heap.get?_push_of_some _ e, turn_tuple a _, ⟨_, Heap.get?_push_size _ rfl, rfl, rfl⟩, fun b hb => ?_, ?_⟩
      · have e : b = s1.heap.objs.size := by simpa using hb
        subst e; exact I1.fpOk (Nat.le_refl _) (I1.hok.fresh (Nat.le_refl _))
      · exact p3 (Itt X.K a) H1 G2 rs1 Up.refl m2 (src_tup hs.sqt ha)
  | _ => cases hds
theorem PI.weak {w w' : TI} (h : PI X tg iter w) (k : ∀ σ H R, w' σ H R → w σ H R) : PI X tg iter w' := ⟨fun pins s σ H R I q => h.run pins s σ H R I (k _ _ _ q)⟩
theorem i_rng {a : Expr} {t : M VD} (hg : Gl X "range") (hm : X.mg "range" = none) (ha : PD X E a t) (hs : starEach [a] X.env = [(false, eval a X.env)] := by rfl) : PDI X E tg (.Call (.Name "range" p) [a] [] pos) (srcRng t) :=
  PI.weak (pi_range1 hg hm (pa_cons ha pa_nil (by rw [hs]; rfl)) hs) fun σ H R q => by
  obtain ⟨F, rs, S, G, m, p⟩ := q
  refine ⟨F, rs, S, G, m, (Post.seq p).mono fun v H1 ⟨rs1, S1, G1, x, u1, m1, r1, p1⟩ => ?_⟩
  cases x with
  | rf j => exact p1.elim
  | bag _ => exact p1.elim
  | st _ => exact p1.elim
  | ex _ => exact p1.elim
  | exs _ => exact p1.elim
  | oth _ => exact p1.elim
  | dat d =>
    cases d with
    | int j =>
      cases (show Dd X.K G1 v (.int j) from r1)
      obtain ⟨hb, p2⟩ := Post.chk p1
      have hb' := of_decide_eq_true hb
      exact ⟨j, rfl, hb'.1, hb'.2, p2 (Itr 0 j.toNat) H1 G1 rs1 Up.refl m1 (src_rng 0 j.toNat)⟩
    | _ => exact p1.elim
end

/-! ### for -/
def forD (g : VD → M Unit) (body : MS) : List PyData → MS
  | [] => pure .nx
  | d :: ds => do
    let _ ← noX (g (.dat d))
    let f ← body
    match f with
    | .nx => forD g body ds
    | .ct => forD g body ds
    | .bk => pure .nx
    | .rt x => pure (.rt x)
def sFor (src : M (List PyData)) (g : VD → M Unit) (body : MS) : MS := do let ds ← src; forD g body ds
section
variable {X : Cx} {E : XK} {tg iter : Expr} {body : List Stmt} {pos : Pos}
theorem s_for {src : M (List PyData)} {g : VD → M Unit} {t : MS} (hp : PassesOwn (model X.prog X.w) X.A X.env X.xe) (hc : X.calm = true) (hi : PDI X E tg iter src) {is : List Nat} (hg : PDG X is tg g) (hb : PDSs X E body t)
    (hs : ∀ x, foldedSetIterable iter X.env x = pure x := by intro _; rfl) : PDS X E (.For tg iter body [] pos) (sFor src g t) := PS.weak (ps_for hp hc hi hg hb hs) fun D σ H q => by
  obtain ⟨F, rs, S, G, m, p⟩ := q
  refine ⟨F, rs, S, G, m, (PostS.expr p).mono fun J H1 ⟨rs1, S1, G1, ds, u1, m1, r1, p1⟩ => ?_⟩
  refine ⟨fun i n σ' H' => n = ds.length - i ∧ i ≤ ds.length ∧ ∃ rs2 S2 G2, Up rs1 G1 rs2 G2 ∧ Md X.K X.wd F rs2 S2 σ' H' G2 ∧ PostS X.K X.wd X.mg E F rs2 G2 (forD g t (ds.drop i) S2) D, ⟨ds.length, by simp, by simp, rs1, S1, G1, Up.refl, m1, by simpa using p1⟩, ?_⟩
  rintro i n σ' H' ⟨rfl, hi, rs2, S2, G2, u2, m2, p2⟩
  by_cases hlt : i < ds.length
  · refine .inr ⟨r1.go i H' G2 hlt u2.2 m2.sub, fun σ'' H'' => ∃ rs3 S3 G3, Up rs1 G1 rs3 G3 ∧ Md X.K X.wd F rs3 S3 σ'' H'' G3 ∧ PostS X.K X.wd X.mg E F rs3 G3 (forD g t (ds.drop (i + 1)) S3) D,
      fun σ'' H'' ⟨rs3, S3, G3, u3, m3, p3⟩ => ⟨ds.length - (i + 1), by omega, rfl, hlt, rs3, S3, G3, u3, m3, p3⟩, fun x H'' y => ?_⟩
    obtain ⟨d, hd, hy⟩ := r1.yld i H' G2 x H'' hlt u2.2 m2.sub y
    have step : ∀ G3, Same G2 G3 → Md X.K X.wd F rs2 S2 σ' H'' G3 → Dd X.K G3 x d → ∃ F' rs S G y, Md X.K X.wd F' rs S σ' H'' G ∧ RdV X.K X.wd rs G y x ∧ PostU X.K X.wd F' rs G is σ' (g y S) fun σ2 H2 =>
        liftS X.K X.wd X.mg E t { D with nx := fun σ'' H'' => ∃ rs3 S3 G3, Up rs1 G1 rs3 G3 ∧ Md X.K X.wd F rs3 S3 σ'' H'' G3 ∧ PostS X.K X.wd X.mg E F rs3 G3 (forD g t (ds.drop (i + 1)) S3) D, ct := fun σ'' H'' => ∃ rs3 S3 G3, Up rs1 G1 rs3 G3 ∧ Md X.K X.wd F rs3 S3 σ'' H'' G3 ∧ PostS X.K X.wd X.mg E F rs3 G3 (forD g t (ds.drop (i + 1)) S3) D, bk := D.nx } σ2 H2 := by
      intro G3 s3 m3 rd
      refine ⟨F, rs2, S2, G3, .dat d, m3, rd, ?_⟩
      have hdrop : ds.drop i = d :: ds.drop (i + 1) := by
        rw [List.drop_eq_getElem_cons hlt]; congr 1
        have := List.getElem?_eq_getElem hlt
        rw [hd] at this; exact (Option.some.inj this).symm
      rw [hdrop] at p2
      unfold forD at p2
      rw [M.bind_run] at p2
      unfold noX at p2
      cases e : g (.dat d) S2 with
      | exc _ _ => rw [e] at p2; exact p2.elim
      | bad => rw [e] at p2; exact p2.elim
      | ok q =>
        rw [e] at p2
        simp only [R.bind] at p2
        intro σ4 H4 G4 rs4 u4 m4 _
        refine ⟨F, rs4, q.2, G4, m4, ?_⟩
        rw [M.bind_run] at p2
        have up4 : Up rs2 G2 rs4 G4 := ⟨u4.1, L2.Same.trans s3 u4.2⟩
        cases e2 : t q.2 with
        | bad => rw [e2] at p2; exact p2.elim
        | exc x S' =>
          rw [e2] at p2
          exact PostS.up (r := .exc x S') up4 p2
        | ok w =>
          rw [e2] at p2
          obtain ⟨f, S5⟩ := w
          intro σ5 H5 G5 rs5 u5 m5
          have up5 := up4.trans u5
          cases f with
          | nx => exact ⟨rs5, S5, G5, u2.trans up5, m5, PostS.up up5 p2⟩
          | ct => exact ⟨rs5, S5, G5, u2.trans up5, m5, PostS.up up5 p2⟩
          | bk => exact p2 σ5 H5 G5 rs5 up5 m5
          | rt x => exact p2 σ5 H5 G5 rs5 up5 m5
    rcases hy with ⟨rfl, rd⟩ | ⟨T, o, hT, rfl, nt, rd⟩
    · exact step G2 (L2.Same.refl _) m2 rd
    · exact step (upd G2 T o) (same_upd (L2.Same.free m2.sub hT)) (m2.new hT nt) rd
  · have e : i = ds.length := by omega
    subst e
    refine .inl ⟨r1.stop H' G2 u2.2 m2.sub, ?_⟩
    rw [List.drop_length] at p2
    exact p2 σ' H' G2 rs2 Up.refl m2
end
end DL
/-! DL6: list comprehensions. -/
namespace DL
open PySem PySem.Spec L2
variable [TabT]

abbrev Ce := List Cl
def wipeD (sl : List (Option VD)) : List Nat → List (Option VD)
  | [] => sl
  | v :: vs => (wipeD sl vs).set v none
theorem Md.wipe {K : PySem.W.Frag} {wl : Wd} {F : Hp} {rs : List Addr} {S : DS} {σ : L2.St} {H G : Hp} (m : Md K wl F rs S σ H G) : ∀ vs : List Nat, Md K wl F rs ⟨wipeD S.sl vs, S.ce⟩ (L2.wipe σ vs) H G
  | [] => m
  | v :: vs => by
    have m1 := Md.wipe m vs
    refine ⟨by simp only [wipeD, L2.wipe, List.length_set]; exact m1.len, m.sub, m.frm, m.rl, m.nd, m.cel, fun i x h => ?_, m.ntb, m.nft, m.tab⟩
    simp only [wipeD] at h
    by_cases hi : i = v
    · subst hi
      have hl := (List.getElem?_eq_some_iff.mp h).1
      simp only [List.length_set] at hl
      rw [List.getElem?_set_self hl] at h
      cases h
    · rw [List.getElem?_set_ne (Ne.symm hi)] at h
      obtain ⟨w, h1, h2⟩ := m1.slot i x h
      exact ⟨w, by simp only [L2.wipe]; rw [List.getElem?_set_ne (Ne.symm hi)]; exact h1, h2⟩
theorem wipe_get {σ : L2.St} : ∀ {vs : List Nat} {k : Nat}, k ∉ vs → (L2.wipe σ vs)[k]? = σ[k]?
  | [], _, _ => rfl
  | v :: vs, k, h => by
    simp only [L2.wipe]
    rw [List.getElem?_set_ne (fun z => h (by simp [z]))]
    exact wipe_get fun z => h (List.mem_cons_of_mem _ z)
theorem wipe_none {σ : L2.St} : ∀ {vs : List Nat} {k : Nat}, k ∈ vs → k < σ.length → (L2.wipe σ vs)[k]? = some none
  | v :: vs, k, h, hl => by
    simp only [L2.wipe]
    by_cases e : k = v
    · subst e
      rw [List.getElem?_set_self (by rw [wipe_length]; exact hl)]
    · rw [List.getElem?_set_ne (Ne.symm e)]
      rcases List.mem_cons.1 h with z | z
      · exact absurd z e
      · exact wipe_none z hl
theorem wipe_off {σ σ2 : L2.St} {vs is : List Nat} (o : Off is (L2.wipe σ vs) σ2) (h : ∀ i ∈ is, i ∈ vs) : L2.wipe σ2 vs = L2.wipe σ vs := by
  apply List.ext_getElem?
  intro k
  have hl : σ2.length = σ.length := o.1.trans (wipe_length σ vs)
  by_cases hk : k ∈ vs
  · by_cases hb : k < σ.length
    · rw [wipe_none hk hb, wipe_none hk (by rw [hl]; exact hb)]
    · rw [List.getElem?_eq_none (by rw [wipe_length, hl]; omega), List.getElem?_eq_none (by rw [wipe_length]; omega)]
  · rw [wipe_get hk, o.2 k (fun z => hk (h k z))]

/-- one turn: the item, or nothing -/
def stepC (g : VD → M Unit) (tt : M Bool) (te : M VD) (d : PyData) : M (Option PyData) := do
  g (.dat d)
  let b ← tt
  if b then do
    let y ← te
    let e ← toD y
    pure (some e)
  else pure none
def lcGo (step : PyData → M (Option PyData)) (n0 : Nat) (sl0 : List (Option VD)) : List PyData → Ce → Option Ce
  | [], ce => some ce
  | d :: ds, ce => match step d ⟨sl0, ce⟩ with
    | .ok (o, S') => match S'.ce[n0]? with
      | some (.ls true acc) => match o with
        | some e => if acc.length < 16777216 then lcGo step n0 sl0 ds (S'.ce.take n0 ++ [(.ls true (acc ++ [e]))]) else none
        | none => lcGo step n0 sl0 ds (S'.ce.take n0 ++ [(.ls true acc)])
      | _ => none
    | _ => none
def eLc (vs : List Nat) (src : M (List PyData)) (step : PyData → M (Option PyData)) : M VD := do
  let ds ← src
  fun S => match lcGo step S.ce.length (wipeD S.sl vs) ds (S.ce ++ [(.ls true [])]) with
    | some ce => .ok (.rf S.ce.length, ⟨S.sl, ce⟩)
    | none => .bad

theorem take_set {α : Type} {l : List α} {n : Nat} {x : α} (h : n < l.length) : (l.take (n + 1)).set n x = l.take n ++ [x] := by
  apply List.ext_getElem?
  intro k
  by_cases hk : k < n
  · rw [List.getElem?_set_ne (by omega), List.getElem?_take, if_pos (by omega), List.getElem?_append_left (by simp; omega), List.getElem?_take, if_pos hk]
  · by_cases e : k = n
    · subst e
      rw [List.getElem?_set_self (by simp; omega), List.getElem?_append_right (by simp; omega)]
      simp [Nat.min_eq_left (Nat.le_of_lt h)]
    · rw [List.getElem?_eq_none (by simp; omega), List.getElem?_eq_none (by simp; omega)]
theorem take_get {α : Type} {l : List α} {n : Nat} {x : α} (h : l[n]? = some x) : l.take (n + 1) = l.take n ++ [x] := by
  rw [List.take_succ, h]; rfl

section
variable {K : PySem.W.Frag} {wl : Wd} {mg : Str → Option Value} {F : Hp} {rs : List Addr} {S : DS} {σ : L2.St} {H G : Hp}
/-- what a run that ends well shows, whatever is wanted of exceptions -/
theorem Post.okE {α β : Type} {E E' : XK} {Rel : List Addr → Hp → α → β → Prop} {r : R (α × DS)} {p : α × DS} {Q Q' : β → Hp → Prop} (e : r = .ok p) (h : ∀ (b : β) (H' G' : Hp) (rs' : List Addr), Up rs G rs' G' → Md K wl F rs' p.2 σ H' G' → Rel rs' G' p.1 b → Q b H') : Post K wl mg E F σ Rel rs G r Q := by
  rw [e]; exact h
end

section
variable {X : Cx} {E : XK} {elt tg iter : Expr} {ifs : List Expr} {scope : Scope} {own : List (Str × Nat)} {pos : Pos} {src : M (List PyData)} {g : VD → M Unit} {tt : M Bool} {te : M VD} {is : List Nat}
/-- the reading of a comprehension -/
theorem lc_lift {gr : TG} (hgr : ∀ (σ : L2.St) (H : Hp) (v : V) (Q : L2.St → Hp → Prop), (∃ (F : Hp) (rs : List Addr) (S : DS) (G : Hp) (x : VD), Md X.K X.wd F rs S σ H G ∧ RdV X.K X.wd rs G x v ∧ PostU X.K X.wd F rs G is σ (g x S) Q) → gr v σ H Q)
    (his : ∀ i ∈ is, i ∈ own.map (·.2)) {σ : L2.St} {H : Hp} {Q : VK} (q : liftE X.K X.wd X.mg E (eLc (own.map (·.2)) src (stepC g tt te)) σ H Q) :
    tLc (lift X.K X.wd X.mg E (fun _ G ds J => SrcOk X.K J G ds) src) gr (liftT X.K X.wd X.mg E0 tt) (liftE X.K X.wd X.mg E0 te) (own.map (·.2)) σ H Q := by
  obtain ⟨F, rs, S, G, m, p⟩ := q
  refine ⟨F, rs, S, G, m, (Post.seq p).mono fun J H1 ⟨rs1, S1, G1, ds, u1, m1, r1, p1⟩ => fun D hD => ?_⟩
  have m2 := m1.cell (ds := []) (vs := []) hD .nil
  have hn0 : rs1.length = S1.ce.length := m1.rl
  refine ⟨fun i n H' => n = ds.length - i ∧ i ≤ ds.length ∧ ∃ ce2 G2, Same G1 G2 ∧ Md X.K X.wd F (rs1 ++ [D]) ⟨S1.sl, ce2⟩ σ H' G2 ∧
      Post X.K X.wd X.mg E F σ (RdV X.K X.wd) rs1 G1 (match lcGo (stepC g tt te) S1.ce.length (wipeD S1.sl (own.map (·.2))) (ds.drop i) ce2 with
        | some ce => .ok (.rf S1.ce.length, ⟨S1.sl, ce⟩)
        | none => .bad) Q, ⟨ds.length, by simp, by simp, _, G1, L2.Same.refl _, m2, by simpa using p1⟩, ?_⟩
  rintro i n H' ⟨rfl, hi, ce2, G2, s2, m3, p2⟩
  by_cases hlt : i < ds.length
  · refine .inr ⟨r1.go i H' G2 hlt s2 m3.sub, fun H'' => ∃ ce3 G3, Same G1 G3 ∧ Md X.K X.wd F (rs1 ++ [D]) ⟨S1.sl, ce3⟩ σ H'' G3 ∧
      Post X.K X.wd X.mg E F σ (RdV X.K X.wd) rs1 G1 (match lcGo (stepC g tt te) S1.ce.length (wipeD S1.sl (own.map (·.2))) (ds.drop (i + 1)) ce3 with
        | some ce => .ok (.rf S1.ce.length, ⟨S1.sl, ce⟩)
        | none => .bad) Q, fun H'' ⟨ce3, G3, s3, m4, p3⟩ => ⟨ds.length - (i + 1), by omega, rfl, hlt, ce3, G3, s3, m4, p3⟩, fun x H'' y => ?_⟩
    obtain ⟨d, hd, hy⟩ := r1.yld i H' G2 x H'' hlt s2 m3.sub y
    have hdrop : ds.drop i = d :: ds.drop (i + 1) := by
      rw [List.drop_eq_getElem_cons hlt]; congr 1
      have := List.getElem?_eq_getElem hlt
      rw [hd] at this; exact (Option.some.inj this).symm
    rw [hdrop] at p2
    unfold lcGo at p2
    -- the turn ends well
    cases es : stepC g tt te d ⟨wipeD S1.sl (own.map (·.2)), ce2⟩ with
    | exc _ _ => rw [es] at p2; exact p2.elim
    | bad => rw [es] at p2; exact p2.elim
    | ok w =>
      obtain ⟨o, S'⟩ := w
      rw [es] at p2
      dsimp only at p2
      cases ea : S'.ce[S1.ce.length]? with
      | none => rw [ea] at p2; exact p2.elim
      | some c =>
        cases c with
        | dk _ => rw [ea] at p2; exact p2.elim
        | si _ => rw [ea] at p2; exact p2.elim
        | ls live acc =>
        cases live with
        | false => rw [ea] at p2; exact p2.elim
        | true =>
          rw [ea] at p2
          dsimp only at p2
          -- the parts of the turn
          unfold stepC at es
          rw [M.bind_run] at es
          have step : ∀ G3, Same G2 G3 → Md X.K X.wd F (rs1 ++ [D]) ⟨S1.sl, ce2⟩ σ H'' G3 → Dd X.K G3 x d → gr x (L2.wipe σ (own.map (·.2))) H'' fun σ2 H2 => L2.wipe σ2 (own.map (·.2)) = L2.wipe σ (own.map (·.2)) ∧ liftT X.K X.wd X.mg E0 tt σ2 H2 fun b H3 =>
              if b = true then liftE X.K X.wd X.mg E0 te σ2 H3 fun y H4 => ∃ accV, H4 D = some (.lst accV) ∧ accV.length < sizeLine ∧ (∃ ce3 G3, Same G1 G3 ∧ Md X.K X.wd F (rs1 ++ [D]) ⟨S1.sl, ce3⟩ σ (upd H4 D (.lst (accV ++ [y]))) G3 ∧
                Post X.K X.wd X.mg E F σ (RdV X.K X.wd) rs1 G1 (match lcGo (stepC g tt te) S1.ce.length (wipeD S1.sl (own.map (·.2))) (ds.drop (i + 1)) ce3 with
                  | some ce => .ok (.rf S1.ce.length, ⟨S1.sl, ce⟩)
                  | none => .bad) Q)
              else (∃ ce3 G3, Same G1 G3 ∧ Md X.K X.wd F (rs1 ++ [D]) ⟨S1.sl, ce3⟩ σ H3 G3 ∧
                Post X.K X.wd X.mg E F σ (RdV X.K X.wd) rs1 G1 (match lcGo (stepC g tt te) S1.ce.length (wipeD S1.sl (own.map (·.2))) (ds.drop (i + 1)) ce3 with
                  | some ce => .ok (.rf S1.ce.length, ⟨S1.sl, ce⟩)
                  | none => .bad) Q) := by
            intro G3 s3 m4 rd
            refine hgr _ _ _ _ ⟨F, _, _, G3, .dat d, m4.wipe (own.map (·.2)), rd, ?_⟩
            cases eg : g (.dat d) ⟨wipeD S1.sl (own.map (·.2)), ce2⟩ with
            | exc _ _ => rw [eg] at es; cases es
            | bad => rw [eg] at es; cases es
            | ok q =>
              rw [eg] at es
              simp only [R.bind] at es
              intro σ2 H2 G4 rs4 u4 m5 off
              refine ⟨wipe_off off his, ?_⟩
              rw [M.bind_run] at es
              cases et : tt q.2 with
              | exc _ _ => rw [et] at es; cases es
              | bad => rw [et] at es; cases es
              | ok q2 =>
                rw [et] at es
                simp only [R.bind] at es
                refine ⟨F, rs4, q.2, G4, m5, Post.okE (E' := E) (Q' := fun _ _ => True) et fun b H3 G5 rs5 u5 m6 eb => ?_⟩
                have hb : q2.1 = b := eb
                subst hb
                have upA : Up (rs1 ++ [D]) G3 rs5 G5 := u4.trans u5
                -- back to the def's own slots
                have back : ∀ (H9 G9 : Hp) (rs9 : List Addr) (S9 : DS) (σ9 : L2.St), Up (rs1 ++ [D]) G3 rs9 G9 → Md X.K X.wd F rs9 S9 σ9 H9 G9 → Md X.K X.wd F (rs1 ++ [D]) ⟨S1.sl, S9.ce.take (S1.ce.length + 1)⟩ σ H9 G9 := by
                  intro H9 G9 rs9 S9 σ9 u9 m9
                  obtain ⟨⟨more, e9⟩, sg9⟩ := u9
                  rw [e9] at m9
                  have mp := m9.pre (n := S1.ce.length + 1) (by simp [hn0])
                  refine mp.slots m4.len fun k y hk => ?_
                  obtain ⟨v, h1, h2⟩ := m4.slot k y hk
                  exact ⟨v, h1, RdV.up ⟨⟨[], by simp⟩, sg9⟩ h2⟩
                cases hq2 : q2.1 with
                | false =>
                  rw [hq2] at es
                  simp only [Bool.false_eq_true, if_false] at es ⊢
                  have es' : (none, q2.2) = (o, S') := R.ok.inj es
                  cases es'
                  dsimp only at p2
                  have mb := back H3 G5 rs5 q2.2 _ upA m6
                  rw [take_get ea] at mb
                  exact ⟨_, G5, L2.Same.trans s2 (L2.Same.trans s3 upA.2), mb, p2⟩
                | true =>
                  rw [hq2] at es
                  simp only [if_true] at es ⊢
                  rw [M.bind_run] at es
                  cases ee : te q2.2 with
                  | exc _ _ => rw [ee] at es; cases es
                  | bad => rw [ee] at es; cases es
                  | ok q3 =>
                    rw [ee] at es
                    simp only [R.bind] at es
                    refine ⟨F, rs5, q2.2, G5, m6, Post.okE (E' := E) (Q' := fun _ _ => True) ee fun yv H4 G6 rs6 u6 m7 ry => ?_⟩
                    rw [M.bind_run] at es
                    -- the item as data
                    have key : ∃ e9 S9 G9, Same G6 G9 ∧ Md X.K X.wd F rs6 S9 σ2 H4 G9 ∧ Dd X.K G9 yv e9 ∧ o = some e9 ∧ S' = S9 := by
                      cases ed : toD q3.1 q3.2 with
                      | exc _ _ => rw [ed] at es; cases es
                      | bad => rw [ed] at es; cases es
                      | ok q4 =>
                        rw [ed] at es
                        have es' : (some q4.1, q4.2) = (o, S') := R.ok.inj es
                        have pp : Post X.K X.wd X.mg (fun _ _ _ => True) F σ2 (fun _ _ (a : PyData) (b : PyData) => True) rs6 G6 ((toD q3.1 >>= fun d => (pure d : M PyData)) q3.2) (fun _ _ => True) := by
                          rw [M.bind_run, ed]
                          exact fun _ _ _ _ _ _ _ => trivial
                        cases hx : q3.1 with
                        | dat d9 =>
                          rw [hx] at ed ry
                          have e1 : (d9, q3.2) = q4 := R.ok.inj ed
                          subst e1
                          cases es'
                          exact ⟨d9, q3.2, G6, L2.Same.refl _, m7, ry, rfl, rfl⟩
                        | bag _ => rw [hx] at ed; cases ed
                        | st _ => rw [hx] at ed; cases ed
                        | ex _ => rw [hx] at ed; cases ed
                        | exs _ => rw [hx] at ed; cases ed
                        | oth _ => rw [hx] at ed; cases ed
                        | rf j =>
                          rw [hx] at ed ry
                          obtain ⟨aa, haa, rfl⟩ := ry
                          unfold toD at ed
                          dsimp only at ed
                          cases ej : q3.2.ce[j]? with
                          | none => rw [ej] at ed; cases ed
                          | some cc =>
                            cases cc with
                            | dk _ => rw [ej] at ed; cases ed
                            | si _ => rw [ej] at ed; cases ed
                            | ls bb dss =>
                            rw [ej] at ed
                            cases bb with
                            | true =>
                              cases ed
                              cases es'
                              obtain ⟨G9, sg9, m9, rd9⟩ := m7.freeze haa ej
                              exact ⟨_, _, G9, sg9, m9, rd9, rfl, rfl⟩
                            | false =>
                              cases ed
                              cases es'
                              obtain ⟨vs9, hv9, hd9⟩ := m7.cel j aa _ haa ej
                              exact ⟨_, _, G6, L2.Same.refl _, m7, .lst (Rd.of hv9) hd9, rfl, rfl⟩
                    obtain ⟨e9, S9, G9, sg9, m9, rd9, rfl, rfl⟩ := key
                    have upB : Up (rs1 ++ [D]) G3 rs6 G9 := upA.trans (u6.trans ⟨⟨[], by simp⟩, sg9⟩)
                    have mb := back H4 G9 rs6 S' _ upB m9
                    have hDn : (rs1 ++ [D])[S1.ce.length]? = some D := by rw [List.getElem?_append_right (by omega)]; simp [hn0]
                    have hln : S1.ce.length < S'.ce.length := (List.getElem?_eq_some_iff.mp ea).1
                    have hcn : (⟨S1.sl, S'.ce.take (S1.ce.length + 1)⟩ : DS).ce[S1.ce.length]? = some (.ls true acc) := by
                      show (S'.ce.take (S1.ce.length + 1))[S1.ce.length]? = some (.ls true acc)
                      rw [List.getElem?_take, if_pos (by omega)]
                      exact ea
                    obtain ⟨_, _, accV, hv, hdv⟩ := mb.cel _ _ _ hDn hcn
                    dsimp only at p2
                    by_cases hz : acc.length < 16777216
                    · rw [if_pos hz] at p2
                      refine ⟨accV, hv, ?_, ?_⟩
                      · rw [DdAll.length hdv, sizeLine_eq]; exact hz
                      · have mw := mb.write (ds' := acc ++ [e9]) (vs' := accV ++ [yv]) hDn hcn (DdAll.append hdv (.cons rd9 .nil))
                        dsimp only at mw
                        rw [take_set hln] at mw
                        exact ⟨_, G9, L2.Same.trans s2 (L2.Same.trans s3 upB.2), mw, p2⟩
                    · rw [if_neg hz] at p2
                      exact p2.elim
          rcases hy with ⟨rfl, rd⟩ | ⟨T, oo, hT, rfl, nt, rd⟩
          · exact step G2 (L2.Same.refl _) m3 rd
          · exact step (upd G2 T oo) (same_upd (L2.Same.free m3.sub hT)) (m3.new hT nt) rd
  · have e : i = ds.length := by omega
    subst e
    refine .inl ⟨r1.stop H' G2 s2 m3.sub, ?_⟩
    rw [List.drop_length] at p2
    exact p2 (.ref D) H' G2 (rs1 ++ [D]) ⟨⟨[D], rfl⟩, s2⟩ m3 ⟨D, by rw [List.getElem?_append_right (by omega)]; simp [hn0], rfl⟩
def tYesD : M Bool := pure true
theorem d_lc (hc : X.calm = true) (hN : X.N.Nodup) (ok : BlkOk X.N X.env.scope scope own) (his : ∀ i ∈ is, i ∈ own.map (·.2)) (hi : PDI X E tg iter src)
    (hg : ∀ (s : Shared) (H : Hp) (C : Addr) (cl : List (Str × Addr)) (fp : List Addr), PDG (X.blk s H scope (compEnvC scope cl C X.env) fp) is tg g)
    (ht : ∀ (s : Shared) (H : Hp) (C : Addr) (cl : List (Str × Addr)) (fp : List Addr), PTs (X.blk s H scope (compEnvC scope cl C X.env) fp) ifs (liftT X.K X.wd X.mg E0 tt))
    (he : ∀ (s : Shared) (H : Hp) (C : Addr) (cl : List (Str × Addr)) (fp : List Addr), PD (X.blk s H scope (compEnvC scope cl C X.env) fp) E0 elt te) (hs : ∀ x, foldedSetIterable iter X.env x = pure x := by intro _; rfl) :
    PD X E (.ListComp elt [⟨tg, iter, ifs, 0⟩] scope pos) (eLc (own.map (·.2)) src (stepC g tt te)) :=
  PE.weak (pe_lc (g := liftG X.K X.wd is g) (tt := liftT X.K X.wd X.mg E0 tt) (te := liftE X.K X.wd X.mg E0 te) hc hN hi ok hg ht he hs) fun σ H Q q => lc_lift (fun _ _ _ _ h => h) his q
theorem ts_nil {E : XK} : PTs X [] (liftT X.K X.wd X.mg E tYesD) := ⟨fun pins s σ H Q I q => pts_nil.run pins s σ H Q I (by
  obtain ⟨F, rs, S, G, m, p⟩ := q
  exact Post.ret m p rfl)⟩
theorem ts_one {E : XK} {c : Expr} {t : M Bool} (h : PDT X E c t) : PTs X [c] (liftT X.K X.wd X.mg E t) := pts_one h
end
end DL
/-! DL7: operators and built-ins by data. -/
namespace DL
open PySem PySem.Spec L2
variable [TabT]

/-! ### ints -/
def fI (g : Int → Int → Option PyData) : PyData → PyData → Option PyData
  | .int i, .int j => g i j
  | _, _ => none
theorem fI_inv {g : Int → Int → Option PyData} {d e r : PyData} (h : fI g d e = some r) : ∃ i j, d = .int i ∧ e = .int j ∧ g i j = some r := by
  unfold fI at h
  split at h
  · exact ⟨_, _, rfl, rfl, h⟩
  · cases h
section
variable {X : Cx}
theorem rD_int {K : PySem.W.Frag} {g : Int → Int → Option PyData} {x y : V} {H : Hp} {Q : VK} (h : rD K (fI g) x y H Q) : ∃ i j r w, x = .int i ∧ y = .int j ∧ g i j = some r ∧ scalV r = some w ∧ Q w H := by
  obtain ⟨d, e, r, w, h1, h2, h3, h4, q⟩ := h
  obtain ⟨i, j, rfl, rfl, h5⟩ := fI_inv h3
  cases h1
  cases h2
  exact ⟨i, j, r, w, rfl, rfl, h5, h4, q⟩
abbrev fAdd := fI fun i j => some (.int (i + j))
abbrev fSub := fI fun i j => some (.int (i - j))
abbrev fMul := fI fun i j => if (-(2 ^ 64) < i ∧ i < 2 ^ 64) ∨ (-(2 ^ 64) < j ∧ j < 2 ^ 64) then some (.int (i * j)) else none
abbrev fDiv := fI fun i j => if 0 < j ∧ j < 1073741824 then some (.int (i / j)) else none
abbrev fMod := fI fun i j => if 0 < j then some (.int (i % j)) else none
abbrev fPow := fI fun i j => if 0 ≤ j ∧ j ≤ 1000 ∧ i.natAbs < 2 ^ 64 then some (.int (i ^ j.toNat)) else none
theorem o_add : OpR X (binaryOp .Add) (rD X.K fAdd) := OpR.weak op_add fun x y H Q h => by
  obtain ⟨i, j, r, w, rfl, rfl, h1, h2, q⟩ := rD_int h
  cases h1; cases h2; exact ⟨i, j, rfl, rfl, q⟩
theorem o_sub : OpR X (binaryOp .Sub) (rD X.K fSub) := OpR.weak op_sub fun x y H Q h => by
  obtain ⟨i, j, r, w, rfl, rfl, h1, h2, q⟩ := rD_int h
  cases h1; cases h2; exact ⟨i, j, rfl, rfl, q⟩
theorem o_mul : OpR X (binaryOp .Mult) (rD X.K fMul) := OpR.weak op_mul fun x y H Q h => by
  obtain ⟨i, j, r, w, rfl, rfl, h1, h2, q⟩ := rD_int h
  split at h1
  · rename_i hc
    cases h1; cases h2; exact ⟨i, j, rfl, rfl, hc, q⟩
  · cases h1
theorem o_div : OpR X (binaryOp .FloorDiv) (rD X.K fDiv) := OpR.weak op_fdiv fun x y H Q h => by
  obtain ⟨i, j, r, w, rfl, rfl, h1, h2, q⟩ := rD_int h
  split at h1
  · rename_i hc
    cases h1; cases h2; exact ⟨i, j, rfl, rfl, hc, q⟩
  · cases h1
theorem o_mod : OpR X (binaryOp .Mod) (rD X.K fMod) := OpR.weak op_mod fun x y H Q h => by
  obtain ⟨i, j, r, w, rfl, rfl, h1, h2, q⟩ := rD_int h
  split at h1
  · rename_i hc
    cases h1; cases h2; exact ⟨i, j, rfl, rfl, hc, q⟩
  · cases h1
theorem o_pow : OpR X (binaryOp .Pow) (rD X.K fPow) := OpR.weak op_pow fun x y H Q h => by
  obtain ⟨i, j, r, w, rfl, rfl, h1, h2, q⟩ := rD_int h
  split at h1
  · rename_i hc
    cases h1; cases h2; exact ⟨i, j, rfl, rfl, ⟨hc.1, by omega, hc.2.2⟩, q⟩
  · cases h1
abbrev fLt := fI fun i j => some (.bool (decide (i < j)))
abbrev fLe := fI fun i j => some (.bool (decide (i ≤ j)))
abbrev fGt := fI fun i j => some (.bool (decide (j < i)))
abbrev fGe := fI fun i j => some (.bool (decide (j ≤ i)))
theorem o_lt : OpR X (compareOp .Lt) (rD X.K fLt) := OpR.weak op_lt fun x y H Q h => by
  obtain ⟨i, j, r, w, rfl, rfl, h1, h2, q⟩ := rD_int h
  cases h1; cases h2; exact ⟨i, j, rfl, rfl, q⟩
theorem o_le : OpR X (compareOp .LtE) (rD X.K fLe) := OpR.weak op_le fun x y H Q h => by
  obtain ⟨i, j, r, w, rfl, rfl, h1, h2, q⟩ := rD_int h
  cases h1; cases h2; exact ⟨i, j, rfl, rfl, q⟩
theorem o_gt : OpR X (compareOp .Gt) (rD X.K fGt) := OpR.weak op_gt fun x y H Q h => by
  obtain ⟨i, j, r, w, rfl, rfl, h1, h2, q⟩ := rD_int h
  cases h1; cases h2; exact ⟨i, j, rfl, rfl, q⟩
theorem o_ge : OpR X (compareOp .GtE) (rD X.K fGe) := OpR.weak op_ge fun x y H Q h => by
  obtain ⟨i, j, r, w, rfl, rfl, h1, h2, q⟩ := rD_int h
  cases h1; cases h2; exact ⟨i, j, rfl, rfl, q⟩

/-! ### data compared -/
/-- a rule for data by what is read off the heap -/
theorem o_reads {f : Value → Value → Sem Value} {g : PyData → PyData → Option PyData} (rule : ∀ (s : Shared) (v u : Value) (d e : PyData) (as bs : List Addr) (b : Bool) (Q E : Value → Shared → Prop), Reads s.heap v d as → Reads s.heap u e bs → g d e = some (.bool b) → Q (.bool b) s → wpAny (model X.prog X.w) X.A (f v u) Q E s)
    (hb : ∀ d e r, g d e = some r → ∃ b, r = .bool b) : OpR X f (rD X.K g) := by
  intro pins s σ H x y v u Q I rx ry h; obtain ⟨d, e, r, w, h1, h2, h3, h4, q⟩ := h
  obtain ⟨b, rfl⟩ := hb d e r h3
  cases h4
  obtain ⟨as, r1⟩ := Dd.reads I d x v h1 rx
  obtain ⟨bs, r2⟩ := Dd.reads I e y u h2 ry
  exact rule s v u d e as bs b _ _ r1 r2 h3 ⟨.bl b, H, I, rfl, q⟩
def eqD (d e : PyData) : Option Bool :=
  if d.plain && e.plain && decide (min d.depth e.depth ≤ 100) then some (PyData.eqv d e)
  else match d, e with
    | .tuple xs, .tuple [] => some xs.isEmpty
    | _, _ => none
def fEq (d e : PyData) : Option PyData := (eqD d e).map .bool
def fNe (d e : PyData) : Option PyData := (eqD d e).map fun b => .bool (!b)
theorem rc_tup0 {A : Around} {s : Shared} {a b : Value} {xs : List PyData} {as bs : List Addr} (ra : Reads s.heap a (.tuple xs) as) (rb : Reads s.heap b (.tuple []) bs) (hu : A.units < cLine) : SeqAt.RcAt A s a b xs.isEmpty ∧ SeqAt.RcNeAt A s a b (!xs.isEmpty) := by
  cases ra with
  | @tuple l o vs n _ _ h1 h2 h3 h4 =>
    cases rb with
    | @tuple l' o' vs' n' _ _ k1 k2 k3 k4 =>
      have n1 : vs.size = xs.length := by simpa using SeqAt.ReadsAll.length _ _ _ h4
      have n2 : vs'.size = 0 := by simpa using SeqAt.ReadsAll.length _ _ _ k4
      have z := SeqAt.RcAt.tuples (A := A) (s := s) (e := fun _ => true) ⟨_, h1, h2, _, h3⟩ ⟨_, k1, k2, _, k3⟩ hu (fun j j1 j2 => by omega)
      have z2 := SeqAt.RcNeAt.tuples (A := A) (s := s) (e := fun _ => true) ⟨_, h1, h2, _, h3⟩ ⟨_, k1, k2, _, k3⟩ hu (fun j j1 j2 => by omega)
      have e : ((List.range (min vs.size vs'.size)).all (fun _ => true) && vs.size == vs'.size) = xs.isEmpty := by
        rw [n1, n2]
        cases xs <;> simp
      rw [e] at z z2
      exact ⟨z, z2⟩
theorem eqD_run {s : Shared} {v u : Value} {d e : PyData} {as bs : List Addr} {b : Bool} {Q E : Value → Shared → Prop} (hu : X.A.units + 200 < cLine) (r1 : Reads s.heap v d as) (r2 : Reads s.heap u e bs) (h : eqD d e = some b) (q : Q (.bool b) s) : wpAny (model X.prog X.w) X.A (compareOp .Eq v u) Q E s := by
  unfold eqD at h
  split at h
  · rename_i hc
    simp only [Bool.and_eq_true, decide_eq_true_eq] at hc; cases h
    exact SeqAt.eq_plain r1 r2 hc.1.1 hc.1.2 (by omega) q
  · split at h
    · cases h
      exact (rc_tup0 r1 r2 (by omega)).1 X.prog X.w E Q q
    · cases h
theorem neD_run {s : Shared} {v u : Value} {d e : PyData} {as bs : List Addr} {b : Bool} {Q E : Value → Shared → Prop} (hu : X.A.units + 200 < cLine) (r1 : Reads s.heap v d as) (r2 : Reads s.heap u e bs) (h : eqD d e = some b) (q : Q (.bool (!b)) s) : wpAny (model X.prog X.w) X.A (compareOp .NotEq v u) Q E s := by
  unfold eqD at h
  split at h
  · rename_i hc
    simp only [Bool.and_eq_true, decide_eq_true_eq] at hc; cases h
    exact SeqAt.ne_plain r1 r2 hc.1.1 hc.1.2 (by omega) q
  · split at h
    · cases h
      exact (rc_tup0 r1 r2 (by omega)).2 X.prog X.w E Q q
    · cases h
theorem o_eq (hu : X.A.units + 200 < cLine) : OpR X (compareOp .Eq) (rD X.K fEq) := o_reads (fun s v u d e as bs b Q E r1 r2 h q => by
  unfold fEq at h
  cases he : eqD d e with
  | none => rw [he] at h; cases h
  | some b' => rw [he] at h; cases h; exact eqD_run hu r1 r2 he q) fun d e r h => by
  unfold fEq at h
  cases he : eqD d e with
  | none => rw [he] at h; cases h
  | some b' => rw [he] at h; cases h; exact ⟨_, rfl⟩
theorem o_ne (hu : X.A.units + 200 < cLine) : OpR X (compareOp .NotEq) (rD X.K fNe) := o_reads (fun s v u d e as bs b Q E r1 r2 h q => by
  unfold fNe at h
  cases he : eqD d e with
  | none => rw [he] at h; cases h
  | some b' => rw [he] at h; cases h; exact neD_run hu r1 r2 he q) fun d e r h => by
  unfold fNe at h
  cases he : eqD d e with
  | none => rw [he] at h; cases h
  | some b' => rw [he] at h; cases h; exact ⟨_, rfl⟩
def isN (d : PyData) : Bool := match d with
  | .none => true
  | _ => false
/-- < of data whose places are alike -/
def fLtD (d e : PyData) : Option PyData := if W.alike d e && !isN d && decide (min d.depth e.depth ≤ 100) then some (.bool (W.dataLt d e)) else none
theorem o_ltD (hu : X.A.units + 200 < cLine) : OpR X (compareOp .Lt) (rD X.K fLtD) := o_reads (fun s v u d e as bs b Q E r1 r2 h q => by
  unfold fLtD at h
  split at h
  · rename_i hc
    simp only [Bool.and_eq_true, decide_eq_true_eq, Bool.not_eq_true'] at hc
    cases h
    exact W.rcLt_alike d e X.A s v u as bs r1 r2 hc.1.1 (fun z => by rw [z] at hc; cases hc.1.2) (by omega) X.prog X.w E Q q
  · cases h) fun d e r h => by
  unfold fLtD at h
  split at h
  · cases h; exact ⟨_, rfl⟩
  · cases h
/-- in, not in: lists and tuples -/
def inD (d c : PyData) : Option Bool := match asSeq c with
  | some xs => if d.plain && PyData.plainAll xs && decide (min (PyData.depthAll xs) d.depth ≤ 100) then some (xs.any fun z => PyData.eqv z d) else none
  | none => none
def fIn (d c : PyData) : Option PyData := (inD d c).map .bool
def fNotIn (d c : PyData) : Option PyData := (inD d c).map fun b => .bool (!b)
theorem o_in (hu : X.A.units + 200 < cLine) : OpR X (compareOp .In) (rD X.K fIn) := o_reads (fun s v u d e as bs b Q E r1 r2 h q => by
  unfold fIn inD at h
  cases e with
  | list xs =>
    simp only [asSeq] at h
    split at h
    · rename_i hc
      simp only [Bool.and_eq_true, decide_eq_true_eq] at hc; cases h
      exact SeqAt.in_list_data r2 r1 hc.1.2 hc.1.1 (by omega) q
    · cases h
  | tuple xs =>
    simp only [asSeq] at h
    split at h
    · rename_i hc
      simp only [Bool.and_eq_true, decide_eq_true_eq] at hc; cases h
      exact SeqAt.in_tuple_data r2 r1 hc.1.2 hc.1.1 (by omega) q
    · cases h
  | _ => cases h) fun d e r h => by
  unfold fIn at h
  cases he : inD d e with
  | none => rw [he] at h; cases h
  | some b' => rw [he] at h; cases h; exact ⟨_, rfl⟩
theorem o_notIn (hu : X.A.units + 200 < cLine) : OpR X (compareOp .NotIn) (rD X.K fNotIn) := o_reads (fun s v u d e as bs b Q E r1 r2 h q => by
  unfold fNotIn inD at h
  cases e with
  | list xs =>
    simp only [asSeq] at h
    split at h
    · rename_i hc
      simp only [Bool.and_eq_true, decide_eq_true_eq] at hc; cases h
      exact SeqAt.notIn_list_data r2 r1 hc.1.2 hc.1.1 (by omega) q
    · cases h
  | tuple xs =>
    simp only [asSeq] at h
    split at h
    · rename_i hc
      simp only [Bool.and_eq_true, decide_eq_true_eq] at hc; cases h
      exact SeqAt.notIn_tuple_data r2 r1 hc.1.2 hc.1.1 (by omega) q
    · cases h
  | _ => cases h) fun d e r h => by
  unfold fNotIn at h
  cases he : inD d e with
  | none => rw [he] at h; cases h
  | some b' => rw [he] at h; cases h; exact ⟨_, rfl⟩
/-- is None, is not None -/
def fIs (d e : PyData) : Option PyData := match e with
  | .none => some (.bool (isN d))
  | _ => none
def fIsNot (d e : PyData) : Option PyData := match e with
  | .none => some (.bool (!isN d))
  | _ => none
theorem isN_v {K : PySem.W.Frag} {H : Hp} {v : V} {d : PyData} (h : Dd K H v d) : decide (v = .non) = isN d := by
  cases h <;> first | rfl | (simp [isN])
theorem o_is : OpR X (compareOp .Is) (rD X.K fIs) := OpR.weak op_isN fun x y H Q h => by
  obtain ⟨d, e, r, w, h1, h2, h3, h4, q⟩ := h
  cases e with
  | none => cases h2; cases h3; cases h4; exact ⟨rfl, by rw [isN_v h1]; exact q⟩
  | _ => cases h3
theorem o_isNot : OpR X (compareOp .IsNot) (rD X.K fIsNot) := OpR.weak op_notN fun x y H Q h => by
  obtain ⟨d, e, r, w, h1, h2, h3, h4, q⟩ := h
  cases e with
  | none => cases h2; cases h3; cases h4; exact ⟨rfl, by rw [isN_v h1]; exact q⟩
  | _ => cases h3
end
end DL
/-! DL8: subscripts, slices, sums of sequences, built-ins, methods. -/
namespace DL
open PySem PySem.Spec L2
variable [TabT]

section
variable {X : Cx} {E : XK} {e a b : Expr} {es : List Expr} {pos p p2 apos : Pos}
variable {F : Hp} {rs : List Addr} {S : DS} {σ : L2.St} {H G : Hp}
/-! ### a list or a tuple at hand -/
theorem Md.seq {K : PySem.W.Frag} {wl : Wd} (m : Md K wl F rs S σ H G) {x : VD} {v : V} {d : PyData} {ds : List PyData} (r : RdV K wl rs G x v) (hp : peekS S x = some d) (hs : asSeq d = some ds) :
    ∃ a vs, v = .ref a ∧ DdAll K G vs ds ∧ ((d = .list ds ∧ Rd H a (.lst vs)) ∨ (d = .tuple ds ∧ TN.SqN H a vs ∧ Dd K G v (.tuple ds))) := by
  cases d with
  | list es =>
    cases hs
    obtain ⟨a, vs, e, h1, h2⟩ := m.peekL r hp
    exact ⟨a, vs, e, h2, .inl ⟨rfl, h1⟩⟩
  | tuple es =>
    cases hs
    obtain ⟨a, vs, e, h1, h2, h3⟩ := m.peekT r hp
    exact ⟨a, vs, e, h2, .inr ⟨rfl, h1, h3⟩⟩
  | _ => cases hs

/-! ### x[i] -/
def idxD (c i : PyData) : Option PyData := match asSeq c, i with
  | some ds, .int i => atI ds i
  | _, _ => none
def eIdx (ta tb : M VD) : M VD := do let x ← ta; let y ← tb; let c ← peek x; let i ← peek y; let r ← ofO (idxD c i); pure (.dat r)
theorem atI_dd {K : PySem.W.Frag} {vs : List V} {ds : List PyData} (h : DdAll K G vs ds) {i : Int} {d : PyData} (e : atI ds i = some d) : ∃ v, atI vs i = some v ∧ Dd K G v d := by
  unfold atI at e ⊢
  rw [DdAll.length h]
  cases e1 : ixN ds.length i with
  | none => rw [e1] at e; cases e
  | some j =>
    rw [e1] at e
    exact DdAll.get' h e
theorem d_idx {ta tb : M VD} (ha : PD X E a ta) (hb : PD X E b tb) (hs : PlainIx b := by exact fun _ _ => rfl) : PD X E (.Subscript a b pos) (eIdx ta tb) :=
  PE.weak (pe_ix (r := fun x y H Q => rIxL X.K x y H Q ∨ rIxT X.K x y H Q) (ix_list.or ix_tup) ha hb hs) fun σ H Q q => by
  obtain ⟨F, rs, S, G, m, p⟩ := q
  refine ⟨F, rs, S, G, m, (Post.seq p).mono fun v H1 ⟨rs1, S1, G1, x, u1, m1, r1, p1⟩ => ?_⟩
  refine ⟨F, rs1, S1, G1, m1, (Post.seq p1).mono fun w H2 ⟨rs2, S2, G2, y, u2, m2, r2, p2⟩ => ?_⟩
  obtain ⟨d, hd, p3⟩ := Post.peek p2
  obtain ⟨i, hi, p4⟩ := Post.peek p3
  obtain ⟨r, hr, p5⟩ := Post.ofO p4
  unfold idxD at hr
  cases hq : asSeq d with
  | none => rw [hq] at hr; cases hr
  | some ds =>
    rw [hq] at hr
    cases i with
    | int i =>
      dsimp only at hr
      obtain ⟨a, vs, rfl, hda, hk⟩ := m2.seq (RdV.up u2 r1) hd hq
      obtain ⟨z, hz, rz⟩ := atI_dd hda hr
      have ey : w = .int i := by
        have := m2.peek r2 hi
        cases this
        rfl
      rcases hk with ⟨_, hk⟩ | ⟨_, hk, _⟩
      · exact .inl ⟨a, vs, i, z, rfl, ey, .inl hk, hz, Post.ret m2 p5 rz⟩
      · exact .inr ⟨a, vs, i, z, rfl, ey, hk.sqt, hz, Post.ret m2 p5 rz⟩
    | _ => cases hr

/-! ### slices -/
abbrev liftO (K : PySem.W.Frag) (wl : Wd) (mg : Str → Option Value) (E : XK) (t : M (Option Int)) : TO := lift K wl mg E (fun _ _ (a b : Option Int) => a = b) t
abbrev PDO (X : Cx) (E : XK) (o : Option Expr) (t : M (Option Int)) : Prop := PO X o (liftO X.K X.wd X.mg E t)
theorem PO.weak {o : Option Expr} {t t' : TO} (h : PO X o t) (k : ∀ σ H Q, t' σ H Q → t σ H Q) : PO X o t' := ⟨fun pins s σ H Q I q => h.run pins s σ H Q I (k _ _ _ q)⟩
def oNone : M (Option Int) := pure none
def oSome (t : M VD) : M (Option Int) := do
  let x ← t
  match x with
  | .dat (.int i) => pure (some i)
  | _ => M.bad
theorem p_none : PDO X E none oNone := PO.weak po_none fun σ H Q q => by
  obtain ⟨F, rs, S, G, m, p⟩ := q
  exact Post.ret m p rfl
theorem p_some {t : M VD} (h : PD X E e t) : PDO X E (some e) (oSome t) := PO.weak (po_some h) fun σ H Q q => by
  obtain ⟨F, rs, S, G, m, p⟩ := q
  refine ⟨F, rs, S, G, m, (Post.seq p).mono fun v H1 ⟨rs1, S1, G1, x, u1, m1, r1, p1⟩ => ?_⟩
  cases x with
  | rf j => exact p1.elim
  | bag _ => exact p1.elim
  | st _ => exact p1.elim
  | ex _ => exact p1.elim
  | exs _ => exact p1.elim
  | oth _ => exact p1.elim
  | dat d =>
    cases d with
    | int i =>
      cases (show Dd X.K G1 v (.int i) from r1)
      exact ⟨i, rfl, Post.ret m1 p1 rfl⟩
    | _ => exact p1.elim
def cutD (xs : List PyData) (lo hi : Option Int) : List PyData := (xs.drop (HT.sIx xs.length 0 lo)).take (HT.sIx xs.length xs.length hi - HT.sIx xs.length 0 lo)
theorem cut_dd {K : PySem.W.Frag} {vs : List V} {ds : List PyData} (h : DdAll K G vs ds) (lo hi : Option Int) : DdAll K G (cutV vs lo hi) (cutD ds lo hi) := by
  unfold cutV cutD
  rw [DdAll.length h]
  exact DdAll.take _ (DdAll.drop _ h)
def mkSeq (c : PyData) (ds : List PyData) : M VD := match c with
  | .list _ => newL ds
  | .tuple _ => pure (.dat (.tuple ds))
  | _ => M.bad
def slV (x : VD) (lo hi : Option Int) : M VD := match x with
  | .bag ds => newL (cutD ds lo hi)
  | x => do let c ← peek x; let ds ← ofO (asSeq c); mkSeq c (cutD ds lo hi)
def eSl (ta : M VD) (tl th : M (Option Int)) : M VD := do let x ← ta; let lo ← tl; let hi ← th; slV x lo hi
theorem cut_whole {K : PySem.W.Frag} {vs : List V} {ds : List PyData} (h : DdAll K G vs ds) {lo hi : Option Int} (hw : HT.sIx vs.length 0 lo = 0 ∧ HT.sIx vs.length vs.length hi = vs.length) : cutD ds lo hi = ds := by
  unfold cutD
  rw [← DdAll.length h, hw.1, hw.2]
  simp [DdAll.length h]
theorem d_sl {ta : M VD} {tl th : M (Option Int)} {lo hi : Option Expr} (ha : PD X E a ta) (hl : PDO X E lo tl) (hh : PDO X E hi th) : PD X E (.Subscript a (.Slice lo hi none p2) pos) (eSl ta tl th) :=
  PE.weak (pe_slice (SlR.or sl_list TN.sl_tupN) ha hl hh) fun σ H Q q => by
  obtain ⟨F, rs, S, G, m, p⟩ := q
  refine ⟨F, rs, S, G, m, (Post.seq p).mono fun v H1 ⟨rs1, S1, G1, x, u1, m1, r1, p1⟩ => ?_⟩
  refine ⟨F, rs1, S1, G1, m1, (Post.seq p1).mono fun l H2 ⟨rs2, S2, G2, l', u2, m2, e2, p2⟩ => ?_⟩
  subst e2
  refine ⟨F, rs2, S2, G2, m2, (Post.seq p2).mono fun h H3 ⟨rs3, S3, G3, h', u3, m3, e3, p3⟩ => ?_⟩
  subst e3
  have r3 := RdV.up (u2.trans u3) r1
  unfold slV at p3
  cases x with
  | bag ds =>
    obtain ⟨a, vs, rfl, h1, h2⟩ := r3
    exact .inl ⟨a, vs, rfl, L2.Same.seq m3.sub h1, fun q hq => newLst m3 (cut_dd h2 _ _) p3 hq⟩
  | _ =>
  all_goals dsimp only at p3
  all_goals obtain ⟨d, hd, p4⟩ := Post.peek p3
  all_goals obtain ⟨ds, hs, p5⟩ := Post.ofO p4
  all_goals obtain ⟨a, vs, rfl, hda, hk⟩ := m3.seq r3 hd hs
  all_goals rcases hk with ⟨rfl, hk⟩ | ⟨rfl, hk, hw⟩
  all_goals first
    | exact .inl ⟨a, vs, rfl, .inl hk, fun q hq => newLst m3 (cut_dd hda _ _) p5 hq⟩
    | exact .inr ⟨a, vs, rfl, hk, fun hwh => Post.ret m3 p5 (show Dd X.K G3 (.ref a) (.tuple (cutD ds l' h')) from (cut_whole hda hwh).symm ▸ hw), fun _ q its hq => newTup m3 (cut_dd hda _ _) p5 hq⟩
/-- x[::-1] -/
theorem places_rev (n : Nat) : Builtin.Slice.slicePlaces ((n : Int) - 1) (-1) (-1) = n := by
  unfold Builtin.Slice.slicePlaces; simp only [show ¬ ((-1 : Int) > 0) by omega, if_false, show - (-1 : Int) = 1 by omega, Int.ediv_one]
  split <;> omega
theorem pick_rev (xs : Array Value) : ((List.range xs.size).filterMap fun (m : Nat) => xs[(((xs.size : Int) - 1) + (m : Int) * (-1)).toNat]?).toArray = xs.toList.reverse.toArray := by
  congr 1
  apply List.ext_getElem?
  intro k
  have e : ∀ (l : List Nat), (∀ m ∈ l, m < xs.size) → (l.filterMap fun (m : Nat) => xs[(((xs.size : Int) - 1) + (m : Int) * (-1)).toNat]?) = l.map fun m => xs.toList.reverse.getD m .none := by
    intro l
    induction l with
    | nil => intro _; rfl
    | cons m l ih =>
      intro hl
      have hm : m < xs.size := hl m (by simp)
      have e1 : (((xs.size : Int) - 1) + (m : Int) * (-1)).toNat = xs.size - 1 - m := by omega
      have e2 : xs[xs.size - 1 - m]? = some (xs.toList.reverse.getD m .none) := by
        rw [List.getD_eq_getElem?_getD, List.getElem?_reverse (by simpa using hm), Array.getElem?_eq_getElem (by omega)]
        simp only [Array.length_toList, Array.getElem?_toList]
        rw [Array.getElem?_eq_getElem (by omega)]
        rfl
      rw [List.filterMap_cons]
      simp only [e1, e2, List.map_cons]
      rw [← ih (fun m hm => hl m (List.mem_cons_of_mem _ hm))]
  rw [e _ (fun m hm => List.mem_range.mp hm)]
  rw [List.getElem?_map]
  by_cases hk : k < xs.size
  · rw [List.getElem?_range hk]
    simp only [Option.map_some, List.getD_eq_getElem?_getD]
    rw [List.getElem?_eq_getElem (by simpa using hk)]
    simp
  · rw [List.getElem?_eq_none (by simpa using hk), List.getElem?_eq_none (by simpa using hk)]
    rfl
open PyProof.Rows HT in
theorem getItem_tuple_rev {prog : Program} {w : World} {A : Around} {E : Value → Shared → Prop} {s : Shared} {t sl : Addr} {items : Array Value} {vl vu vs : Value} {Q : Value → Shared → Prop} (ht : IsTup s.heap t items) (hs : s.heap.IsSliceOf sl vl vu vs) (pl : IsPart vl none) (pu : IsPart vu none) (ps : IsPart vs (some (-1)))
    (h : Q (.ref s.heap.objs.size) { s with heap := s.heap.push { cls := .type "tuple", data := .seq items.toList.reverse.toArray } }) (hsz : items.size ≤ sizeLine) : wpAny (model prog w) A (getItem (.ref t) (.ref sl)) Q E s := by
  have htake : sizeOk (.seq items.toList.reverse.toArray) := by
    show items.toList.reverse.toArray.size ≤ sizeLine
    rw [List.size_toArray, List.length_reverse, Array.length_toList]
    exact hsz
  obtain ⟨os, hos, hcs, hds⟩ := id hs; have hTs : s.TypeIs (.ref sl) "slice" := ⟨os, hos, hcs⟩
  unfold getItem
  (try with_reducible refine wpAny_holding ?_); (first | refine wpAny_bind (wpAny_pure ?_) | skip)
  refine wpAny_bind (wpAny_sequenceKey ht.typeIs (by decide) ?_); refine wpAny_bind (wpAny_callSpecial?_slot (name := Str.ofString "__getitem__") ht.typeIs PyProof.Rows.slot_tuple_getitem
    (wpAny_call_entry PyProof.Rows.slot_tuple_getitem ht.typeIs PyProof.Rows.entry_tuple_getitem ?_ (PyProof.Rows.args_tuple_getitem _ _)))
  show wpAny _ _ (Builtin.Tuple.tupleItemsOf (.ref t) >>= _) _ _ s; refine wpAny_bind (PyProof.Rows.tupleItemsOf_ ht ?_); refine wpAny_bind (wpAny_typeOf hTs ?_)
  rw [if_pos (by decide)]
  have hsl : ∀ {Q : Int × Int × Nat → Shared → Prop}, Q (((items.size : Int) - 1), -1, items.size) s → wpAny (model prog w) A.in1 (Builtin.Slice.sliceApplied (.ref sl) (pure (items.size : Int))) Q E s := fun {Q} h => by
    unfold Builtin.Slice.sliceApplied Builtin.Slice.sliceFields; refine wpAny_bind (wpAny_bind (wpAny_field hos hds (x := vl) rfl (wpAny_bind (wpAny_field hos hds (x := vu) rfl (wpAny_bind (wpAny_field hos hds (x := vs) rfl (wpAny_pure ?_)))))))
    refine wpAny_bind (slicePart_ ps ?_)
    show wpAny _ _ (if ((-1 : Int) == 0) = true then _ else _) _ _ s
    rw [if_neg (by decide)]; refine wpAny_bind (slicePart_ pl (wpAny_bind (slicePart_ pu (wpAny_bind (wpAny_pure ?_)))))
    show wpAny _ _ (pure (((items.size : Int) - 1), (-1 : Int), Builtin.Slice.slicePlaces ((items.size : Int) - 1) (-1) (-1))) _ _ s
    rw [places_rev]
    exact wpAny_pure h
  refine wpAny_bind (hsl ?_)
  show wpAny _ _ (if (((items.size : Int) - 1) == 0 && (-1 : Int) == 1 && items.size == items.size) = true then _ else _) _ _ s
  rw [if_neg (by simp), pick_rev]
  first | exact wpAny_bind (m := Builtin.Tuple.tupleExact _) (wpAny_newObj_type (wpAny_pure ⟨_, rfl, wpAny_pure h⟩) htake) | exact wpAny_bind (m := Builtin.Tuple.tupleExact _) (wpAny_newObj_type (wpAny_bind (wpAny_pure (wpAny_pure ⟨_, rfl, wpAny_pure h⟩))) htake) | exact wpAny_bind (wpAny_bind (m := Builtin.Tuple.tupleExact _) (wpAny_newObj_type (wpAny_pure (wpAny_pure ⟨_, rfl, wpAny_pure h⟩)) htake)) | exact wpAny_bind (wpAny_bind (m := Builtin.Tuple.tupleExact _) (wpAny_newObj_type (wpAny_pure ⟨_, rfl, wpAny_pure h⟩) htake))
end
end DL
/-! DL9: more of sequences; built-ins; methods. -/
namespace DL
open PySem PySem.Spec L2
variable [TabT]

section
variable {X : Cx} {E : XK} {e a b : Expr} {es : List Expr} {pos p p1 p2 p3 apos : Pos}
variable {F : Hp} {rs : List Addr} {S : DS} {σ : L2.St} {H G : Hp}
/-! ### x[::-1] -/
def tRevA (K : PySem.W.Frag) (te : TE) : TE := fun σ H Q => te σ H fun x H1 => ∃ a xs, x = .ref a ∧ ((SqL K H1 a xs ∧ ∀ p, H1 p = none → Q (.ref p) (upd H1 p (.lst xs.reverse))) ∨ (TN.SqN H1 a xs ∧ ∀ p its, H1 p = none → Q (.ref p) (upd H1 p (TN.hT its xs.reverse))))
open PyProof.Rows in
theorem pe_revA {te : TE} {k : Nat} (he : PE X e te) : PE X (.Subscript e (.Slice none none (some (.UnaryOp .USub (.Constant (.int 1) k p1) p2)) p3) pos) (tRevA X.K te) := by
  refine ⟨fun pins s σ H Q I h => ?_⟩; refine Subscript_ (thn (he.run pins s σ H _ I h) fun v s1 ⟨x, H1, I1, r1, q1⟩ => ?_)
  obtain ⟨a, xs, ex, hq⟩ := q1
  subst ex
  cases r1
  have hst : PO X (some (.UnaryOp .USub (.Constant (.int 1) k p1) p2)) (tPart (tUn (rU fun i => .int (-i)) (tC (.int 1)))) := po_some (pe_un un_neg pe_int); refine wpAny_Slice (thn (po_none.run pins s1 σ H1 (fun o H2 => o = none ∧ H2 = H1) I1 ⟨rfl, rfl⟩) fun vl s2 ⟨l, H2, I2, pl, el, e2⟩ => ?_)
  subst el e2; refine thn (po_none.run pins s2 σ H2 (fun o H3 => o = none ∧ H3 = H2) I2 ⟨rfl, rfl⟩) fun vu s3 ⟨u, H3, I3, pu, eu, e3⟩ => ?_
  subst eu e3; refine thn (hst.run pins s3 σ H3 (fun o H4 => o = some (-1) ∧ H4 = H3) I3 ⟨1, rfl, -1, rfl, rfl, rfl⟩) fun vs s4 ⟨o, H4, I4, ps, eo, e4⟩ => ?_
  subst eo e4; have I5 : Inv X pins σ H4 { s4 with heap := s4.heap.push { cls := .type "slice", data := .fields #[vl, vu, vs] } } := I4.kept (t' := s4.toks) fun b ob q => Heap.get?_push_of_some _ q; show wpAny (model X.prog X.w) X.A (subscriptTail e (.Slice none none (some (.UnaryOp .USub (.Constant (.int 1) k p1) p2)) p3) (.ref a) (.ref s4.heap.objs.size)) (EP X pins σ Q) X.xe { s4 with heap := s4.heap.push { cls := .type "slice", data := .fields #[vl, vu, vs] } }
  rcases hq with ⟨hx, q⟩ | ⟨hx, q⟩
  · obtain ⟨its, r, ht, hz⟩ := I5.list hx
    have hlen := r.length; refine tail_any (ops := [.ref a, .ref s4.heap.objs.size]) ht.isList.typeIs (PySem.slot_list_getitem.lookup) ?_ (by with_unfolding_all rfl); refine wpAny_getItem_list_slice ht.isList (Heap.IsSliceOf.new _ vl vu vs) pl pu ps (by decide) ?_ (by rw [List.size_toArray]; omega)
    rw [PySem.W.krv_pick]; refine ⟨.ref _, _, I5.laid (t' := s4.toks) (o := .lst xs.reverse) (fun b ob q => Heap.get?_push_of_some _ q) (Nat.le_refl _) ?_, rfl, q _ (I5.hok.fresh (Nat.le_refl _))⟩; exact ⟨by rw [List.length_reverse]; exact hz, _, 0, r.reverse, Heap.get?_push_size _ rfl⟩
  · obtain ⟨its, r, ht, hz⟩ := I5.tuple (hx.sqt (K := X.K))
    have hlen := r.length
    refine tail_any (ops := [.ref a, .ref s4.heap.objs.size]) ht.typeIs PyProof.Rows.slot_tuple_getitem.lookup ?_ (by with_unfolding_all rfl)
    refine getItem_tuple_rev ht (Heap.IsSliceOf.new _ vl vu vs) pl pu ps ?_ (by rw [List.size_toArray]; omega)
    exact ⟨.ref _, _, TN.newN I5 r.reverse (by rw [List.length_reverse]; exact hz), rfl, q _ _ (I5.hok.fresh (Nat.le_refl _))⟩
def eRev (ta : M VD) : M VD := do let x ← ta; let c ← peek x; let ds ← ofO (asSeq c); mkSeq c ds.reverse
theorem d_rev {ta : M VD} {k : Nat} (ha : PD X E e ta) : PD X E (.Subscript e (.Slice none none (some (.UnaryOp .USub (.Constant (.int 1) k p1) p2)) p3) pos) (eRev ta) := PE.weak (pe_revA ha) fun σ H Q q => by
  obtain ⟨F, rs, S, G, m, p⟩ := q
  refine ⟨F, rs, S, G, m, (Post.seq p).mono fun v H1 ⟨rs1, S1, G1, x, u1, m1, r1, p1⟩ => ?_⟩
  obtain ⟨d, hd, p4⟩ := Post.peek p1
  obtain ⟨ds, hs, p5⟩ := Post.ofO p4
  obtain ⟨a, vs, rfl, hda, hk⟩ := m1.seq r1 hd hs
  rcases hk with ⟨rfl, hk⟩ | ⟨rfl, hk, hw⟩
  · exact ⟨a, vs, rfl, .inl ⟨.inl hk, fun q hq => newLst m1 (DdAll.reverse hda) p5 hq⟩⟩
  · exact ⟨a, vs, rfl, .inr ⟨hk, fun q its hq => newTup m1 (DdAll.reverse hda) p5 hq⟩⟩

/-! ### x + y, whatever they are -/
def rCatL : R2 := fun x y H Q => ∃ l b xs zs, x = .ref l ∧ y = .ref b ∧ Rd H l (.lst xs) ∧ Rd H b (.lst zs) ∧ xs.length + zs.length ≤ sizeLine ∧ ∀ p, H p = none → Q (.ref p) (upd H p (.lst (xs ++ zs)))
theorem op_catL : OpR X (binaryOp .Add) rCatL := by
  intro pins s σ H x y v u Q I rx ry h; obtain ⟨l, b, xs, zs, rfl, rfl, hH, hB, hz, q⟩ := h
  cases rx
  cases ry
  obtain ⟨_, its, n, r, e⟩ := hH.ok I.hok
  obtain ⟨_, its2, n2, r2, e2⟩ := hB.ok I.hok
  have e1 := r.length
  have e3 := r2.length; refine PySem.P.add_list e e2 ?_ (by rw [List.size_toArray, List.size_toArray]; omega); have ea : its.toArray ++ its2.toArray = (its ++ its2).toArray := by simp
  rw [ea]; exact ⟨.ref _, _, I.lnew (t' := s.toks) (r.append r2) (by rw [List.length_append]; omega), rfl, q _ I.fresh⟩
def addD (d e : PyData) : M VD := match d, e with
  | .int i, .int j => pure (.dat (.int (i + j)))
  | .list xs, .list ys => do chk (decide (xs.length + ys.length ≤ 16777216)); newL (xs ++ ys)
  | .tuple xs, .tuple ys => do chk (decide (xs.length + ys.length ≤ 16777216)); pure (.dat (.tuple (xs ++ ys)))
  | _, _ => M.bad
def eAdd (ta tb : M VD) : M VD := do let x ← ta; let y ← tb; let d ← peek x; let e ← peek y; addD d e
theorem d_add {ta tb : M VD} (ha : PD X E a ta) (hb : PD X E b tb) : PD X E (.BinOp a .Add b pos) (eAdd ta tb) :=
  PE.weak (pe_op (OpR.or op_add (OpR.or op_catL TN.op_catN)) ha hb) fun σ H Q q => by
  obtain ⟨F, rs, S, G, m, p⟩ := q
  refine ⟨F, rs, S, G, m, (Post.seq p).mono fun v H1 ⟨rs1, S1, G1, x, u1, m1, r1, p1⟩ => ?_⟩
  refine ⟨F, rs1, S1, G1, m1, (Post.seq p1).mono fun w H2 ⟨rs2, S2, G2, y, u2, m2, r2, p2⟩ => ?_⟩
  obtain ⟨d, hd, p3⟩ := Post.peek p2
  obtain ⟨e, he, p4⟩ := Post.peek p3
  have hx := m2.peek (RdV.up u2 r1) hd
  have hy := m2.peek r2 he
  unfold addD at p4
  split at p4
  · cases hx
    cases hy
    exact .inl ⟨_, _, rfl, rfl, Post.ret m2 p4 (.int _)⟩
  · rename_i xs ys
    obtain ⟨hc, p5⟩ := Post.chk p4
    have hc' := of_decide_eq_true hc
    obtain ⟨l, vs, rfl, h1, h2⟩ := m2.peekL (RdV.up u2 r1) hd
    obtain ⟨l', vs', rfl, h3, h4⟩ := m2.peekL r2 he
    refine .inr (.inl ⟨l, l', vs, vs', rfl, rfl, h1, h3, ?_, fun q hq => newLst m2 (DdAll.append h2 h4) p5 hq⟩)
    rw [DdAll.length h2, DdAll.length h4, sizeLine_eq]
    exact hc'
  · rename_i xs ys
    obtain ⟨hc, p5⟩ := Post.chk p4
    have hc' := of_decide_eq_true hc
    obtain ⟨l, vs, rfl, h1, h2, w1⟩ := m2.peekT (RdV.up u2 r1) hd
    obtain ⟨l', vs', rfl, h3, h4, w2⟩ := m2.peekT r2 he
    refine .inr (.inr ⟨l, l', vs, vs', rfl, rfl, h1, h3, ?_, fun e0 => ?_, fun _ e0 => ?_, fun _ _ q its hq => newTup m2 (DdAll.append h2 h4) p5 hq⟩)
    · rw [DdAll.length h2, DdAll.length h4, sizeLine_eq]
      exact hc'
    · subst e0
      cases h2
      exact Post.ret m2 p5 w2
    · subst e0
      cases h4
      refine Post.ret m2 p5 ?_
      show Dd X.K G2 (.ref l) (.tuple (xs ++ []))
      rw [List.append_nil]
      exact w1
  · exact p4.elim

/-! ### -x -/
def eNeg (ta : M VD) : M VD := do
  let x ← ta
  match x with
  | .dat (.int i) => pure (.dat (.int (-i)))
  | _ => M.bad
theorem d_neg {ta : M VD} (ha : PD X E a ta) : PD X E (.UnaryOp .USub a pos) (eNeg ta) := PE.weak (pe_un un_neg ha) fun σ H Q q => by
  obtain ⟨F, rs, S, G, m, p⟩ := q
  refine ⟨F, rs, S, G, m, (Post.seq p).mono fun v H1 ⟨rs1, S1, G1, x, u1, m1, r1, p1⟩ => ?_⟩
  cases x with
  | rf j => exact p1.elim
  | bag _ => exact p1.elim
  | st _ => exact p1.elim
  | ex _ => exact p1.elim
  | exs _ => exact p1.elim
  | oth _ => exact p1.elim
  | dat d =>
    cases d with
    | int i =>
      cases (show Dd X.K G1 v (.int i) from r1)
      exact ⟨i, rfl, Post.ret m1 p1 (.int _)⟩
    | _ => exact p1.elim

/-! ### built-ins of one value -/
/-- a built-in of one value whose answer is a scalar by the data -/
def eFn (f : PyData → Option PyData) (ta : M VD) : M VD := do let x ← ta; let d ← peek x; let r ← ofO (f d); scal r
def rFn (K : PySem.W.Frag) (f : PyData → Option PyData) : List V → Hp → VK → Prop := fun xs H Q => ∃ x d r w, xs = [x] ∧ Dd K H x d ∧ f d = some r ∧ scalV r = some w ∧ Q w H
theorem fnD {f : PyData → Option PyData} {ta : M VD} {σ : L2.St} {H : Hp} {Q : VK} (q : liftE X.K X.wd X.mg E (eFn f ta) σ H Q) : tCB (rFn X.K f) (tCons (liftE X.K X.wd X.mg E ta) tNil) σ H Q := by
  obtain ⟨F, rs, S, G, m, p⟩ := q
  refine ⟨F, rs, S, G, m, (Post.seq p).mono fun v H1 ⟨rs1, S1, G1, x, u1, m1, r1, p1⟩ => ?_⟩
  obtain ⟨d, hd, p2⟩ := Post.peek p1
  obtain ⟨r, hr, p3⟩ := Post.ofO p2
  obtain ⟨w, hw, p4⟩ := Post.scal m1 p3
  exact ⟨v, d, r, w, rfl, m1.peek r1 hd, hr, hw, p4⟩
theorem d_fnB {x : Str} {id : String} {f : PyData → Option PyData} {ta : M VD} (hc : CallR X (.builtin id) (rFn X.K f)) (ha : PD X E a ta) (hg : Gl X x) (hm : X.mg x = none) (hv : bootBuiltins x = some (.builtin id)) (hn : x ≠ "__name__") (hd : (x == ("__debug__" : Str)) = false) (na : starEach [a] X.env = (false, eval a X.env) :: starEach [] X.env := by rfl) :
    PD X E (.Call (.Name x p) [a] [] pos) (eFn f ta) := PE.weak (pe_callB hc hg hm hv (pa_cons ha pa_nil na) (hn := hn) (hdb := hd) (he := na)) fun σ H Q q => fnD q
end
end DL
/-! DL10: built-ins. -/
namespace DL
open PySem PySem.Spec L2
variable [TabT]

section
variable {X : Cx} {E : XK} {e a b : Expr} {es : List Expr} {pos p p1 p2 p3 apos : Pos} {x : Str}
variable {F : Hp} {rs : List Addr} {S : DS} {σ : L2.St} {H G : Hp}
theorem CallR.weak {f : Value} {r r' : List V → Hp → VK → Prop} (h : CallR X f r) (k : ∀ xs H Q, r' xs H Q → r xs H Q) : CallR X f r' := fun pins s σ H xs us Q I rv q => h pins s σ H xs us Q I rv (k _ _ _ q)
/-! ### len -/
def lenD (d : PyData) : Option PyData := match d with
  | .str z => if z.length ≤ 16777216 then some (.int z.length) else none
  | d => (asSeq d).map fun ds => .int ds.length
theorem c_len : CallR X (.builtin "len") (rFn X.K lenD) := CallR.weak (CallR.or call_len_seq call_len_str) fun xs H Q h => by
  obtain ⟨v, d, r, w, rfl, hd, hr, hw, q⟩ := h
  cases d with
  | list ds =>
    cases hr; cases hw
    cases hd with
    | @lst a vs _ h1 h2 => exact .inl ⟨a, vs, rfl, .inl (.inl h1), by rw [DdAll.length h2]; exact q⟩
  | tuple ds =>
    cases hr; cases hw
    cases hd with
    | @tup a vs _ h1 h2 => exact .inl ⟨a, vs, rfl, .inr h1.sqt, by rw [DdAll.length h2]; exact q⟩
  | str z =>
    unfold lenD at hr
    dsimp only at hr
    split at hr
    · rename_i hz
      cases hr; cases hw
      cases hd
      exact .inr ⟨z, rfl, by rw [sizeLine_eq]; exact hz, q⟩
    · cases hr
  | _ => cases hr
theorem d_len {ta : M VD} (ha : PD X E a ta) (hg : Gl X "len" := by rfl) (hm : X.mg "len" = none) (na : starEach [a] X.env = (false, eval a X.env) :: starEach [] X.env := by rfl) : PD X E (.Call (.Name "len" p) [a] [] pos) (eFn lenD ta) :=
  d_fnB c_len ha hg hm PySem.boot_len (by decide) (by decide) na

/-! ### isinstance, type(x) is -/
def isT : String → PyData → Option Bool
  | "int", d => some d.isInt
  | "bool", d => some d.isBool
  | "tuple", d => some d.isTuple
  | "list", d => some d.isList
  | "str", d => some d.isStr
  | _, _ => none
def rIsT (K : PySem.W.Frag) (T : String) : List V → Hp → VK → Prop := fun xs H Q => ∃ x d b, xs = [x, .ty T] ∧ Dd K H x d ∧ isT T d = some b ∧ Q (.bl b) H
theorem c_isi (T : String) : CallR X (.builtin "isinstance") (rIsT X.K T) := by
  intro pins s σ H xs us Q I r h; obtain ⟨x, d, b, rfl, hd, hb, q⟩ := h; obtain ⟨u, w', rfl, ru, rw'⟩ := vals2 r
  cases (show w' = Value.type T from rw')
  obtain ⟨as, rd⟩ := Dd.reads I d x u hd ru
  unfold isT at hb
  split at hb
  · cases hb; exact W.isinstance_int_data rd fun tk _ => ⟨.bl _, H, I.tok tk, rfl, q⟩
  · cases hb; exact W.isinstance_bool_data rd fun tk _ => ⟨.bl _, H, I.tok tk, rfl, q⟩
  · cases hb; exact W.isinstance_tuple_data rd fun tk _ => ⟨.bl _, H, I.tok tk, rfl, q⟩
  · cases hb; exact W.isinstance_list_data rd fun tk _ => ⟨.bl _, H, I.tok tk, rfl, q⟩
  · cases hb; exact W.isinstance_str_data rd fun tk _ => ⟨.bl _, H, I.tok tk, rfl, q⟩
  · cases hb
def eIsi (T : String) (ta : M VD) : M VD := do let x ← ta; let d ← peek x; let b ← ofO (isT T d); pure (.dat (.bool b))
theorem d_isi {T : String} {t : Expr} {ta : M VD} (ha : PD X E a ta) (ht : PE X t (tC (.ty T))) (hm : X.mg "isinstance" = none) (hg : Gl X "isinstance" := by rfl)
    (hs : starEach [a, t] X.env = (false, eval a X.env) :: starEach [t] X.env := by rfl) (hs2 : starEach [t] X.env = (false, eval t X.env) :: starEach [] X.env := by rfl) (hpl : (backTo pos (starEach [t] X.env)).any (·.1) = false := by rfl) :
    PD X E (.Call (.Name "isinstance" p) [a, t] [] pos) (eIsi T ta) := PE.weak (pe_callB (c_isi T) hg hm (by decide +kernel) (pa_cons ha (pa_cons ht pa_nil hs2) hs) (he := hs) (hpl := hpl)) fun σ H Q q => by
  obtain ⟨F, rs, S, G, m, p⟩ := q
  refine ⟨F, rs, S, G, m, (Post.seq p).mono fun v H1 ⟨rs1, S1, G1, x, u1, m1, r1, p1⟩ => ?_⟩
  obtain ⟨d, hd, p2⟩ := Post.peek p1
  obtain ⟨b, hb, p3⟩ := Post.ofO p2
  exact ⟨v, d, b, rfl, m1.peek r1 hd, hb, Post.ret m1 p3 (.bl b)⟩
def tyName : PyData → String
  | .none => "NoneType"
  | .bool _ => "bool"
  | .int _ => "int"
  | .str _ => "str"
  | .list _ => "list"
  | .tuple _ => "tuple"
  | .dict _ => "dict"
def kTy (K : PySem.W.Frag) (x : V) (H : Hp) (Q : VK) : Prop := ∃ d, Dd K H x d ∧ Q (.ty (tyName d)) H
theorem reads_type {s : Shared} {v : Value} {d : PyData} {as : List Addr} (r : Reads s.heap v d as) : s.TypeIs v (tyName d) := by
  cases r with
  | none => rfl
  | bool => rfl
  | int => rfl
  | str => rfl
  | list h1 h2 h3 h4 => exact ⟨_, h1, h2⟩
  | tuple h1 h2 h3 h4 => exact ⟨_, h1, h2⟩
  | dict h1 h2 h3 h4 h5 => exact ⟨_, h1, h2⟩
theorem c_type : CallR X (.type "type") (fun xs H Q => ∃ x d, xs = [x] ∧ Dd X.K H x d ∧ Q (.ty (tyName d)) H) := by
  intro pins s σ H xs us Q I r h; obtain ⟨x, d, rfl, hd, q⟩ := h; obtain ⟨u, rfl, ru⟩ := vals1 r
  obtain ⟨as, rd⟩ := Dd.reads I d x u hd ru
  have ht := reads_type rd
  have fin : EP X pins σ Q (.type (tyName d)) s := ⟨.ty _, H, I, rfl, q⟩
  cases d with
  | none => exact call_type_of (Tx := "NoneType") ht (by decide +kernel) fin
  | bool _ => exact call_type_of (Tx := "bool") ht (by decide +kernel) fin
  | int _ => exact call_type_of (Tx := "int") ht (by decide +kernel) fin
  | str _ => exact call_type_of (Tx := "str") ht (by decide +kernel) fin
  | list _ => exact call_type_of (Tx := "list") ht (by decide +kernel) fin
  | tuple _ => exact call_type_of (Tx := "tuple") ht (by decide +kernel) fin
  | dict _ => exact call_type_of (Tx := "dict") ht (by decide +kernel) fin
def eTyIs (T : String) (ta : M VD) : M VD := do let x ← ta; let d ← peek x; pure (.dat (.bool (decide (tyName d = T))))
theorem d_tyIs {T : String} {t : Expr} {ta : M VD} (ha : PD X E a ta) (ht : PE X t (tC (.ty T))) (hm : X.mg "type" = none) (hg : Gl X "type" := by rfl) (na : starEach [a] X.env = (false, eval a X.env) :: starEach [] X.env := by rfl) (hpl : (backTo p1 (starEach [] X.env)).any (·.1) = false := by rfl) (hb : behindInMarks .Is t = false := by rfl) :
    PD X E (.Compare (.Call (.Name "type" p) [a] [] p1) [.Is] [t] pos) (eTyIs T ta) := PE.weak (pe_cmpR op_isTy (pe_callTy c_type hg hm (by decide +kernel) (pa_cons ha pa_nil na) (he := na) (hpl := hpl)) ht hb) fun σ H Q q => by
  obtain ⟨F, rs, S, G, m, p⟩ := q
  refine ⟨F, rs, S, G, m, (Post.seq p).mono fun v H1 ⟨rs1, S1, G1, x, u1, m1, r1, p1⟩ => ?_⟩
  obtain ⟨d, hd, p2⟩ := Post.peek p1
  exact ⟨v, d, rfl, m1.peek r1 hd, _, _, rfl, rfl, Post.ret m1 p2 (.bl _)⟩
theorem dt_tyIs {T : String} {t : Expr} {ta : M VD} (ha : PD X E a ta) (ht : PE X t (tC (.ty T))) (hm : X.mg "type" = none) (hg : Gl X "type" := by rfl) (na : starEach [a] X.env = (false, eval a X.env) :: starEach [] X.env := by rfl) (hpl : (backTo p1 (starEach [] X.env)).any (·.1) = false := by rfl) (hb : behindInMarks .Is t = false := by rfl) :
    PDT X E (.Compare (.Call (.Name "type" p) [a] [] p1) [.Is] [t] pos) (tOf (eTyIs T ta)) := PT.weak (pt_cmpR op_isTy (pe_callTy c_type hg hm (by decide +kernel) (pa_cons ha pa_nil na) (he := na) (hpl := hpl)) ht hb) fun σ H Q q => by
  obtain ⟨F, rs, S, G, m, p⟩ := tOf_lift q
  refine ⟨F, rs, S, G, m, (Post.seq p).mono fun v H1 ⟨rs1, S1, G1, x, u1, m1, r1, p1⟩ => ?_⟩
  obtain ⟨d, hd, p2⟩ := Post.peek p1
  exact ⟨v, d, rfl, m1.peek r1 hd, _, _, rfl, rfl, Post.ret m1 p2 (.bl _)⟩

/-! ### chains a <= b <= c -/
def eChain (f g : PyData → PyData → Option PyData) (ta tb tc : M VD) : M VD := do
  let x ← ta
  let y ← tb
  let d ← peek x
  let e ← peek y
  let r ← ofO (f d e)
  match r with
  | .bool true => do
    let z ← tc
    let e' ← peek y
    let d' ← peek z
    let r' ← ofO (g e' d')
    scal r'
  | .bool false => pure (.dat (.bool false))
  | _ => M.bad
theorem chainD {f g : PyData → PyData → Option PyData} {ta tb tc : M VD} {c : Expr} (ha : PD X E a ta) (hb : PD X E b tb) (hc : PD X E c tc) {σ : L2.St} {H : Hp} {Q : VK} (q : liftE X.K X.wd X.mg E (eChain f g ta tb tc) σ H Q) :
    tChain (rD X.K f) (rD X.K g) (liftE X.K X.wd X.mg E ta) (liftE X.K X.wd X.mg E tb) (liftE X.K X.wd X.mg E tc) σ H Q := by
  obtain ⟨F, rs, S, G, m, p⟩ := q
  refine ⟨F, rs, S, G, m, (Post.seq p).mono fun v H1 ⟨rs1, S1, G1, x, u1, m1, r1, p1⟩ => ?_⟩
  refine ⟨F, rs1, S1, G1, m1, (Post.seq p1).mono fun w H2 ⟨rs2, S2, G2, y, u2, m2, r2, p2⟩ => ?_⟩
  obtain ⟨d, hd, p3⟩ := Post.peek p2
  obtain ⟨e, he, p4⟩ := Post.peek p3
  obtain ⟨r, hr, p5⟩ := Post.ofO p4
  cases r with
  | bool k =>
    refine ⟨d, e, _, _, m2.peek (RdV.up u2 r1) hd, m2.peek r2 he, hr, rfl, k, rfl, ?_⟩
    cases k with
    | false => exact Post.ret m2 p5 (.bl false)
    | true =>
      refine ⟨F, rs2, S2, G2, m2, (Post.seq p5).mono fun z H3 ⟨rs3, S3, G3, z', u3, m3, r3, p6⟩ => ?_⟩
      obtain ⟨e', he', p7⟩ := Post.peek p6
      obtain ⟨d', hd', p8⟩ := Post.peek p7
      obtain ⟨r', hr', p9⟩ := Post.ofO p8
      obtain ⟨w', hw', p10⟩ := Post.scal m3 p9
      exact ⟨e', d', r', w', m3.peek (RdV.up u3 r2) he', m3.peek r3 hd', hr', hw', p10⟩
  | _ => exact p5.elim
theorem d_chain {op op' : CmpOp} {f g : PyData → PyData → Option PyData} {ta tb tc : M VD} {c : Expr} (ho : OpR X (compareOp op) (rD X.K f)) (ho' : OpR X (compareOp op') (rD X.K g)) (ha : PD X E a ta) (hb : PD X E b tb) (hc : PD X E c tc)
    (hm : lastMarks [op, op'] [b, c] = false := by with_unfolding_all rfl) : PD X E (.Compare a [op, op'] [b, c] pos) (eChain f g ta tb tc) := PE.weak (pe_chain ho ho' ha hb hc hm) fun σ H Q q => chainD ha hb hc q
theorem dt_chain {op op' : CmpOp} {f g : PyData → PyData → Option PyData} {ta tb tc : M VD} {c : Expr} (ho : OpR X (compareOp op) (rD X.K f)) (ho' : OpR X (compareOp op') (rD X.K g)) (ha : PD X E a ta) (hb : PD X E b tb) (hc : PD X E c tc)
    (hm : lastMarks [op, op'] [b, c] = false := by with_unfolding_all rfl) : PDT X E (.Compare a [op, op'] [b, c] pos) (tOf (eChain f g ta tb tc)) := PT.weak (pt_chain ho ho' ha hb hc hm) fun σ H Q q => chainD ha hb hc (tOf_lift q)

/-! ### int(x) of an int -/
def intD (d : PyData) : Option PyData := match d with
  | .int i => some (.int i)
  | .bool k => some (.int (if k then 1 else 0))
  | _ => none
theorem c_int : CallR X (.type "int") (rFn X.K intD) := CallR.weak call_int1 fun xs H Q h => by
  obtain ⟨v, d, r, w, rfl, hd, hr, hw, q⟩ := h
  cases d with
  | int i => cases hr; cases hw; cases hd; exact .inl ⟨i, rfl, q⟩
  | bool k => cases hr; cases hw; cases hd; exact .inr ⟨k, rfl, q⟩
  | _ => cases hr
theorem d_fnT {x : Str} {T : String} {f : PyData → Option PyData} {ta : M VD} (hc : CallR X (.type T) (rFn X.K f)) (ha : PD X E a ta) (hg : Gl X x) (hm : X.mg x = none) (hv : bootBuiltins x = some (.type T)) (hn : x ≠ "__name__") (hd : (x == ("__debug__" : Str)) = false) (na : starEach [a] X.env = (false, eval a X.env) :: starEach [] X.env := by rfl) :
    PD X E (.Call (.Name x p) [a] [] pos) (eFn f ta) := PE.weak (pe_callTy hc hg hm hv (pa_cons ha pa_nil na) (hn := hn) (hdb := hd) (he := na)) fun σ H Q q => fnD q
theorem d_intOf {ta : M VD} (ha : PD X E a ta) (hm : X.mg "int" = none) (hg : Gl X "int" := by rfl) (na : starEach [a] X.env = (false, eval a X.env) :: starEach [] X.env := by rfl) : PD X E (.Call (.Name "int" p) [a] [] pos) (eFn intD ta) :=
  d_fnT c_int ha hg hm (by decide +kernel) (by decide) (by decide) na

/-! ### tuple(x), list(x) -/
def eTupOf (ta : M VD) : M VD := do let x ← ta; let c ← peek x; let ds ← ofO (asSeq c); pure (.dat (.tuple ds))
theorem d_tupOf {ta : M VD} (ha : PD X E a ta) (hm : X.mg "tuple" = none) (hg : Gl X "tuple" := by rfl) (na : starEach [a] X.env = (false, eval a X.env) :: starEach [] X.env := by rfl) : PD X E (.Call (.Name "tuple" p) [a] [] pos) (eTupOf ta) :=
  PE.weak (pe_callTy TN.call_tupN hg hm (by decide +kernel) (pa_cons ha pa_nil na) (he := na)) fun σ H Q q => by
  obtain ⟨F, rs, S, G, m, p⟩ := q
  refine ⟨F, rs, S, G, m, (Post.seq p).mono fun v H1 ⟨rs1, S1, G1, x, u1, m1, r1, p1⟩ => ?_⟩
  obtain ⟨d, hd, p2⟩ := Post.peek p1
  obtain ⟨ds, hs, p3⟩ := Post.ofO p2
  obtain ⟨a, vs, rfl, hda, hk⟩ := m1.seq r1 hd hs
  rcases hk with ⟨rfl, hk⟩ | ⟨rfl, hk, hw⟩
  · exact ⟨a, vs, rfl, .inl ⟨.inl hk, fun q its hq => newTup m1 hda p3 hq⟩⟩
  · exact ⟨a, vs, rfl, .inr ⟨hk, Post.ret m1 p3 hw⟩⟩
def eLstOf (ta : M VD) : M VD := do let x ← ta; let c ← peek x; let ds ← ofO (asSeq c); newL ds
theorem d_lstOf {ta : M VD} (ha : PD X E a ta) (hm : X.mg "list" = none) (hg : Gl X "list" := by rfl) (na : starEach [a] X.env = (false, eval a X.env) :: starEach [] X.env := by rfl) : PD X E (.Call (.Name "list" p) [a] [] pos) (eLstOf ta) :=
  PE.weak (pe_callTy call_list_of hg hm (by decide +kernel) (pa_cons ha pa_nil na) (he := na)) fun σ H Q q => by
  obtain ⟨F, rs, S, G, m, p⟩ := q
  refine ⟨F, rs, S, G, m, (Post.seq p).mono fun v H1 ⟨rs1, S1, G1, x, u1, m1, r1, p1⟩ => ?_⟩
  obtain ⟨d, hd, p2⟩ := Post.peek p1
  obtain ⟨ds, hs, p3⟩ := Post.ofO p2
  obtain ⟨a, vs, rfl, hda, hk⟩ := m1.seq r1 hd hs
  rcases hk with ⟨rfl, hk⟩ | ⟨rfl, hk, hw⟩
  · exact ⟨a, vs, rfl, .inl (.inl hk), fun q hq => newLst m1 hda p3 hq⟩
  · exact ⟨a, vs, rfl, .inr hk.sqt, fun q hq => newLst m1 hda p3 hq⟩

/-! ### all(list of bools) -/
def boolsD : List PyData → Option (List Bool)
  | [] => some []
  | .bool b :: ds => (boolsD ds).map (b :: ·)
  | _ => none
def allD (d : PyData) : Option PyData := match d with
  | .list ds => (boolsD ds).map fun bs => .bool (bs.all id)
  | _ => none
theorem bools_dd {K : PySem.W.Frag} : ∀ {vs : List V} {ds : List PyData} {bs : List Bool}, DdAll K H vs ds → boolsD ds = some bs → vs = bs.map V.bl
  | _, _, bs, .nil, h => by cases h; rfl
  | _, _, bs, .cons (d := d) (ds := ds) h1 h2, h => by
    cases d with
    | bool b =>
      unfold boolsD at h
      cases e : boolsD ds with
      | none => rw [e] at h; exact nomatch h
      | some bs' =>
        rw [e] at h
        cases h
        cases h1
        rw [bools_dd h2 e]
        rfl
    | _ => cases h
theorem c_all (hc : X.calm = true) : CallR X (.builtin "all") (rFn X.K allD) := CallR.weak (cr_all hc) fun xs H Q h => by
  obtain ⟨v, d, r, w, rfl, hd, hr, hw, q⟩ := h
  cases d with
  | list ds =>
    unfold allD at hr
    dsimp only at hr
    cases e : boolsD ds with
    | none => rw [e] at hr; cases hr
    | some bs =>
      rw [e] at hr
      cases hr; cases hw
      cases hd with
      | @lst a vs _ h1 h2 => exact ⟨a, bs, rfl, .inl (by rw [← bools_dd h2 e]; exact h1), q⟩
  | _ => cases hr
theorem d_all {ta : M VD} (hc : X.calm = true) (ha : PD X E a ta) (hm : X.mg "all" = none) (hg : Gl X "all" := by rfl) (na : starEach [a] X.env = (false, eval a X.env) :: starEach [] X.env := by rfl) : PD X E (.Call (.Name "all" p) [a] [] pos) (eFn allD ta) :=
  d_fnB (c_all hc) ha hg hm (by decide +kernel) (by decide) (by decide) na

/-! ### x.append(y), x[i] = y -/
def pushC (x : VD) (y : VD) : M VD := do
  let d ← toD y
  match x with
  | .rf j => fun S => match S.ce[j]? with
    | some (.ls true ds) => if ds.length < 16777216 then .ok (.dat .none, { S with ce := S.ce.set j (.ls true (ds ++ [d])) }) else .bad
    | _ => .bad
  | _ => M.bad
def isRf (x : VD) : M Unit := fun S => match x with
  | .rf j => match S.ce[j]? with
    | some (.ls _ _) => .ok ((), S)
    | _ => .bad
  | _ => .bad
theorem Post.isRf {K : PySem.W.Frag} {wl : Wd} {mg : Str → Option Value} {E : XK} {F : Hp} {σ : L2.St} {rs : List Addr} {G : Hp} {S : DS} {Q : VK} {j : Nat} {g : Unit → M VD} (h : Post K wl mg E F σ (RdV K wl) rs G ((isRf (.rf j) >>= g) S) Q) : (∃ b ds, S.ce[j]? = some (.ls b ds)) ∧ Post K wl mg E F σ (RdV K wl) rs G (g () S) Q := by
  rw [M.bind_run] at h
  unfold DL.isRf at h
  dsimp only at h
  cases e : S.ce[j]? with
  | none => rw [e] at h; exact h.elim
  | some c =>
    cases c with
    | dk _ => rw [e] at h; exact h.elim
    | si _ => rw [e] at h; exact h.elim
    | ls b ds => rw [e] at h; exact ⟨⟨b, ds, rfl⟩, h⟩
def eApp (to te : M VD) : M VD := do let x ← to; isRf x; let y ← te; pushC x y
theorem Rd.lst_tracked {a : Addr} (m : Md X.K X.wd F rs S σ H G) {j : Nat} {ds : List PyData} (ha : rs[j]? = some a) (h : S.ce[j]? = some (.ls true ds)) : ∃ vs, H a = some (.lst vs) ∧ DdAll X.K G vs ds := by
  obtain ⟨_, _, vs, hv, hd⟩ := m.cel j a _ ha h
  exact ⟨vs, hv, hd⟩
theorem d_app {o : Expr} {to te : M VD} (ho : PD X E o to) (he : PD X E e te) (hs : starEach [e] X.env = (false, eval e X.env) :: starEach [] X.env := by rfl)
    (hbase : attributeBase o "append" X.env (eval o X.env) = eval o X.env := by rfl)
    (hfew : ((backTo pos (starEach [e] X.env)).all (fun x => !x.1) && (backToKw pos (keywordEach [] X.env)).all (fun x => x.1.isSome)
      && decide ([e].length + ([] : List Keyword).length + (if ([] : List Keyword).isEmpty then 0 else 1) < 30)) = true := by rfl)
    (hline : (apos.endLine == pos.line) = true := by rfl) (hplain : (backTo pos (starEach [] X.env)).any (·.1) = false := by rfl) : PD X E (.Call (.Attribute o "append" apos) [e] [] pos) (eApp to te) :=
  PE.weak (pe_bm PySem.F.plainAttrs_list PySem.F.slot_list_append PySem.F.type_list_append mt_append ho (pa_cons he pa_nil hs) hbase hfew hline hs hplain) fun σ H Q q => by
  obtain ⟨F, rs, S, G, m, p⟩ := q
  refine ⟨F, rs, S, G, m, (Post.seq p).mono fun v H1 ⟨rs1, S1, G1, x, u1, m1, r1, p1⟩ => ?_⟩
  -- it is a live list when the argument is there; it is a list now
  cases x with
  | dat d => exact p1.elim
  | bag _ => exact p1.elim
  | st _ => exact p1.elim
  | ex _ => exact p1.elim
  | exs _ => exact p1.elim
  | oth _ => exact p1.elim
  | rf j =>
    obtain ⟨a, ha, rfl⟩ := r1
    obtain ⟨⟨bl, dl, ec⟩, p1⟩ := Post.isRf p1
    refine ⟨.inl ⟨rfl, ?_⟩, ?_⟩
    · obtain ⟨vs, h1, _⟩ := CellOk.list m1.sub (m1.cel j a _ ha ec)
      exact ⟨vs, .inl h1⟩
    · refine ⟨F, rs1, S1, G1, m1, (Post.seq p1).mono fun w H2 ⟨rs2, S2, G2, y, u2, m2, r2, p2⟩ => ?_⟩
      unfold pushC at p2
      obtain ⟨d, S3, G3, s3, m3, rd, p3⟩ := m2.toD r2 p2
      dsimp only at p3
      have ha2 : rs2[j]? = some a := by
        obtain ⟨⟨more, rfl⟩, _⟩ := u2
        rw [List.getElem?_append_left (List.getElem?_eq_some_iff.mp ha).1]
        exact ha
      cases e : S3.ce[j]? with
      | none => rw [e] at p3; exact p3.elim
      | some c =>
        cases c with
        | dk _ => rw [e] at p3; exact p3.elim
        | si _ => rw [e] at p3; exact p3.elim
        | ls live ds =>
        rw [e] at p3
        cases live with
        | false => exact p3.elim
        | true =>
          dsimp only at p3
          split at p3
          · rename_i hz
            obtain ⟨vs, hv, hd⟩ := Rd.lst_tracked m3 ha2 e
            refine ⟨a, vs, w, rfl, rfl, hv, by rw [DdAll.length hd, sizeLine_eq]; exact hz, ?_⟩
            exact p3 .non _ G3 rs2 Up.refl (m3.write ha2 e (DdAll.append hd (.cons rd .nil))) .non
          · exact p3.elim
/-- x[i] = y as a target -/
def setC (o i x : VD) : M Unit := do
  let d ← toD x
  match o, i with
  | .rf j, .dat (.int k) => fun S => match S.ce[j]? with
    | some (.ls true ds) => match ixN ds.length k with
      | some q => .ok ((), { S with ce := S.ce.set j (.ls true (ds.set q d)) })
      | none => .bad
    | _ => .bad
  | _, _ => M.bad
def gSubD (to ti : M VD) (x : VD) : M Unit := do let o ← to; let i ← ti; setC o i x
theorem PostU.ok {K : PySem.W.Frag} {wl : Wd} {is : List Nat} {α : Type} {t : M α} {g : α → M Unit} {Q : L2.St → Hp → Prop} (h : PostU K wl F rs G is σ ((t >>= g) S) Q) : ∃ p, t S = .ok p ∧ PostU K wl F rs G is σ (g p.1 p.2) Q := by
  rw [M.bind_run] at h
  cases e : t S with
  | ok p => rw [e] at h; exact ⟨p, rfl, h⟩
  | exc _ _ => rw [e] at h; exact h.elim
  | bad => rw [e] at h; exact h.elim
theorem PostU.up {K : PySem.W.Frag} {wl : Wd} {is : List Nat} {rs1 : List Addr} {G1 : Hp} (u : Up rs G rs1 G1) {r : R (Unit × DS)} {Q : L2.St → Hp → Prop} (h : PostU K wl F rs G is σ r Q) : PostU K wl F rs1 G1 is σ r Q := by
  cases r with
  | ok p => exact fun σ' H' G' rs' u' m o => h σ' H' G' rs' (u.trans u') m o
  | exc _ _ => exact h
  | bad => exact h
theorem g_sub {o i : Expr} {to ti : M VD} (ho : PD X E0 o to) (hi : PD X E0 i ti) (ha : ∀ v, assign (.Subscript o i pos) X.env v = (do let ov ← holding [v] (eval o X.env); let iv ← holding [v, ov] (eval i X.env); standAt pos; holding [v, ov, iv] (setItem ov iv v); release [v, ov, iv] []) := by intro _; rfl) : PDG X [] (.Subscript o i pos) (gSubD to ti) := PG.weak (pg_sub ho hi set_list ha) fun v σ H Q q => by
  obtain ⟨F, rs, S, G, x, m, r, p⟩ := q
  obtain ⟨⟨od, S1⟩, e1, p1⟩ := PostU.ok p
  refine ⟨F, rs, S, G, m, Post.okE (E' := E0) (Q' := fun _ _ => True) e1 fun ov H1 G1 rs1 u1 m1 r1 => ?_⟩
  obtain ⟨⟨id, S2⟩, e2, p2⟩ := PostU.ok p1
  refine ⟨F, rs1, S1, G1, m1, Post.okE (E' := E0) (Q' := fun _ _ => True) e2 fun iv H2 G2 rs2 u2 m2 r2 => ?_⟩
  have up2 := u1.trans u2
  have p3 := PostU.up up2 p2
  unfold setC at p3
  dsimp only at p3
  obtain ⟨⟨d, S3⟩, e3, p4⟩ := PostU.ok p3
  have pp : Post X.K X.wd X.mg E0 F σ (fun _ _ (a b : PyData × DS) => True) rs2 G2 ((DL.toD x >>= fun d => (fun S => .ok ((d, S), S) : M (PyData × DS))) S2) (fun _ _ => True) := by
    rw [M.bind_run, e3]
    exact fun _ _ _ _ _ _ _ => trivial
  have key : ∃ G3, Same G2 G3 ∧ Md X.K X.wd F rs2 S3 σ H2 G3 ∧ Dd X.K G3 v d := by
    have rx := RdV.up up2 r
    cases x with
    | dat d9 =>
      have e : (d9, S2) = (d, S3) := R.ok.inj e3
      cases e
      exact ⟨G2, L2.Same.refl _, m2, rx⟩
    | bag _ => cases e3
    | st _ => cases e3
    | ex _ => cases e3
    | exs _ => cases e3
    | oth _ => cases e3
    | rf j =>
      obtain ⟨a, ha, rfl⟩ := rx
      unfold DL.toD at e3
      dsimp only at e3
      cases ej : S2.ce[j]? with
      | none => rw [ej] at e3; cases e3
      | some c =>
        cases c with
        | dk _ => rw [ej] at e3; cases e3
        | si _ => rw [ej] at e3; cases e3
        | ls b ds =>
        rw [ej] at e3
        cases b with
        | true =>
          cases e3
          obtain ⟨G3, sg, m3, rd⟩ := m2.freeze ha ej
          exact ⟨G3, sg, m3, rd⟩
        | false =>
          cases e3
          obtain ⟨vs, hv, hd⟩ := m2.cel j a _ ha ej
          exact ⟨G2, L2.Same.refl _, m2, .lst (Rd.of hv) hd⟩
  obtain ⟨G3, s3, m3, rd⟩ := key
  have p5 := PostU.up (⟨⟨[], by simp⟩, s3⟩ : Up rs2 G2 rs2 G3) p4
  cases od with
  | dat _ => exact p5.elim
  | bag _ => exact p5.elim
  | st _ => exact p5.elim
  | ex _ => exact p5.elim
  | exs _ => exact p5.elim
  | oth _ => exact p5.elim
  | rf j =>
    cases id with
    | rf _ => exact p5.elim
    | bag _ => exact p5.elim
    | st _ => exact p5.elim
    | ex _ => exact p5.elim
    | exs _ => exact p5.elim
    | oth _ => exact p5.elim
    | dat k =>
      cases k with
      | int k =>
        dsimp only at p5
        obtain ⟨a, ha, rfl⟩ := RdV.up u2 r1
        cases (show Dd X.K G2 iv (.int k) from r2)
        cases ej : S3.ce[j]? with
        | none => rw [ej] at p5; exact p5.elim
        | some c =>
          cases c with
          | dk _ => rw [ej] at p5; exact p5.elim
          | si _ => rw [ej] at p5; exact p5.elim
          | ls b ds =>
          rw [ej] at p5
          cases b with
          | false => exact p5.elim
          | true =>
            dsimp only at p5
            cases eq : ixN ds.length k with
            | none => rw [eq] at p5; exact p5.elim
            | some q =>
              rw [eq] at p5
              obtain ⟨vs, hv, hd⟩ := Rd.lst_tracked m3 ha ej
              exact ⟨a, vs, k, q, rfl, rfl, hv, by rw [DdAll.length hd]; exact eq, p5 _ _ G3 rs2 Up.refl (m3.write ha ej (DdAll.set rd q hd)) Off.refl⟩
      | _ => exact p5.elim
/-- a, b = x, y -/
def sPar (i j : Nat) (t : M (List VD)) : MS := do
  let vs ← t
  match vs with
  | [x, y] => do setSl i x; setSl j y; pure .nx
  | _ => M.bad
theorem s_par {i j : Nat} {x y : Str} {a b : Expr} {ta : M (List VD)} {px py pt : Pos} {kt k2 : Nat} {pt2 : Pos} (hc : X.calm = true) (hN : X.N.Nodup) (ha : PDA X E [a, b] ta) (hi : X.N[i]? = some x := by rfl) (hj : X.N[j]? = some y := by rfl) (hij : i ≠ j := by decide)
    (hx : X.env.scope.names.lookup x = some .local := by rfl) (hy : X.env.scope.names.lookup y = some .local := by rfl)
    (hw : swappedStores [.Tuple [.Name x px, .Name y py] kt pt] (.Tuple [a, b] k2 pt2) X.env = pure (some [x, y]) := by rfl) (hs : swapsWithSole [.Tuple [.Name x px, .Name y py] kt pt] (.Tuple [a, b] k2 pt2) pos.line X.env = pure false := by rfl) :
    PDS X E (.Assign [.Tuple [.Name x px, .Name y py] kt pt] (.Tuple [a, b] k2 pt2) pos) (sPar i j ta) := PS.weak (ps_par hc hN hi hj hij hx hy ha hw hs) fun D σ H q => by
  obtain ⟨F, rs, S, G, m, p⟩ := q
  refine ⟨F, rs, S, G, m, (PostS.expr p).mono fun vs H1 ⟨rs1, S1, G1, xs, u1, m1, r1, p1⟩ => ?_⟩
  match xs, vs, r1, p1 with
  | [x, y], [v, w], r1, p1 => exact ⟨v, w, rfl, p1 _ H1 G1 rs1 Up.refl ((m1.store r1.1).store r1.2.1)⟩
  | [], _, _, p1 => exact p1.elim
  | [_], _, _, p1 => exact p1.elim
  | _ :: _ :: _ :: _, _, _, p1 => exact p1.elim
  | [_, _], [], r1, _ => exact r1.elim
  | [_, _], [_], r1, _ => exact r1.2.elim
  | [_, _], _ :: _ :: _ :: _, r1, _ => exact r1.2.2.elim
end
end DL
/-! DL11: defs that call defs. -/
namespace DL
open PySem PySem.Spec L2
variable [TabT]
/-- a def of the module under its name, kept at level k -/
def Fnk (P : Program) (w : World) (K : PySem.W.Frag) (mg : Str → Option Value) (base : Heap) (x : Str) (n k : Nat) (den : Fd) : Prop :=
  ∃ (f : Addr) (fd : FuncData) (ps : List Str), DG.FnG P w K mg base k f fd ps (spD K w mg n den) ∧ mg x = some (.ref f) ∧ PySem.W.keepIn K (.ref f) = true ∧ Binds K fd ps []
theorem Fnk.has {X : Cx} {E : XK} {x : Str} {n k j : Nat} {den : Fd} (h : Fnk X.prog X.w X.K X.mg X.base x n k den) (hgd : X.A.guards = some []) (hr : Room j X.A) (hp : Passes (L2.CX X.prog X.w) X E) (hk : k ≤ j := by decide) : Has X E x n den :=
  let ⟨f, fd, ps, F, hm, hkk, hb⟩ := h
  ⟨⟨k, f, fd, ps, F, hgd, hr.mono hk, hm, hkk, hb, hp⟩⟩
theorem passB {P : Program} {w : World} {K : PySem.W.Frag} {mg : Str → Option Value} {base : Heap} {N : List Str} {qual : Str} {sc : Scope} {f : Addr} {cd : Value} {A : Around} {outer : List Env} {s : Shared} {H : Hp} {E : XK} :
    Passes (L2.CX P w) (cxOf (L2.CX P w) P w K mg base N qual sc f cd A outer s H E) E := passes_call (takes_of rfl rfl rfl rfl) fun _ _ _ _ h => h
theorem huB {j : Nat} {A : Around} (hr : Room j A) : A.units + 200 < cLine := by have := hr.un; omega
theorem Fnk.mk {P : Program} {w : World} {K : PySem.W.Frag} {mg : Str → Option Value} {base : Heap} {x : Str} {k : Nat} {den : Fd} {f : Addr} {fd : FuncData} {ps : List Str} (F : DG.FnG P w K mg base k f fd ps (spD K w mg ps.length den)) (hm : mg x = some (.ref f)) (hk : PySem.W.keepIn K (.ref f) = true) (hb : Binds K fd ps []) : Fnk P w K mg base x ps.length k den :=
  ⟨f, fd, ps, F, hm, hk, hb⟩
end DL
/-! NS5: set(x). -/
namespace NS
open L2 PyProof.Rows PySem PySem.Spec
section
variable {P : Program} {w : World} {A : Around} {E : Value → Shared → Prop} {st : Shared}

set_option maxHeartbeats 3200007 in
/-- set(x), x a list -/
theorem set_of_list {l : Addr} {items : Array Value} (ks : List El) {Q : Value → Shared → Prop} (hh : A.handled = none) (hl : st.heap.IsList l items) (hit : items.toList = ks.map fun p => Value.ref p.1)
    (hk : ∀ p ∈ ks, Elt st.heap p.2 p.1) (few : ks.length < 64) (hu : A.units + 11 < cLine)
    (fin : ∀ (h' : Heap) (tk : Nat) B rows e0 tb, SetN P w h' st.heap.objs.size B rows e0 tb → In ks ks.length B → (∀ b o, st.heap.get? b = some o → h'.get? b = some o) → Q (.ref st.heap.objs.size) { st with heap := h', toks := tk }) :
    wpAny (model P w) A (call (.type "set") [.ref l]) Q E st := by
  have cnt : items.size = ks.length := by simpa using congrArg List.length hit
  obtain ⟨c0, tl0, mro0⟩ := F.called_set.mro
  have f_made := F.called_set.made
  have f_sub := F.called_set.sub
  have f_not := F.called_set.notType
  have f_can := F.called_set.canCreate
  have f_call := F.typeCall_set_1 (.ref l); refine wpAny_call (codeAny_of_tree ?_)
  show wpAny _ _ (callAny (.type "set") _) _ _ _; refine wpAny_pure ⟨Code.quiet_builtin _ (by decide +kernel), codeAny_builtin F.entry_type_call ?_⟩; rw [Around.under_plain (weight_type_call_type "set" [.ref l] []) rfl]; repeat (any_goals (first | assumption | wp_step))
  -- the new set
  have laid : (st.heap.push (emptySet w)).get? st.heap.objs.size = some (emptySet w) := Heap.get?_push_size _ rfl
  refine codeAny_mono (code_set_led1 (.ref l) (E := E) (Q₁ := fun u s1 => u = .ref st.heap.objs.size ∧ s1 = { st with heap := st.heap.push (emptySet w) }) ⟨rfl, rfl⟩) fun r s1 hr => ?_
  match r, hr with
  | .error e, hr => exact hr
  | .ok (.ret u), hr =>
    obtain ⟨rfl, rfl⟩ := hr
    have isSet : Shared.TypeIs { st with heap := st.heap.push (emptySet w) } (.ref st.heap.objs.size) "set" := ⟨_, laid, rfl⟩
    have f_il := F.called_set.init.lookup
    have f_ib := F.called_set.init.bind (.ref st.heap.objs.size); repeat (any_goals (first | assumption | wp_step))
    refine codeAny_mono (codeAny_call_builtin (R := wants (fun r s2 => r = .none ∧ ∃ h' tk B rows e0 tb, s2 = { st with heap := h', toks := tk } ∧ SetN P w h' st.heap.objs.size B rows e0 tb ∧ In ks ks.length B ∧
        (∀ b o, st.heap.get? b = some o → h'.get? b = some o)) E) F.called_set.init.plain F.entry_set_init (check_set_init_1 isSet ?_)) fun r2 s2 hr2 => ?_
    · obtain ⟨⟨cl, dc, dt, sl⟩, at_l, cls_l, nl, dat_l⟩ := id hl
      simp only at cls_l dat_l
      subst cls_l
      subst dat_l
      have lt_l : l < st.heap.objs.size := Heap.lt_size at_l
      have at_l1 : (st.heap.push (emptySet w)).get? l = some { cls := .type "list", dict := dc, data := .seq items nl, slots := sl } := Heap.get?_push_of_some _ at_l
      have f_s1 := F.sub_list_set
      have f_s2 := F.sub_list_frozenset
      have f_nd : (Value.type "list" == Value.type "dict") = false := by decide
      have seq1 : (st.heap.push (emptySet w)).IsList l items := ⟨_, at_l1, rfl, nl, rfl⟩
      have cool : A.in1.in1.in1.handled = none := by simp [hh]
      unfold Builtin.«set.__init__» noKeywords Builtin.Frozenset.updateFrom; generalize epi : pyIter = PI
      wp_walk
      subst epi
      refine wpAny_pyIter_list seq1 ?_; refine wpAny_bind (wpAny_runValue ?_)
      have ne_it : l ≠ (st.heap.push (emptySet w)).objs.size := by
        rw [Heap.size_push]
        exact Nat.ne_of_lt (Nat.lt_succ_of_lt lt_l)
      have off_it : st.heap.objs.size ∉ [(st.heap.push (emptySet w)).objs.size, l] := by
        rw [Heap.size_push]
        simp only [List.mem_cons, List.not_mem_nil, or_false, not_or]
        exact ⟨Nat.ne_of_lt (Nat.lt_succ_self _), Nat.ne_of_gt lt_l⟩
      have val : ∀ (i : Nat) (v : Value), items[i]? = some v → ∃ p, ks[i]? = some p ∧ v = .ref p.1 := fun i v hv => by
        have q : (ks.map fun p => Value.ref p.1)[i]? = some v := by rw [← hit, Array.getElem?_toList]; exact hv
        rw [List.getElem?_map] at q
        cases e : ks[i]? with
        | none => rw [e] at q; cases q
        | some p => rw [e] at q; exact ⟨p, rfl, (Option.some.inj q).symm⟩
      have free : ∀ b, st.heap.objs.size ≤ b → st.heap.get? b = none := fun b hb => by
        cases q : st.heap.get? b with
        | none => rfl
        | some o => (exact absurd (Nat.lt_of_lt_of_le (Heap.lt_size q) hb) (Nat.lt_irrefl _))
      refine updated ((Walks.list cool _ l ne_it items).toS) st.heap.objs.size off_it ks cnt few val st.heap hk (free _ (Nat.le_refl _)) (fun b hb => free b (by
          rw [List.mem_singleton.mp hb, Heap.size_push]; exact Nat.le_succ _)) (by show A.units + 1 + 1 + 1 + 8 < cLine; omega) (items.size - 0) 0 _ (by omega) (Nat.zero_le _)
        ⟨⟨_, Heap.get?_push_size _ rfl, rfl, rfl⟩, (seq1.push _)⟩ (fun b o e => Heap.get?_push_of_some _ (Heap.get?_push_of_some _ e)) ⟨[], #[], 0, _, setN_new (Heap.get?_push_of_some _ laid), fun p hp => (by cases hp), fun p hp => (by simp at hp), Nat.le_refl _⟩ ?_
      intro s' B rows e0 tb mv Z g k1
      obtain ⟨h', g2, d2, t2, o2⟩ := s'
      have eg : g2 = st.gens := mv.gens
      have ed : d2 = st.drawn := mv.drawn
      have eo : o2 = st.os := mv.os
      subst eg
      subst ed
      subst eo
      refine wpAny_pure ?_
      rw [cnt] at g
      exact wpAny_pure ⟨rfl, h', t2, B, rows, e0, tb, rfl, Z, g, k1⟩
    · match r2, hr2 with
      | .error e, hr2 => exact hr2
      | .ok (.ret r), hr2 =>
        obtain ⟨rfl, h', tk, B, rows, e0, tb, rfl, Z, g, k1⟩ := hr2; repeat (any_goals (first | assumption | wp_step))
        exact fin _ _ _ _ _ _ Z g k1
      | .ok .next, hr2 => exact hr2.elim
      | .ok .brk, hr2 => exact hr2.elim
      | .ok .cont, hr2 => exact hr2.elim
  | .ok .next, hr => exact hr.elim
  | .ok .brk, hr => exact hr.elim
  | .ok .cont, hr => exact hr.elim

set_option maxHeartbeats 3200007 in
/-- set(x), x a tuple -/
theorem set_of_tuple {l : Addr} {items : Array Value} (ks : List El) {Q : Value → Shared → Prop} (hh : A.handled = none) (hl : st.heap.IsTuple l items) (hit : items.toList = ks.map fun p => Value.ref p.1)
    (hk : ∀ p ∈ ks, Elt st.heap p.2 p.1) (few : ks.length < 64) (hu : A.units + 11 < cLine)
    (fin : ∀ (h' : Heap) (tk : Nat) B rows e0 tb, SetN P w h' st.heap.objs.size B rows e0 tb → In ks ks.length B → (∀ b o, st.heap.get? b = some o → h'.get? b = some o) → Q (.ref st.heap.objs.size) { st with heap := h', toks := tk }) :
    wpAny (model P w) A (call (.type "set") [.ref l]) Q E st := by
  have cnt : items.size = ks.length := by simpa using congrArg List.length hit
  obtain ⟨c0, tl0, mro0⟩ := F.called_set.mro
  have f_made := F.called_set.made
  have f_sub := F.called_set.sub
  have f_not := F.called_set.notType
  have f_can := F.called_set.canCreate
  have f_call := F.typeCall_set_1 (.ref l); refine wpAny_call (codeAny_of_tree ?_)
  show wpAny _ _ (callAny (.type "set") _) _ _ _; refine wpAny_pure ⟨Code.quiet_builtin _ (by decide +kernel), codeAny_builtin F.entry_type_call ?_⟩; rw [Around.under_plain (weight_type_call_type "set" [.ref l] []) rfl]; repeat (any_goals (first | assumption | wp_step))
  -- the new set
  have laid : (st.heap.push (emptySet w)).get? st.heap.objs.size = some (emptySet w) := Heap.get?_push_size _ rfl
  refine codeAny_mono (code_set_led1 (.ref l) (E := E) (Q₁ := fun u s1 => u = .ref st.heap.objs.size ∧ s1 = { st with heap := st.heap.push (emptySet w) }) ⟨rfl, rfl⟩) fun r s1 hr => ?_
  match r, hr with
  | .error e, hr => exact hr
  | .ok (.ret u), hr =>
    obtain ⟨rfl, rfl⟩ := hr
    have isSet : Shared.TypeIs { st with heap := st.heap.push (emptySet w) } (.ref st.heap.objs.size) "set" := ⟨_, laid, rfl⟩
    have f_il := F.called_set.init.lookup
    have f_ib := F.called_set.init.bind (.ref st.heap.objs.size); repeat (any_goals (first | assumption | wp_step))
    refine codeAny_mono (codeAny_call_builtin (R := wants (fun r s2 => r = .none ∧ ∃ h' tk B rows e0 tb, s2 = { st with heap := h', toks := tk } ∧ SetN P w h' st.heap.objs.size B rows e0 tb ∧ In ks ks.length B ∧
        (∀ b o, st.heap.get? b = some o → h'.get? b = some o)) E) F.called_set.init.plain F.entry_set_init (check_set_init_1 isSet ?_)) fun r2 s2 hr2 => ?_
    · obtain ⟨⟨cl, dc, dt, sl⟩, at_l, cls_l, nl, dat_l⟩ := id hl
      simp only at cls_l dat_l
      subst cls_l
      subst dat_l
      have lt_l : l < st.heap.objs.size := Heap.lt_size at_l
      have at_l1 : (st.heap.push (emptySet w)).get? l = some { cls := .type "tuple", dict := dc, data := .seq items nl, slots := sl } := Heap.get?_push_of_some _ at_l
      have f_s1 := F.sub_tuple_set
      have f_s2 := F.sub_tuple_frozenset
      have f_nd : (Value.type "tuple" == Value.type "dict") = false := by decide
      have seq1 : (st.heap.push (emptySet w)).IsTuple l items := ⟨_, at_l1, rfl, nl, rfl⟩
      have cool : A.in1.in1.in1.handled = none := by simp [hh]
      unfold Builtin.«set.__init__» noKeywords Builtin.Frozenset.updateFrom; generalize epi : pyIter = PI
      wp_walk
      subst epi
      refine wpAny_pyIter_tuple seq1 ?_; refine wpAny_bind (wpAny_runValue ?_)
      have ne_it : l ≠ (st.heap.push (emptySet w)).objs.size := by
        rw [Heap.size_push]
        exact Nat.ne_of_lt (Nat.lt_succ_of_lt lt_l)
      have off_it : st.heap.objs.size ∉ [(st.heap.push (emptySet w)).objs.size, l] := by
        rw [Heap.size_push]
        simp only [List.mem_cons, List.not_mem_nil, or_false, not_or]
        exact ⟨Nat.ne_of_lt (Nat.lt_succ_self _), Nat.ne_of_gt lt_l⟩
      have val : ∀ (i : Nat) (v : Value), items[i]? = some v → ∃ p, ks[i]? = some p ∧ v = .ref p.1 := fun i v hv => by
        have q : (ks.map fun p => Value.ref p.1)[i]? = some v := by rw [← hit, Array.getElem?_toList]; exact hv
        rw [List.getElem?_map] at q
        cases e : ks[i]? with
        | none => rw [e] at q; cases q
        | some p => rw [e] at q; exact ⟨p, rfl, (Option.some.inj q).symm⟩
      have free : ∀ b, st.heap.objs.size ≤ b → st.heap.get? b = none := fun b hb => by
        cases q : st.heap.get? b with
        | none => rfl
        | some o => (exact absurd (Nat.lt_of_lt_of_le (Heap.lt_size q) hb) (Nat.lt_irrefl _))
      refine updated ((Walks.tuple cool _ l ne_it items).toS) st.heap.objs.size off_it ks cnt few val st.heap hk (free _ (Nat.le_refl _)) (fun b hb => free b (by
          rw [List.mem_singleton.mp hb, Heap.size_push]; exact Nat.le_succ _)) (by show A.units + 1 + 1 + 1 + 8 < cLine; omega) (items.size - 0) 0 _ (by omega) (Nat.zero_le _)
        ⟨⟨_, Heap.get?_push_size _ rfl, rfl, rfl⟩, (seq1.push _)⟩ (fun b o e => Heap.get?_push_of_some _ (Heap.get?_push_of_some _ e)) ⟨[], #[], 0, _, setN_new (Heap.get?_push_of_some _ laid), fun p hp => (by cases hp), fun p hp => (by simp at hp), Nat.le_refl _⟩ ?_
      intro s' B rows e0 tb mv Z g k1
      obtain ⟨h', g2, d2, t2, o2⟩ := s'
      have eg : g2 = st.gens := mv.gens
      have ed : d2 = st.drawn := mv.drawn
      have eo : o2 = st.os := mv.os
      subst eg
      subst ed
      subst eo
      refine wpAny_pure ?_
      rw [cnt] at g
      exact wpAny_pure ⟨rfl, h', t2, B, rows, e0, tb, rfl, Z, g, k1⟩
    · match r2, hr2 with
      | .error e, hr2 => exact hr2
      | .ok (.ret r), hr2 =>
        obtain ⟨rfl, h', tk, B, rows, e0, tb, rfl, Z, g, k1⟩ := hr2; repeat (any_goals (first | assumption | wp_step))
        exact fin _ _ _ _ _ _ Z g k1
      | .ok .next, hr2 => exact hr2.elim
      | .ok .brk, hr2 => exact hr2.elim
      | .ok .cont, hr2 => exact hr2.elim
  | .ok .next, hr => exact hr.elim
  | .ok .brk, hr => exact hr.elim
  | .ok .cont, hr => exact hr.elim
end
end NS
/-! DL12: sets of tuples, sorted. -/
namespace DL
open PySem PySem.Spec L2
variable [TabT]
open NS (El keyOf dataOf once leD setHO)

/-- a tuple that a set may hold -/
def setEl (d : PyData) : Bool := match d with
  | .tuple _ => match keyOf d with
    | some k => decide (k.depth ≤ 8)
    | none => false
  | _ => false
theorem setEl_key {d : PyData} (h : setEl d = true) : ∃ k, keyOf d = some k ∧ k.depth ≤ 8 ∧ ∃ ds, d = .tuple ds := by
  cases d with
  | tuple ds =>
    unfold setEl at h
    dsimp only at h
    cases e : keyOf (.tuple ds) with
    | none => (rw [e] at h; cases h)
    | some k => rw [e] at h; exact ⟨k, rfl, of_decide_eq_true h, ds, rfl⟩
  | _ => cases h
/-- the i-th of both: where it stands, what it is -/
def ElIn (vs : List V) (ds : List PyData) (p : El) : Prop := ∃ (i : Nat) (d : PyData), vs[i]? = some (V.ref p.1) ∧ ds[i]? = some d ∧ keyOf d = some p.2 ∧ p.2.depth ≤ 8
theorem ElIn.up {v : V} {vs : List V} {d : PyData} {ds : List PyData} {p : El} (h : ElIn vs ds p) : ElIn (v :: vs) (d :: ds) p := by
  obtain ⟨i, e, h1, h2, h3⟩ := h
  exact ⟨i + 1, e, by simpa using h1, by simpa using h2, h3⟩
theorem els_of {K : PySem.W.Frag} {H : Hp} : ∀ {vs : List V} {ds : List PyData}, DdAll K H vs ds → ds.all setEl = true →
    ∃ ks : List El, vs = ks.map (fun p => V.ref p.1) ∧ (∀ p ∈ ks, ElIn vs ds p) ∧ (∀ d ∈ ds, ∃ k, keyOf d = some k ∧ k ∈ ks.map (·.2))
  | _, _, .nil, _ => ⟨[], rfl, fun p hp => (by cases hp), fun d hd => (by cases hd)⟩
  | _, _, .cons (v := v) (vs := vs) (d := d) (ds := ds) h t, al => by
    rw [List.all_cons, Bool.and_eq_true] at al
    obtain ⟨k, hk, hd8, es, rfl⟩ := setEl_key al.1
    obtain ⟨ks, e1, e2, e3⟩ := els_of t al.2
    cases h with
    | @tup b xs _ hs ha =>
      refine ⟨(b, k) :: ks, by rw [e1]; rfl, fun p hp => ?_, fun d' hd' => ?_⟩
      · rcases List.mem_cons.1 hp with rfl | y
        · exact ⟨0, _, rfl, rfl, hk, hd8⟩
        · exact ElIn.up (e2 p y)
      · rcases List.mem_cons.1 hd' with rfl | y
        · exact ⟨k, hk, by simp⟩
        · obtain ⟨k', q1, q2⟩ := e3 d' y
          exact ⟨k', q1, by rw [List.map_cons]; exact List.mem_cons_of_mem _ q2⟩
theorem ElIn.dd {K : PySem.W.Frag} {H : Hp} {vs : List V} {ds : List PyData} {p : El} (h : ElIn vs ds p) (a : DdAll K H vs ds) : ∃ d, d ∈ ds ∧ keyOf d = some p.2 ∧ p.2.depth ≤ 8 ∧ Dd K H (.ref p.1) d := by
  obtain ⟨i, d, h1, h2, h3, h4⟩ := h
  obtain ⟨d', q1, q2⟩ := DdAll.get a h1
  rw [h2] at q1
  cases q1
  exact ⟨d, List.mem_of_getElem? h2, h3, h4, q2⟩
theorem vals_refs : ∀ {ks : List El} {us : List Value}, Vals (ks.map fun p => V.ref p.1) us → us = ks.map fun p => Value.ref p.1
  | [], _, .nil => rfl
  | p :: ks, _, .cons r t => by
    cases r
    rw [vals_refs t]
    rfl
section
variable {X : Cx} {E : XK} {e a b : Expr} {es : List Expr} {pos p p1 p2 : Pos}
theorem elt_of {pins : List (Addr × Obj)} {σ : L2.St} {H : Hp} {s : Shared} (I : Inv X pins σ H s) {b : Addr} {d : PyData} {k : NestedKey} (h : Dd X.K H (.ref b) d) (hk : keyOf d = some k) (h8 : k.depth ≤ 8) : NS.Elt s.heap k b ∧ ∀ as, Reads s.heap (.ref b) d as → as = [] := by
  obtain ⟨as, r⟩ := Dd.reads I d (.ref b) (.ref b) h rfl
  exact ⟨⟨(NS.key_reads d k _ _ hk r).1, h8, NS.key_bare d k hk⟩, fun as r => (NS.key_reads d k _ _ hk r).2⟩
def rSet (K : PySem.W.Frag) (w : World) : List V → Hp → VK → Prop := fun xs H Q => ∃ a vs ds, xs = [V.ref a] ∧ (Rd H a (.lst vs) ∨ SqT K H a vs) ∧ DdAll K H vs ds ∧ ds.all setEl = true ∧ ds.length < 64 ∧
  ∀ q B, H q = none → (∀ p ∈ B, ElIn vs ds p) → (∀ d ∈ ds, ∃ k, keyOf d = some k ∧ k ∈ B.map (·.2)) → Q (.ref q) (upd H q (setHO w q B))
theorem c_set (hc : X.calm = true) (hu : X.A.units + 200 < cLine) : CallR X (.type "set") (rSet X.K X.w) := by
  intro pins s σ H xs us Q I r h; obtain ⟨a, vs, ds, rfl, ha, hd, hal, hl, q⟩ := h; obtain ⟨u, rfl, ru⟩ := vals1 r
  cases ru
  obtain ⟨ks, ev, k1, k2⟩ := els_of hd hal
  have evs := ev
  subst ev
  have hlen : ks.length < 64 := by
    have := DdAll.length hd
    rw [List.length_map] at this
    omega
  have hk : ∀ p ∈ ks, NS.Elt s.heap p.2 p.1 := fun p hp => by
    obtain ⟨d, _, q2, q3, q4⟩ := (k1 p hp).dd hd
    exact (elt_of I q4 q2 q3).1
  (have hn : H s.heap.objs.size = none := I.hok.fresh (Nat.le_refl _))
  have done : ∀ (h' : Heap) (tk : Nat) B rows e0 tb, NS.SetN X.prog X.w h' s.heap.objs.size B rows e0 tb → NS.In ks ks.length B → (∀ b o, s.heap.get? b = some o → h'.get? b = some o) → EP X pins σ Q (.ref s.heap.objs.size) { s with heap := h', toks := tk } := by
    intro h' tk B rows e0 tb Z g k
    refine ⟨.ref s.heap.objs.size, _, I.laid (t' := tk) k (Nat.le_refl _) (NS.setHO_new Z.bare), rfl, q _ B hn (fun p hp => ?_) fun d hd => ?_⟩
    · exact k1 p (List.mem_of_mem_take (g.of p hp))
    · obtain ⟨k, q1, q2⟩ := k2 d hd
      obtain ⟨p, hp, rfl⟩ := List.mem_map.mp q2
      exact ⟨p.2, q1, g.has p (by rw [List.take_length]; exact hp)⟩
  rcases ha with ha | ha
  · obtain ⟨its, rv, pl, hz⟩ := I.list (.inl ha)
    exact NS.set_of_list ks (I.ok.hd hc) pl.isList (by simpa using vals_refs rv) hk hlen (by omega) done
  · obtain ⟨its, rv, pl, hz⟩ := I.tuple ha
    exact NS.set_of_tuple ks (I.ok.hd hc) pl (by simpa using vals_refs rv) hk hlen (by omega) done
def eSetOf (ta : M VD) : M VD := do let x ← ta; let c ← peek x; let ds ← ofO (asSeq c); chk (ds.all setEl && decide (ds.length < 64)); pure (.st ds)
theorem d_setOf {ta : M VD} (hc : X.calm = true) (hu : X.A.units + 200 < cLine) (ha : PD X E a ta) (hm : X.mg "set" = none) (hg : Gl X "set" := by rfl) (na : starEach [a] X.env = (false, eval a X.env) :: starEach [] X.env := by rfl) (hpl : (backTo pos (starEach [] X.env)).any (·.1) = false := by rfl) :
    PD X E (.Call (.Name "set" p) [a] [] pos) (eSetOf ta) := PE.weak (pe_callTy (c_set hc hu) hg hm (by decide +kernel) (pa_cons ha pa_nil na) (he := na) (hpl := hpl)) fun σ H Q q => by
  obtain ⟨F, rs, S, G, m, p⟩ := q
  refine ⟨F, rs, S, G, m, (Post.seq p).mono fun v H1 ⟨rs1, S1, G1, x, u1, m1, r1, p1⟩ => ?_⟩
  obtain ⟨d, hd, p2⟩ := Post.peek p1
  obtain ⟨ds, hs, p3⟩ := Post.ofO p2
  obtain ⟨hz, p4⟩ := Post.chk p3
  rw [Bool.and_eq_true, decide_eq_true_eq] at hz
  obtain ⟨b, vs, rfl, hda, hk⟩ := m1.seq r1 hd hs
  refine ⟨b, vs, ds, rfl, hk.elim (fun y => .inl y.2) (fun y => .inr y.2.1.sqt), DdAll.same m1.sub _ _ hda, hz.1, hz.2, fun q B hq h1 h2 => ?_⟩
  have gq := L2.Same.free m1.sub hq
  refine p4 (.ref q) _ (upd G1 q (setHO X.w q B)) rs1 ⟨⟨[], by simp⟩, same_upd gq⟩ (m1.new hq) ⟨q, B, rfl, upd_same, fun p hp => ?_, h2⟩
  obtain ⟨d, y1, y2, y3, y4⟩ := (h1 p hp).dd hda
  exact ⟨d, y1, y2, y3, Dd.same (same_upd gq) _ _ y4⟩
end
end DL
/-! MS0: a merge sort that the kernel can reckon. -/
namespace MS
variable {α : Type}
def mrg (le : α → α → Bool) : Nat → List α → List α → List α
  | 0, _, _ => []
  | _ + 1, [], ys => ys
  | _ + 1, x :: xs, [] => x :: xs
  | n + 1, x :: xs, y :: ys => bif le x y then x :: mrg le n xs (y :: ys) else y :: mrg le n (x :: xs) ys
theorem mrg_eq (le : α → α → Bool) : ∀ (n : Nat) (xs ys : List α), xs.length + ys.length < n → mrg le n xs ys = List.merge xs ys le
  | 0, _, _, h => by omega
  | n + 1, [], ys, _ => by simp [mrg]
  | n + 1, x :: xs, [], _ => by simp [mrg]
  | n + 1, x :: xs, y :: ys, h => by
    rw [List.cons_merge_cons, mrg, mrg_eq le n xs (y :: ys) (by simp at h ⊢; omega), mrg_eq le n (x :: xs) ys (by simp at h ⊢; omega)]
    cases le x y <;> rfl
def srt (le : α → α → Bool) : Nat → List α → List α
  | 0, xs => xs
  | _ + 1, [] => []
  | _ + 1, [a] => [a]
  | n + 1, a :: b :: xs => mrg le (xs.length + 3) (srt le n ((a :: b :: xs).take ((xs.length + 3) / 2))) (srt le n ((a :: b :: xs).drop ((xs.length + 3) / 2)))
theorem srt_eq (le : α → α → Bool) : ∀ (n : Nat) (xs : List α), xs.length ≤ n → srt le n xs = xs.mergeSort le
  | 0, [], _ => by simp [srt]
  | 0, x :: xs, h => by simp at h
  | n + 1, [], _ => by simp [srt]
  | n + 1, [a], _ => by simp [srt]
  | n + 1, a :: b :: xs, hL => by
    have l1 : ((a :: b :: xs).take ((xs.length + 3) / 2)).length ≤ n := by simp at hL ⊢; omega
    have l2 : ((a :: b :: xs).drop ((xs.length + 3) / 2)).length ≤ n := by simp at hL ⊢; omega
    rw [srt, srt_eq le n _ l1, srt_eq le n _ l2, mrg_eq _ _ _ _ (by simp; omega), List.mergeSort]
    simp [List.MergeSort.Internal.splitInTwo_fst, List.MergeSort.Internal.splitInTwo_snd]
/-- sorted, as the kernel can reckon it -/
def sort (le : α → α → Bool) (xs : List α) : List α := srt le xs.length xs
theorem sort_eq (le : α → α → Bool) (xs : List α) : sort le xs = xs.mergeSort le := srt_eq le _ _ (Nat.le_refl _)
end MS
/-! DL19: sorted(set), x in set. -/
namespace DL
open PySem PySem.Spec L2
variable [TabT]
open NS (El keyOf dataOf once leD setHO)
def keysD (ds : List PyData) : List NestedKey := ds.filterMap keyOf
/-- what sorted(set(..)) gives -/
def sortSD (ds : List PyData) : List PyData := MS.sort leD ((once (keysD ds)).map dataOf)
theorem sortSD_eq (ds : List PyData) : sortSD ds = ((once (keysD ds)).map dataOf).mergeSort leD := MS.sort_eq _ _
def full (d : PyData) : Bool := match d with
  | .tuple (_ :: _) => true
  | _ => false
def sortB (ds : List PyData) : Bool := (ds.all fun x => ds.all fun y => W.alike x y) && (ds.all full && ds.all fun d => decide (d.depth ≤ 100))
abbrev encE : El → PyData := fun p => dataOf p.2
/-- the elements of a set, by the data that it was made of -/
def SetOf (K : PySem.W.Frag) (H : Hp) (B : List El) (ds : List PyData) : Prop := ∀ p ∈ B, ∃ d, d ∈ ds ∧ keyOf d = some p.2 ∧ p.2.depth ≤ 8 ∧ Dd K H (.ref p.1) d
def rSortS (K : PySem.W.Frag) (w : World) : List V → Hp → VK → Prop := fun xs H Q => ∃ (a : Addr) (B : List El) (ds : List PyData), xs = [.ref a] ∧ H a = some (setHO w a B) ∧ SetOf K H B ds ∧ sortB ds = true ∧
  ∀ q (L : List El), H q = none → L.Perm B → (B.map (·.2)).Nodup → Q (.ref q) (upd H q (.lst ((L.mergeSort (W.dataLe false encE)).map fun p => V.ref p.1)))
section
variable {X : Cx} {E : XK} {e a b : Expr} {es : List Expr} {pos p p1 p2 : Pos}
theorem setN_at {pins : List (Addr × Obj)} {σ : L2.St} {H : Hp} {s : Shared} (I : Inv X pins σ H s) {a : Addr} {B : List El} {ds : List PyData} (h : H a = some (setHO X.w a B)) (hs : SetOf X.K H B ds) : ∃ rows e0 tb, NS.SetN X.prog X.w s.heap a B rows e0 tb := by
  have x : ObjOk X.prog X.w H s.heap a (.ext fun h => NS.SetO0 X.w h a B) := I.hok a _ h
  refine NS.SetO0.full x.1 fun p hp => ?_
  obtain ⟨d, _, q2, q3, q4⟩ := hs p hp
  exact (elt_of I q4 q2 q3).1
theorem vals_of_refs : ∀ L : List El, Vals (L.map fun p => V.ref p.1) (L.map fun p => Value.ref p.1)
  | [] => .nil
  | p :: L => .cons rfl (vals_of_refs L)
theorem c_sortS (hc : X.calm = true) (hu : X.A.units + 200 < cLine) : CallR X (.builtin "sorted") (rSortS X.K X.w) := by
  rintro pins s σ H xs us Q I r ⟨a, B, ds, rfl, ha, hs, hb, q⟩
  obtain ⟨u, rfl, ru⟩ := vals1 r; cases ru
  obtain ⟨rows, e0, tb, Z⟩ := setN_at I ha hs
  unfold sortB at hb
  simp only [Bool.and_eq_true, List.all_eq_true, decide_eq_true_eq] at hb
  obtain ⟨b1, b2, b3⟩ := hb
  have enc : ∀ p ∈ B, encE p ∈ ds ∧ Dd X.K H (.ref p.1) (encE p) ∧ keyOf (encE p) = some p.2 ∧ p.2.depth ≤ 8 := fun p hp => by
    obtain ⟨d, q1, q2, q3, q4⟩ := hs p hp
    have e := NS.data_key d p.2 q2
    show dataOf p.2 ∈ ds ∧ Dd X.K H (.ref p.1) (dataOf p.2) ∧ keyOf (dataOf p.2) = some p.2 ∧ p.2.depth ≤ 8
    rw [e]
    exact ⟨q1, q4, q2, q3⟩
  have few : B.length ≤ sizeLine := by have := Z.few; rw [sizeLine_eq]; omega
  refine NS.sorted_of (enc := encE) Z (I.ok.hd hc) (fun p hp => Dd.reads I _ _ _ (enc p hp).2.1 rfl) (fun p hp as r => (elt_of I (enc p hp).2.1 (enc p hp).2.2.1 (enc p hp).2.2.2).2 as r) ?_ (.inl fun d hd => ?_) (fun p hp => ?_) fun s' l L c k g1 g2 hz pL hl => ?_
  · intro d hd d' hd'
    obtain ⟨p, hp, rfl⟩ := List.mem_map.mp hd
    obtain ⟨p', hp', rfl⟩ := List.mem_map.mp hd'
    exact b1 _ (enc p hp).1 _ (enc p' hp').1
  · obtain ⟨p, hp, rfl⟩ := List.mem_map.mp hd
    have y := b2 _ (enc p hp).1
    unfold full at y
    split at y
    · rename_i x r hx; exact ⟨x, r, hx⟩
    · cases y
  · have y := b3 _ (enc p hp).1
    omega
  · obtain ⟨hp', gs', dr', tk', os'⟩ := s'
    dsimp only at g1 g2 k hl
    have new : ObjOk X.prog X.w (upd H l (.lst ((L.mergeSort (W.dataLe false encE)).map fun p => V.ref p.1))) hp' l (.lst ((L.mergeSort (W.dataLe false encE)).map fun p => V.ref p.1)) :=
      ⟨by rw [List.length_map, List.length_mergeSort, pL.length_eq]; exact few, _, c, vals_of_refs _, hl⟩
    have J : Inv X pins σ (upd H l (.lst ((L.mergeSort (W.dataLe false encE)).map fun p => V.ref p.1))) ⟨hp', gs', dr', tk', os'⟩ := I.call' (ch := []) g2 (Un.laid k hz (I.hok.fresh hz)) (I.hok.laid k hz new) (by rw [g1]; exact I.bare) fun b z => nomatch z
    exact ⟨.ref l, _, J, rfl, q l L (I.hok.fresh hz) pL Z.uni⟩
def eSortS (ta : M VD) : M VD := do
  let x ← ta
  match x with
  | .st ds => do chk (sortB ds); newL (sortSD ds)
  | _ => M.bad
theorem dd_sorted {G : Hp} {L : List El} (h : ∀ p ∈ L, Dd X.K G (.ref p.1) (encE p)) : DdAll X.K G (L.map fun p => V.ref p.1) (L.map encE) := by
  induction L with
  | nil => exact .nil
  | cons p L ih => exact .cons (h p List.mem_cons_self) (ih fun q hq => h q (List.mem_cons_of_mem _ hq))
theorem once_perm {B : List El} {ds : List PyData} (hn : (B.map (·.2)).Nodup) (h1 : ∀ p ∈ B, ∃ d, d ∈ ds ∧ keyOf d = some p.2) (h2 : ∀ d ∈ ds, ∃ k, keyOf d = some k ∧ k ∈ B.map (·.2)) : (B.map (·.2)).Perm (once (keysD ds)) := by
  refine (List.perm_ext_iff_of_nodup hn (NS.once_nodup _)).mpr fun k => ?_
  rw [NS.mem_once]
  unfold keysD
  rw [List.mem_filterMap]
  constructor
  · intro hk
    obtain ⟨p, hp, rfl⟩ := List.mem_map.mp hk
    exact h1 p hp
  · rintro ⟨d, hd, hk⟩
    obtain ⟨k', e, hk'⟩ := h2 d hd
    rw [hk] at e; cases e
    exact hk'
theorem d_sortS {ta : M VD} (hc : X.calm = true) (hu : X.A.units + 200 < cLine) (ha : PD X E a ta) (hm : X.mg "sorted" = none) (hg : Gl X "sorted" := by rfl) (na : starEach [a] X.env = (false, eval a X.env) :: starEach [] X.env := by rfl) (hpl : (backTo pos (starEach [] X.env)).any (·.1) = false := by rfl) :
    PD X E (.Call (.Name "sorted" p) [a] [] pos) (eSortS ta) := PE.weak (pe_callB (c_sortS hc hu) hg hm (by decide +kernel) (pa_cons ha pa_nil na) (he := na) (hpl := hpl)) fun σ H Q q => by
  obtain ⟨F, rs, S, G, m, p⟩ := q
  refine ⟨F, rs, S, G, m, (Post.seq p).mono fun v H1 ⟨rs1, S1, G1, x, u1, m1, r1, p1⟩ => ?_⟩
  cases x with
  | st ds =>
    obtain ⟨hb, p2⟩ := Post.chk p1
    obtain ⟨a, B, rfl, h1, h2, h3⟩ := r1
    refine ⟨a, B, ds, rfl, m1.sub _ _ h1, fun p hp => ?_, hb, fun q L hq pL hn => ?_⟩
    · obtain ⟨d, q1, q2, q3, q4⟩ := h2 p hp
      exact ⟨d, q1, q2, q3, Dd.same m1.sub _ _ q4⟩
    · have enc : ∀ p ∈ B, encE p ∈ ds ∧ Dd X.K G1 (.ref p.1) (encE p) ∧ keyOf (encE p) = some p.2 := fun p hp => by
        obtain ⟨d, q1, q2, q3, q4⟩ := h2 p hp
        show dataOf p.2 ∈ ds ∧ Dd X.K G1 (.ref p.1) (dataOf p.2) ∧ keyOf (dataOf p.2) = some p.2
        rw [NS.data_key d p.2 q2]
        exact ⟨q1, q4, q2⟩
      have big : (L.mergeSort (W.dataLe false encE)).map encE = sortSD ds := by
        rw [sortSD_eq]
        rw [W.sort_maps (r := W.dataLe false encE) (s := leD) encE fun _ _ _ _ => rfl]
        have pm : (L.map encE).Perm ((once (keysD ds)).map dataOf) := by
          have y := (once_perm hn (fun p hp => let ⟨d, q1, q2, _⟩ := h2 p hp; ⟨d, q1, q2⟩) h3).map dataOf
          rw [List.map_map] at y
          exact (pL.map encE).trans y
        have inB : ∀ d ∈ L.map encE, d ∈ ds ∧ ∃ k, keyOf d = some k := fun d hd => by
          obtain ⟨p, hp, rfl⟩ := List.mem_map.mp hd
          exact ⟨(enc p (pL.mem_iff.mp hp)).1, _, (enc p (pL.mem_iff.mp hp)).2.2⟩
        have nd : (L.map encE).Nodup := by
          have y : L.Pairwise fun p q => p.2 ≠ q.2 := List.pairwise_map.mp ((pL.map (fun p : El => p.2)).nodup_iff.mpr hn)
          refine List.pairwise_map.mpr (y.imp_of_mem fun {p q} hp hq ne e => ne ?_)
          have z1 := (enc p (pL.mem_iff.mp hp)).2.2
          rw [e, (enc q (pL.mem_iff.mp hq)).2.2] at z1
          exact (Option.some.inj z1).symm
        have hb' := hb
        unfold sortB at hb'
        simp only [Bool.and_eq_true, List.all_eq_true] at hb'
        exact NS.sort_same pm nd (fun d hd => (inB d hd).2) fun d hd d' hd' => hb'.1 _ (inB d hd).1 _ (inB d' hd').1
      rw [← big] at p2
      exact newLst m1 (dd_sorted fun p hp => (enc p (pL.mem_iff.mp (List.mem_mergeSort.mp hp))).2.1) p2 hq
  | _ => exact p1.elim
/-! ### x in set -/
def rInS (K : PySem.W.Frag) (w : World) (f : Bool → Bool) : R2 := fun x y H Q => ∃ (a b : Addr) (B : List El) (ds : List PyData) (d : PyData) (k : NestedKey), x = .ref b ∧ y = .ref a ∧ H a = some (setHO w a B) ∧ SetOf K H B ds ∧ Dd K H (.ref b) d ∧ keyOf d = some k ∧ k.depth ≤ 8 ∧ Q (.bl (f (decide (k ∈ B.map (·.2))))) H
theorem op_inS (hu : X.A.units + 200 < cLine) : OpR X (compareOp .In) (rInS X.K X.w id) := by
  rintro pins s σ H x y v u Q I rx ry ⟨a, b, B, ds, d, k, rfl, rfl, ha, hs, hd, hk, h8, q⟩
  cases rx
  cases ry
  obtain ⟨rows, e0, tb, Z⟩ := setN_at I ha hs
  exact NS.in_of Z (elt_of I hd hk h8).1 (by omega) fun tk => ⟨.bl _, H, I.tok tk, rfl, q⟩
theorem op_notInS (hu : X.A.units + 200 < cLine) : OpR X (compareOp .NotIn) (rInS X.K X.w not) := by
  rintro pins s σ H x y v u Q I rx ry ⟨a, b, B, ds, d, k, rfl, rfl, ha, hs, hd, hk, h8, q⟩
  cases rx
  cases ry
  obtain ⟨rows, e0, tb, Z⟩ := setN_at I ha hs
  exact NS.notIn_of Z (elt_of I hd hk h8).1 (by omega) fun tk => ⟨.bl _, H, I.tok tk, rfl, q⟩
/-- the key of a tuple -/
def tupKey (d : PyData) : Option NestedKey := match d with
  | .tuple _ => match keyOf d with
    | some k => if k.depth ≤ 8 then some k else none
    | none => none
  | _ => none
theorem tupKey_some {d : PyData} {k : NestedKey} (h : tupKey d = some k) : keyOf d = some k ∧ k.depth ≤ 8 ∧ ∃ ds, d = .tuple ds := by
  unfold tupKey at h
  split at h
  · rename_i ds
    split at h
    · rename_i k' e
      split at h
      · rename_i h8; cases h; exact ⟨e, h8, ds, rfl⟩
      · cases h
    · cases h
  · cases h
def eInS (f : Bool → Bool) (ta tb : M VD) : M VD := do
  let x ← ta
  let y ← tb
  match y with
  | .st ds => do
    let d ← peek x
    let k ← ofO (tupKey d)
    pure (.dat (.bool (f (decide (k ∈ keysD ds)))))
  | _ => M.bad
theorem inD_of {op : CmpOp} {f : Bool → Bool} {ta tb : M VD} (ho : OpR X (compareOp op) (rInS X.K X.w f)) (ha : PD X E a ta) (hb : PD X E b tb) (hm : behindInMarks op b = false) : PD X E (.Compare a [op] [b] pos) (eInS f ta tb) := PE.weak (pe_cmpR ho ha hb hm) fun σ H Q q => by
  obtain ⟨F, rs, S, G, m, p⟩ := q
  refine ⟨F, rs, S, G, m, (Post.seq p).mono fun v H1 ⟨rs1, S1, G1, x, u1, m1, r1, p1⟩ => ?_⟩
  refine ⟨F, rs1, S1, G1, m1, (Post.seq p1).mono fun v2 H2 ⟨rs2, S2, G2, y, u2, m2, r2, p2⟩ => ?_⟩
  cases y with
  | st ds =>
    obtain ⟨d, hd, p3⟩ := Post.peek p2
    obtain ⟨k, hk, p4⟩ := Post.ofO p3
    obtain ⟨k1, k8, es, rfl⟩ := tupKey_some hk
    obtain ⟨a, B, rfl, h1, h2, h3⟩ := r2
    have dd := m2.peek (RdV.up u2 r1) hd
    cases dd with
    | @tup b xs _ hs ht =>
      refine ⟨a, b, B, ds, .tuple es, k, rfl, rfl, m2.sub _ _ h1, fun p hp => ?_, .tup hs ht, k1, k8, ?_⟩
      · obtain ⟨d, q1, q2, q3, q4⟩ := h2 p hp
        exact ⟨d, q1, q2, q3, Dd.same m2.sub _ _ q4⟩
      · have e : decide (k ∈ B.map (·.2)) = decide (k ∈ keysD ds) := decide_eq_decide.mpr ⟨fun z => by
          obtain ⟨p, hp, rfl⟩ := List.mem_map.mp z
          obtain ⟨d, q1, q2, _⟩ := h2 p hp
          exact List.mem_filterMap.mpr ⟨d, q1, q2⟩, fun z => by
          obtain ⟨d, q1, q2⟩ := List.mem_filterMap.mp z
          obtain ⟨k', e, hk'⟩ := h3 d q1
          rw [q2] at e; cases e
          exact hk'⟩
        rw [e]
        exact Post.ret m2 p4 (.bl _)
  | _ => exact p2.elim
theorem d_inS {ta tb : M VD} (hu : X.A.units + 200 < cLine) (ha : PD X E a ta) (hb : PD X E b tb) (hm : behindInMarks .In b = false) : PD X E (.Compare a [.In] [b] pos) (eInS id ta tb) := inD_of (op_inS hu) ha hb hm
theorem d_notInS {ta tb : M VD} (hu : X.A.units + 200 < cLine) (ha : PD X E a ta) (hb : PD X E b tb) (hm : behindInMarks .NotIn b = false) : PD X E (.Compare a [.NotIn] [b] pos) (eInS not ta tb) := inD_of (op_notInS hu) ha hb hm
end
end DL
/-! EN1: enumerate of a tuple. -/
namespace EN
open L2 PyProof.Rows PySem PySem.Spec
theorem enumNew {v : Value} {o : Obj} {H : Heap → Prop} (B : Begins v o H) : Meets (Builtin.«enumerate.__new__» ⟨[.type "enumerate", v], []⟩) (fun _ R s => H s.heap ∧
    R (.ok (.ret (.ref (s.heap.push o).objs.size))) { s with heap := (s.heap.push o).push { cls := .type "enumerate", data := .fields #[.none, .bool false, .ref s.heap.objs.size, rawInt 0, .none, .none] } }) :=
  .of_wp fun prog w A R s z => by
    obtain ⟨hp, gs, dr, tk, os⟩ := s; obtain ⟨h1, r⟩ := z
    have below := sub_enumerate
    have it : ∀ {A' : Around} {E : Value → Shared → Prop} {Q : Value → Shared → Prop}, Q (.ref hp.objs.size) ⟨hp.push o, gs, dr, tk, os⟩ → wpAny (model prog w) A' (pyIter v) Q E ⟨hp, gs, dr, tk, os⟩ := fun q => B.iter prog w _ _ ⟨hp, gs, dr, tk, os⟩ _ h1 q
    wp_walk using it; refine wpAny_stack_any fun st => wpAny_pure ?_
    split
    · rename_i c _ _ _ _ _
      cases (c == Value.type "enumerate") <;> (wp_walk using it; exact ⟨_, rfl, r⟩)
    · wp_walk using it; exact ⟨_, rfl, r⟩
theorem enumCall {prog : Program} {w : World} {A : Around} {E : Value → Shared → Prop} {s : Shared} {v : Value} {o : Obj} {H : Heap → Prop} {Q : Value → Shared → Prop} (B : Begins v o H) (h1 : H s.heap)
    (h : ∀ h', IsEnum h' (s.heap.objs.size + 1) s.heap.objs.size 0 .none → h'.get? s.heap.objs.size = some o → (∀ b u, s.heap.get? b = some u → h'.get? b = some u) → Q (.ref (s.heap.objs.size + 1)) { s with heap := h' }) : wpAny (model prog w) A (call (.type "enumerate") [v]) Q E s := by
  refine callType_new F.called_enumerate (by decide) (F.typeCall_enumerate_1 _) (F.newCall_enumerate_1 _) (fun obj => F.args_object_init_2 obj _) F.entry_enumerate_new (enumNew B) ⟨h1, ?_⟩
  have sz : (s.heap.push o).objs.size = s.heap.objs.size + 1 := Heap.size_push ..
  have at_e := Heap.get?_push_size (s.heap.push o) (o := { cls := .type "enumerate", data := .fields #[.none, .bool false, .ref s.heap.objs.size, rawInt 0, .none, .none] }) rfl
  rw [sz] at at_e
  show _ ∧ _
  rw [sz]
  exact ⟨⟨_, at_e, rfl⟩, h _ at_e (Heap.get?_push_of_some _ (Heap.get?_push_size _ B.free)) fun b u x => Heap.get?_push_of_some _ (Heap.get?_push_of_some _ x)⟩
/-- the tuple at a, each item in a new pair -/
def ItT (K : PySem.W.Frag) (a : Addr) : It :=
  ⟨fun i H => ∃ (xs : List V) (x : V), SqT K H a xs ∧ xs[i]? = some x, fun i H v H' => ∃ T x its, v = .ref T ∧ H T = none ∧ H' = upd H T (TN.hT its [.int (i : Nat), x]) ∧ ∀ xs, SqT K H a xs → xs[i]? = some x, fun i H => ∃ xs : List V, SqT K H a xs ∧ xs.length = i⟩
theorem turnT {P : Program} {w : World} {K : PySem.W.Frag} {elts : List Expr} {kk : Nat} {tpos : Pos} (a e it : Addr) :
    Turn P w K (.Tuple elts kk tpos) (ItT K a) [e, it] e (fun i h => (∃ old, IsEnum h e it ((i : Nat) : Int) old) ∧ h.IsTupleIter it a i ∧ e ≠ it ∧ a ≠ it ∧ a ≠ e) where
  mem := by simp
  obj := fun i h st b hb => by
    obtain ⟨⟨was, he⟩, ⟨o, ho, hc, hd⟩, _⟩ := st
    rcases List.mem_cons.1 hb with y | y
    · subst y; exact ⟨_, he, fun v q => nomatch q⟩
    · obtain rfl := List.mem_singleton.mp y
      exact ⟨o, ho, fun v q => by rw [hd] at q; cases q⟩
  keep := fun i h h2 st k => let ⟨⟨was, he⟩, hi, hne⟩ := st; ⟨⟨was, k e (by simp) _ he⟩, hi.at fun o q => k it (by simp) o q, hne⟩
  item := by
    intro X hP hw hK hc i pins s σ H E I hf st hg; subst hP hw hK
    obtain ⟨⟨old, he⟩, hit, hne, hai, hae⟩ := st
    obtain ⟨xs, x, hq, hx⟩ := hg; obtain ⟨its, rv, p, hz⟩ := I.tuple hq; obtain ⟨u, hu, ru⟩ := rv.get hx
    have lt_e : e < s.heap.objs.size := Heap.lt_size he
    have lt_it : it < s.heap.objs.size := by obtain ⟨_, q, _⟩ := hit; exact Heap.lt_size q
    have hlen : i < its.toArray.size := by rw [List.size_toArray]; exact (List.getElem?_eq_some_iff.mp hu).1
    have hn : X.A.in1.handled = none := I.ok.hd hc
    refine wpAny_pyNext_enum_itemD (Draws.tuple hn it a hai its.toArray) he ⟨hit, p⟩ hlen hne (by simp [hne, Ne.symm hae]) fun y h' tk hy ho st2 hT hsz hk => ?_
    have ey : y = u := by
      have q : its.toArray[i]? = some u := by simpa using hu
      rw [q] at hy; exact (Option.some.inj hy).symm
    subst ey
    refine ⟨_, rfl, wpAny_letOwnedTupleGo_enum (s := { s with heap := h', toks := tk + 1 }) ho fun h'' he' sb => ?_⟩
    have hT2 : h''.get? s.heap.objs.size = some { cls := .type "tuple", data := .seq #[.int i tk, y] } := (sb.2 _ (Nat.ne_of_gt lt_e)).trans hT; have new : ObjOk X.prog X.w (upd H s.heap.objs.size (TN.hT [.int i tk, y] [.int (i : Nat), x])) h'' s.heap.objs.size (TN.hT [.int i tk, y] [.int (i : Nat), x]) :=
      ⟨hT2, by show 2 ≤ sizeLine; decide, [.int i tk, y], .cons ⟨_, rfl⟩ (.cons ru .nil), ⟨_, hT2, rfl, _, rfl⟩⟩
    have J : Inv X pins σ (upd H s.heap.objs.size (TN.hT [.int i tk, y] [.int (i : Nat), x])) { s with heap := h'', toks := tk + 1 } :=
      I.turnedNew (ch := [e, it]) (fun b ob nb q => (sb.2 b (fun z => nb (by simp [z]))).trans (hk b ob (fun z => nb (by simp [z])) (fun z => nb (by simp [z])) q)) hf (Nat.le_refl _) new
    refine ⟨.ref s.heap.objs.size, _, J, rfl, ⟨_, x, _, rfl, I.hok.fresh (Nat.le_refl _), rfl, fun ys hy => by rw [I.tuple_inj hy hq]; exact hx⟩, ⟨⟨y, ?_⟩, st2.1.at fun o q => (sb.2 it (Ne.symm hne)).trans q, hne, hai, hae⟩, fun b hb => ?_⟩
    · rw [show ((i + 1 : Nat) : Int) = (i : Int) + 1 by omega]; exact he'
    · have lb : b < s.heap.objs.size := by
        rcases List.mem_cons.1 hb with y | y
        · rw [y]; exact lt_e
        · rw [List.mem_singleton.mp y]; exact lt_it
      rw [upd_ne (Nat.ne_of_lt lb)]
      exact (hf b hb).1
  done := by
    intro X hP hw hK hc i pins s σ H E I hf st hg; subst hP hw hK
    obtain ⟨⟨old, he⟩, hit, hne, hai, hae⟩ := st
    obtain ⟨xs, hq, hx⟩ := hg; obtain ⟨its, rv, p, hz⟩ := I.tuple hq; obtain ⟨f0, f1, f2, f3, f4, f5⟩ := hf it (by simp)
    have hl : its.toArray.size = i := by rw [List.size_toArray, ← rv.length]; exact hx
    have hn : X.A.in1.handled = none := I.ok.hd hc
    exact wpAny_pyNext_enum_endD (Draws.tuple hn it a hai its.toArray) he ⟨hl ▸ hit, p⟩ fun h' eb => ⟨rfl, I.turned (t' := s.toks) (fun b o hb q => eb b o hb q) f0 f1 f3 f4 f5⟩
  self := fun A i s Q E st q => let ⟨⟨_, he⟩, _⟩ := st; wpAny_pyIter_enum he q
def iEnT (K : PySem.W.Frag) (ta : TA) : TI := fun σ H R => ta σ H fun vs H1 => ∃ a xs, vs = [.ref a] ∧ SqT K H1 a xs ∧ R (ItT K a) H1
theorem pi_enT {X : Cx} {e : Expr} {ta : TA} {p pos tpos : Pos} {elts : List Expr} {kk : Nat} (hg : Gl X "enumerate") (hm : X.mg "enumerate" = none) (ha : PA X [e] ta) (hs : starEach [e] X.env = [(false, eval e X.env)] := by rfl) :
    PI X (.Tuple elts kk tpos) (.Call (.Name "enumerate" p) [e] [] pos) (iEnT X.K ta) := by
  refine ⟨fun pins s σ H R I h => Call_ (ld_blt I hg hm boot_enumerate (PyProof.Rows.callWith_type1 (thn (ha.run pos pins s σ H _ I h) fun us s1 z => ?_) hs rfl))⟩
  obtain ⟨vs, H1, I1, r1, a, xs, rfl, hq, q⟩ := z; obtain ⟨u, rfl, ru⟩ := vals1 r1
  cases ru
  obtain ⟨its, rv, p', hz⟩ := I1.tuple hq
  have la : a < s1.heap.objs.size := by obtain ⟨o, ho, _⟩ := p'; exact Heap.lt_size ho
  refine enumCall (begins_tuple a its.toArray) p' fun h' he ho hk => wpAny_pyIter_enum he ?_
  have J : Inv X pins σ H1 { s1 with heap := h' } := I1.kept (t' := s1.toks) hk
  refine ⟨s1.heap.objs.size + 1, [s1.heap.objs.size + 1, s1.heap.objs.size], _, _, H1, rfl, J, turnT a (s1.heap.objs.size + 1) s1.heap.objs.size, ⟨⟨.none, he⟩, ⟨_, ho, rfl, rfl⟩, Nat.succ_ne_self _, Nat.ne_of_lt la, Nat.ne_of_lt (Nat.lt_succ_of_lt la)⟩, fun b hb => ?_, q⟩; have hle : s1.heap.objs.size ≤ b := by
    rcases List.mem_cons.1 hb with y | y
    · rw [y]; exact Nat.le_succ _
    · rw [List.mem_singleton.mp y]; exact Nat.le_refl _
  exact I1.fpOk hle (L2.HOk.fresh I1.hok hle)
end EN
/-! DL20: for .. in enumerate(x). -/
namespace DL
open PySem PySem.Spec L2 EN
variable [TabT]
/-- the pairs of enumerate -/
def enD (ds : List PyData) : List PyData := ds.zipIdx.map fun p => .tuple [.int p.2, p.1]
theorem enD_get {ds : List PyData} {i : Nat} {d : PyData} (h : ds[i]? = some d) : (enD ds)[i]? = some (.tuple [.int i, d]) := by
  unfold enD
  rw [List.getElem?_map, List.getElem?_zipIdx, h]
  simp
theorem enD_len {ds : List PyData} : (enD ds).length = ds.length := by simp [enD]
def srcEnumT (t : M VD) : M (List PyData) := do
  let x ← t
  match x with
  | .dat (.tuple ds) => pure (enD ds)
  | _ => M.bad
section
variable {X : Cx} {E : XK} {e : Expr} {p pos tpos : Pos} {elts : List Expr} {kk : Nat}
theorem i_enumT {t : M VD} (hm : X.mg "enumerate" = none) (he : PD X E e t) (hg : Gl X "enumerate" := by rfl) (hs : starEach [e] X.env = [(false, eval e X.env)] := by rfl) : PDI X E (.Tuple elts kk tpos) (.Call (.Name "enumerate" p) [e] [] pos) (srcEnumT t) :=
  PI.weak (pi_enT hg hm (pa_cons he pa_nil (by rw [hs]; rfl)) hs) fun σ H R q => by
  obtain ⟨F, rs, S, G, m, p⟩ := q
  refine ⟨F, rs, S, G, m, (Post.seq p).mono fun v H1 ⟨rs1, S1, G1, x, u1, m1, r1, p1⟩ => ?_⟩
  cases x with
  | dat d =>
    cases d with
    | tuple ds =>
      cases (show Dd X.K G1 v (.tuple ds) from r1) with
      | @tup a xs _ hs ha =>
        refine ⟨a, xs, rfl, (TN.SqN.same m1.sub hs).sqt, p1 (ItT X.K a) H1 G1 rs1 Up.refl m1 ⟨fun H G s1 s2 => ⟨xs, Same.sqt s2 (Same.sqt s1 hs.sqt), by rw [enD_len]; exact DdAll.length ha⟩, fun i H G hi s1 s2 => ?_, fun i H G x H' hi s1 s2 y => ?_⟩⟩
        · rw [enD_len] at hi
          have hi' : i < xs.length := by rw [DdAll.length ha]; exact hi
          exact ⟨xs, xs[i], Same.sqt s2 (Same.sqt s1 hs.sqt), List.getElem?_eq_getElem hi'⟩
        · obtain ⟨T, w, its, rfl, hT, rfl, y⟩ := y
          obtain ⟨d, h1, h2⟩ := DdAll.get ha (y xs (Same.sqt s2 (Same.sqt s1 hs.sqt)))
          have gT := L2.Same.free s2 hT
          exact ⟨_, enD_get h1, .inr ⟨T, _, hT, rfl, (fun ps z => by cases z), .tup (TN.SqN.of upd_same) (.cons (.int _) (.cons (Dd.same (L2.Same.trans s1 (same_upd gT)) _ _ h2) .nil))⟩⟩
    | _ => exact p1.elim
  | _ => exact p1.elim
end
end DL
/-! DL13: exceptions of own classes: made, read, asked. -/
namespace DL
open PySem PySem.Spec L2 EX
variable [TabT]

/-! ### what __init__ promises: one field a parameter, under the parameter's name -/
def mkH (H : Hp) (a C dx : Addr) (fs : List (Str × V)) : Hp := upd (upd H dx (exd dx fs)) a (exo a C (some dx))
def iniSp (C : Addr) (names : List Str) : Sp := fun vs H Q _ => ∃ (a : Addr) (ys : List V), vs = .ref a :: ys ∧ ys.length = names.length ∧ H a = some (exo a C none) ∧
  ((names = [] ∧ Q .non H) ∨ (names ≠ [] ∧ ∀ dx, H dx = none → dx ≠ a → Q .non (mkH H a C dx (names.reverse.zip ys.reverse))))
theorem ini_len {C : Addr} {names : List Str} : ∀ (vs : List V) (H : Hp) (Q : VK) (E : XK), iniSp C names vs H Q E → vs.length = (("self" : Str) :: names).length := by
  rintro vs H Q E ⟨a, ys, rfl, hl, _⟩
  simp [hl]
theorem mkH_again {H : Hp} {a C dx : Addr} {fs gs : List (Str × V)} (h : dx ≠ a) : upd (mkH H a C dx fs) dx (exd dx gs) = mkH H a C dx gs := by
  funext b
  unfold mkH
  by_cases h1 : b = dx
  · subst h1; rw [upd_same, upd_ne h, upd_same]
  · rw [upd_ne h1]
    by_cases h2 : b = a
    · subst h2; rw [upd_same, upd_same]
    · rw [upd_ne h2, upd_ne h2, upd_ne h1, upd_ne h1]
/-- the bodies: no field, one, two -/
theorem ini1 {K : PySem.W.Frag} {C : Addr} {n : Str} (T : XcE K C) (h1 : W.takerIn K C n = some none) {vs : List V} {H : Hp} {Q : VK} {E : XK} (h : iniSp C [n] vs H Q E) :
    tSto K n (tVar 0) (tVar 1) { nx := fun _ H' => Q .non H', rt := Q } (L2.start ["self", n] vs) H := by
  obtain ⟨a, ys, rfl, hl, ha, h⟩ := h
  match ys, hl with
  | [y], _ =>
    rcases h with h | ⟨_, h⟩
    · cases h.1
    · exact ⟨y, rfl, .ref a, rfl, a, C, rfl, T, h1, .inl ⟨ha, fun dx n1 n2 => h dx n1 n2⟩⟩
theorem ini2 {K : PySem.W.Frag} {C : Addr} {n m : Str} (T : XcE K C) (h1 : W.takerIn K C n = some none) (h2 : W.takerIn K C m = some none) {vs : List V} {H : Hp} {Q : VK} {E : XK} (h : iniSp C [n, m] vs H Q E) :
    tSeq (tSto K n (tVar 0) (tVar 1)) (tSto K m (tVar 0) (tVar 2)) { nx := fun _ H' => Q .non H', rt := Q } (L2.start ["self", n, m] vs) H := by
  obtain ⟨a, ys, rfl, hl, ha, h⟩ := h
  match ys, hl with
  | [y, z], _ =>
    rcases h with h | ⟨_, h⟩
    · cases h.1
    · refine ⟨y, rfl, .ref a, rfl, a, C, rfl, T, h1, .inl ⟨ha, fun dx n1 n2 => ?_⟩⟩
      refine ⟨z, rfl, .ref a, rfl, a, C, rfl, T, h2, .inr ⟨dx, [(n, y)], upd_same, (upd_ne n2).trans upd_same, by simp, ?_⟩⟩
      have e := h dx n1 n2
      show Q .non (upd (mkH H a C dx [(n, y)]) dx (exd dx [(m, z), (n, y)]))
      rw [mkH_again n2]
      exact e
/-- a class that is called: under its name, its fields in the order of the parameters -/
structure MkO (P : Program) (w : World) (K : PySem.W.Frag) (mg : Str → Option Value) (base : Heap) (cls : Str) (names : List Str) : Prop where
  ex : ∃ (C fI : Addr) (fd : FuncData), mg cls = some (.ref C) ∧ XcE K C ∧ W.findIn K (.ref C) "__init__" = some (some (.ref fI)) ∧ W.typeIn K (.ref fI) = some (.type "function") ∧ FnOk P w K mg base CX0 1 fI fd (("self" : Str) :: names) (iniSp C names) ∧
    KBn K fd (("self" : Str) :: names) (names.length + 1) [] (fun us _ => us) (fun us _ => us) ∧ KBn K fd (("self" : Str) :: names) 1 names (fun us ws => us ++ ws) (fun us ws => us ++ ws) ∧ KBn K fd (("self" : Str) :: names) 1 names.reverse (fun us ws => us ++ ws.reverse) (fun us ws => us ++ ws.reverse)
section
variable {K : PySem.W.Frag} {wl : Wd} {F : Hp} {rs : List Addr} {S : DS} {σ : L2.St} {H G : Hp}
theorem DdAll.reverse' {vs : List V} {ds : List PyData} (h : DdAll K G vs ds) : DdAll K G vs.reverse ds.reverse := DdAll.reverse h
def exV (cls : Str) (names : List Str) (ds : List PyData) : Str × List (Str × PyData) := (cls, names.reverse.zip ds.reverse)
/-- the object stands: as a value -/
theorem exNew {mg : Str → Option Value} {E : XK} {Q : VK} {cls : Str} {names : List Str} {C : Addr} {vs : List V} {ds : List PyData} (m : Md K wl F rs S σ H G) (hm : wl.mg cls = some (.ref C)) (hd : DdAll K G vs ds) (hl : ds.length = names.length)
    (h : Post K wl mg E F σ (RdV K wl) rs G (.ok (.ex (exV cls names ds), S)) Q) {a : Addr} (ha : H a = none) {Q' : VK} (hq : ∀ H3, Q (.ref a) H3 → Q' .non H3) : iniSp C names (.ref a :: vs) (upd H a (exo a C none)) Q' (fun _ _ _ => False) := by
  have hvl : vs.length = names.length := (DdAll.length hd).trans hl
  refine ⟨a, vs, rfl, hvl, upd_same, ?_⟩
  by_cases hn : names = []
  · subst hn
    have e0 : ds = [] := List.length_eq_zero_iff.mp hl
    subst e0
    exact .inl ⟨rfl, hq _ (h (.ref a) _ (upd G a (exo a C none)) rs ⟨⟨[], by simp⟩, same_upd (L2.Same.free m.sub ha)⟩ (m.new ha) ⟨a, C, none, rfl, hm, upd_same, .inl ⟨rfl, rfl⟩⟩)⟩
  · refine .inr ⟨hn, fun dx hx ne => hq _ ?_⟩
    have hx' : H dx = none := by rw [upd_ne ne] at hx; exact hx
    have ha' : upd H dx (exd dx (names.reverse.zip vs.reverse)) a = none := by rw [upd_ne (Ne.symm ne)]; exact ha
    have e : mkH (upd H a (exo a C none)) a C dx (names.reverse.zip vs.reverse) = upd (upd H dx (exd dx (names.reverse.zip vs.reverse))) a (exo a C (some dx)) := by
      funext b
      unfold mkH
      by_cases h1 : b = a
      · subst h1; rw [upd_same, upd_same]
      · rw [upd_ne h1, upd_ne h1]
        by_cases h2 : b = dx
        · subst h2; rw [upd_same, upd_same]
        · rw [upd_ne h2, upd_ne h2, upd_ne h1]
    rw [e]
    have m1 := m.new (o := exd dx (names.reverse.zip vs.reverse)) hx'
    have gx := L2.Same.free m.sub hx'
    have ga := L2.Same.free m1.sub ha'
    have sg : Same G (upd (upd G dx (exd dx (names.reverse.zip vs.reverse))) a (exo a C (some dx))) := L2.Same.trans (same_upd gx) (same_upd ga)
    have l1 : names.reverse.length = ds.reverse.length := by simp [hl]
    refine h (.ref a) _ (upd (upd G dx (exd dx (names.reverse.zip vs.reverse))) a (exo a C (some dx))) rs ⟨⟨[], by simp⟩, sg⟩ (m1.new ha') ⟨a, C, some dx, rfl, hm, upd_same, .inr ⟨dx, vs.reverse, rfl, ?_, ?_⟩⟩
    · show upd (upd G dx _) a _ dx = some (exd dx (((names.reverse.zip ds.reverse).map (·.1)).zip vs.reverse))
      rw [upd_ne ne, upd_same, show (names.reverse.zip ds.reverse).map (·.1) = names.reverse from List.map_fst_zip (Nat.le_of_eq l1)]
    · show DdAll K _ vs.reverse ((names.reverse.zip ds.reverse).map (·.2))
      rw [show (names.reverse.zip ds.reverse).map (·.2) = ds.reverse from List.map_snd_zip (Nat.le_of_eq l1.symm)]
      exact DdAll.same sg _ _ (DdAll.reverse hd)
end
/-! ### the rules -/
abbrev PDK (X : Cx) (E : XK) (kws : List Keyword) (t : M (List VD)) : Prop := PK X kws (liftA X.K X.wd X.mg E t)
def eMk (cls : Str) (names : List Str) (t : M (List VD)) : M VD := do let xs ← t; let ds ← toDs xs; chk (decide (ds.length = names.length)); pure (.ex (exV cls names ds))
def eMkR (cls : Str) (names : List Str) (t : M (List VD)) : M VD := do let xs ← t; let ds ← toDs xs; chk (decide (ds.length = names.length)); pure (.ex (exV cls names ds.reverse))
section
variable {X : Cx} {E : XK} {e o : Expr} {es : List Expr} {kws : List Keyword} {pos p : Pos} {x : Str} {names : List Str}
theorem k_nil : PDK X E [] (pure []) := ⟨fun _ _ _ σ H Q I q => wpAny_evalAll_nil (by
  obtain ⟨F, rs, S, G, m, p⟩ := q
  exact ⟨[], H, I, .nil, Post.ret (b := []) m p trivial⟩)⟩
theorem PK.weak {t t' : TA} (h : PK X kws t) (k : ∀ σ H Q, t' σ H Q → t σ H Q) : PK X kws t' := ⟨fun pos pins s σ H Q I q => h.run pos pins s σ H Q I (k _ _ _ q)⟩
theorem k_cons {a : M VD} {t : M (List VD)} {nm : Option Str} {kp : Pos} (ha : PD X E e a) (ht : PDK X E kws t) : PDK X E (⟨nm, e, kp⟩ :: kws) (aCons a t) := PK.weak (pk_cons ha ht) fun σ H Q q => by
  obtain ⟨F, rs, S, G, m, p⟩ := q
  refine ⟨F, rs, S, G, m, (Post.seq p).mono fun v H1 ⟨rs1, S1, G1, x, u1, m1, r1, p1⟩ => ?_⟩
  refine ⟨F, rs1, S1, G1, m1, (Post.seq p1).mono fun vs H2 ⟨rs2, S2, G2, xs, u2, m2, r2, p2⟩ => ?_⟩
  exact Post.ret (b := v :: vs) m2 p2 ⟨RdV.up u2 r1, r2⟩
theorem d_mk {t : M (List VD)} (hh : MkO X.prog X.w X.K X.mg X.base x names) (hr : Room 2 X.A) (hl : names.length ≤ 1000) (hg : Gl X x) (ht : PDA X E (e :: es) t) (hdb : (x == ("__debug__" : Str)) = false := by decide)
    (he : starEach (e :: es) X.env = (false, eval e X.env) :: starEach es X.env := by rfl) (hpl : (backTo pos (starEach es X.env)).any (·.1) = false := by rfl) : PD X E (.Call (.Name x p) (e :: es) [] pos) (eMk x names t) := by
  obtain ⟨C, fI, fd, hm, T, h1, h2, h3, h4, _, _⟩ := hh.ex
  refine PE.weak (pe_mkX (n := names.length) T h1 h2 h3 hr h4 (fun _ _ _ _ _ _ _ z => z.elim) hg hm ht hdb he hpl) fun σ H Q q => ?_
  obtain ⟨F, rs, S, G, m, p⟩ := q
  refine ⟨F, rs, S, G, m, (Post.seq p).mono fun vs H1 ⟨rs1, S1, G1, xs, u1, m1, r1, p1⟩ => ?_⟩
  obtain ⟨ds, S2, G2, sg, m2, rd, p2⟩ := m1.toDs r1 p1
  obtain ⟨hz, p3⟩ := Post.chk p2
  have hz' := of_decide_eq_true hz
  exact ⟨(DdAll.length rd).trans hz', rfl, hl, fun a ha => exNew m2 hm rd hz' p3 ha fun H3 z => ⟨rfl, z⟩⟩
theorem d_mk0 (hh : MkO X.prog X.w X.K X.mg X.base x []) (hr : Room 2 X.A) (hg : Gl X x) (hdb : (x == ("__debug__" : Str)) = false := by decide) : PD X E (.Call (.Name x p) [] [] pos) (eMk x [] (pure [])) := by
  obtain ⟨C, fI, fd, hm, T, h1, h2, h3, h4, _, _⟩ := hh.ex
  refine PE.weak (pe_mkX0 T h1 h2 h3 hr h4 (fun _ _ _ _ _ _ _ z => z.elim) hg hm hdb) fun σ H Q q => ?_
  obtain ⟨F, rs, S, G, m, p⟩ := q
  exact ⟨rfl, rfl, Nat.zero_le _, fun a ha => exNew (ds := []) m hm .nil rfl p ha fun H3 z => ⟨rfl, z⟩⟩
theorem d_mkK {t : M (List VD)} (hh : MkO X.prog X.w X.K X.mg X.base x names) (hr : Room 2 X.A) (hg : Gl X x) (ht : PDK X E kws t) (hall : (backToKw pos (keywordEach kws X.env)).all (·.1.isSome) = true := by rfl) (hks : (backToKw pos (keywordEach kws X.env)).filterMap (·.1) = names := by rfl) (hdb : (x == ("__debug__" : Str)) = false := by decide)
    (hpl : ((backTo pos (starEach [] X.env)).any (·.1) || (backToKw pos (keywordEach kws X.env)).any (·.1.isNone)) = false := by rfl) : PD X E (.Call (.Name x p) [] kws pos) (eMk x names t) := by
  obtain ⟨C, fI, fd, hm, T, h1, h2, h3, _, h4, _⟩ := hh.ex
  refine PE.weak (pe_mkXK T h1 h2 h3 hr h4 (fun _ _ _ _ _ _ _ z => z.elim) hg hm ht hall hks hdb hpl) fun σ H Q q => ?_
  obtain ⟨F, rs, S, G, m, p⟩ := q
  refine ⟨F, rs, S, G, m, (Post.seq p).mono fun vs H1 ⟨rs1, S1, G1, xs, u1, m1, r1, p1⟩ => ?_⟩
  obtain ⟨ds, S2, G2, sg, m2, rd, p2⟩ := m1.toDs r1 p1
  obtain ⟨hz, p3⟩ := Post.chk p2
  have hz' := of_decide_eq_true hz
  exact ⟨rfl, (DdAll.length rd).trans hz', Nat.zero_le _, fun a ha => exNew m2 hm rd hz' p3 ha fun H3 z => ⟨rfl, z⟩⟩
theorem d_mkKR {t : M (List VD)} (hh : MkO X.prog X.w X.K X.mg X.base x names) (hr : Room 2 X.A) (hg : Gl X x) (ht : PDK X E kws t) (hall : (backToKw pos (keywordEach kws X.env)).all (·.1.isSome) = true := by rfl) (hks : (backToKw pos (keywordEach kws X.env)).filterMap (·.1) = names.reverse := by rfl) (hdb : (x == ("__debug__" : Str)) = false := by decide)
    (hpl : ((backTo pos (starEach [] X.env)).any (·.1) || (backToKw pos (keywordEach kws X.env)).any (·.1.isNone)) = false := by rfl) : PD X E (.Call (.Name x p) [] kws pos) (eMkR x names t) := by
  obtain ⟨C, fI, fd, hm, T, h1, h2, h3, _, _, h4⟩ := hh.ex
  refine PE.weak (pe_mkXK T h1 h2 h3 hr h4 (fun _ _ _ _ _ _ _ z => z.elim) hg hm ht hall hks hdb hpl) fun σ H Q q => ?_
  obtain ⟨F, rs, S, G, m, p⟩ := q
  refine ⟨F, rs, S, G, m, (Post.seq p).mono fun vs H1 ⟨rs1, S1, G1, xs, u1, m1, r1, p1⟩ => ?_⟩
  obtain ⟨ds, S2, G2, sg, m2, rd, p2⟩ := m1.toDs r1 p1
  obtain ⟨hz, p3⟩ := Post.chk p2
  have hz' := of_decide_eq_true hz
  exact ⟨rfl, by rw [List.length_reverse]; exact (DdAll.length rd).trans hz', Nat.zero_le _, fun a ha => exNew (ds := ds.reverse) m2 hm (DdAll.reverse rd) (by rw [List.length_reverse]; exact hz') p3 ha fun H3 z => ⟨rfl, z⟩⟩
end
end DL
/-! DL14: exceptions: fields, isinstance, lists of them, for over these; repr. -/
namespace DL
open PySem PySem.Spec L2 EX
variable [TabT]

/-- the classes of the module: name, fields -/
structure ClsTb (K : PySem.W.Frag) (mg : Str → Option Value) (tb : List (Str × List Str)) : Prop where
  ok : ∀ (c : Str) (ns : List Str) (C : Addr), tb.lookup c = some ns → mg c = some (.ref C) → XcE K C ∧ ∀ n ∈ ns, W.findIn K (.ref C) n = some none
theorem look_cons {β : Type} (f g : Str) (y : β) (fs : List (Str × β)) : ((f, y) :: fs).lookup g = if g = f then some y else fs.lookup g := by
  by_cases h : g = f
  · subst h; simp [List.lookup]
  · have e : (g == f) = false := beq_eq_false_iff_ne.mpr h
    rw [if_neg h]; simp [List.lookup, e]
section
variable {K : PySem.W.Frag} {G : Hp}
theorem zip_lookup {n : Str} {d : PyData} : ∀ {fs : List (Str × PyData)} {vs : List V}, DdAll K G vs (fs.map (·.2)) → fs.lookup n = some d → ∃ v, ((fs.map (·.1)).zip vs).lookup n = some v ∧ Dd K G v d
  | [], _, _, h => by cases h
  | (m, e) :: fs, _, .cons (v := v) hv ht, h => by
    rw [look_cons] at h
    show ∃ w, ((m, v) :: (fs.map (·.1)).zip _).lookup n = some w ∧ Dd K G w d
    rw [look_cons]
    by_cases hn : n = m
    · rw [if_pos hn] at h ⊢
      cases h
      exact ⟨v, rfl, hv⟩
    · rw [if_neg hn] at h ⊢
      exact zip_lookup ht h
end
def eGet (tb : List (Str × List Str)) (n : Str) (te : M VD) : M VD := do
  let x ← te
  match x with
  | .ex e => do
    let ns ← ofO (tb.lookup e.1)
    chk (decide (n ∈ ns))
    let d ← ofO (e.2.lookup n)
    pure (.dat d)
  | _ => M.bad
/-- isinstance(e, c): which classes of tb are a c -/
def eIsX (tb : List (Str × List Str)) (isA : Str → Bool) (te : M VD) : M VD := do
  let x ← te
  match x with
  | .ex e => do
    let _ ← ofO (tb.lookup e.1)
    pure (.dat (.bool (isA e.1)))
  | _ => M.bad
def allEx : List VD → Option (List (Str × List (Str × PyData)))
  | [] => some []
  | .ex e :: xs => (allEx xs).map (e :: ·)
  | _ :: _ => none
def eLstX (t : M (List VD)) : M VD := do let xs ← t; let es ← ofO (allEx xs); chk (decide (es.length ≤ 1000)); pure (.exs es)
section
variable {X : Cx} {E : XK} {e a : Expr} {es : List Expr} {pos p : Pos} {tb : List (Str × List Str)} {n : Str}
theorem d_getx {te : M VD} (hT : ClsTb X.K X.mg tb) (he : PD X E e te) (hb : attributeBase e n X.env (eval e X.env) = eval e X.env := by rfl) : PD X E (.Attribute e n pos) (eGet tb n te) := PE.weak (pe_getX he hb) fun σ H Q q => by
  obtain ⟨F, rs, S, G, m, p⟩ := q
  refine ⟨F, rs, S, G, m, (Post.seq p).mono fun v H1 ⟨rs1, S1, G1, x, u1, m1, r1, p1⟩ => ?_⟩
  cases x with
  | ex e =>
    obtain ⟨ns, hns, p2⟩ := Post.ofO p1
    obtain ⟨hc, p3⟩ := Post.chk p2
    obtain ⟨d, hd, p4⟩ := Post.ofO p3
    obtain ⟨a, C, dd, rfl, hm, ha, hf⟩ := r1
    obtain ⟨T, hT⟩ := hT.ok e.1 ns C hns hm
    rcases hf with ⟨_, h0⟩ | ⟨dx, vs, rfl, hx, hv⟩
    · rw [h0] at hd; cases hd
    · obtain ⟨w, hw, rw'⟩ := zip_lookup hv hd
      exact ⟨a, C, dx, _, w, rfl, T, hT n (of_decide_eq_true hc), m1.sub _ _ ha, m1.sub _ _ hx, hw, Post.ret m1 p4 rw'⟩
  | _ => exact p1.elim
theorem d_isX {t : Expr} {ta : M VD} {cv : V} {u : Value} {isA : Str → Bool} (hT : ClsTb X.K X.mg tb) (hk : ∀ (c : Str) (ns : List Str) (C : Addr), tb.lookup c = some ns → X.mg c = some (.ref C) → W.kitOne X.K (.ref C) u = some (isA c)) (hc : ClsV cv u)
    (ha : PD X E a ta) (ht : PE X t (tC cv)) (hm : X.mg "isinstance" = none) (hg : Gl X "isinstance" := by rfl)
    (hs : starEach [a, t] X.env = (false, eval a X.env) :: starEach [t] X.env := by rfl) (hs2 : starEach [t] X.env = (false, eval t X.env) :: starEach [] X.env := by rfl) (hpl : (backTo pos (starEach [t] X.env)).any (·.1) = false := by rfl) :
    PD X E (.Call (.Name "isinstance" p) [a, t] [] pos) (eIsX tb isA ta) := PE.weak (pe_callB call_isX hg hm (by decide +kernel) (pa_cons ha (pa_cons ht pa_nil hs2) hs) (he := hs) (hpl := hpl)) fun σ H Q q => by
  obtain ⟨F, rs, S, G, m, p⟩ := q
  refine ⟨F, rs, S, G, m, (Post.seq p).mono fun v H1 ⟨rs1, S1, G1, x, u1, m1, r1, p1⟩ => ?_⟩
  cases x with
  | ex e =>
    obtain ⟨ns, hns, p2⟩ := Post.ofO p1
    obtain ⟨a, C, dd, rfl, hm', ha, hf⟩ := r1
    refine ⟨a, C, dd, cv, u, isA e.1, rfl, hc, (hT.ok e.1 ns C hns hm').1, m1.sub _ _ ha, ?_, hk e.1 ns C hns hm', Post.ret m1 p2 (.bl _)⟩
    rcases hf with ⟨h0, _⟩ | ⟨dx, vs, h0, hx, _⟩
    · exact .inl h0
    · exact .inr ⟨dx, _, h0, m1.sub _ _ hx⟩
  | _ => exact p1.elim
theorem rdxs_of {rs : List Addr} {G : Hp} : ∀ {xs : List VD} {vs : List V} {es : List (Str × List (Str × PyData))}, RdVs X.K X.wd rs G xs vs → allEx xs = some es → RdXs X.K X.wd G es vs
  | [], [], _, _, h => by cases h; trivial
  | [], _ :: _, _, r, _ => r.elim
  | .ex e :: xs, v :: vs, es, r, h => by
    have h' : (allEx xs).map (e :: ·) = some es := h
    cases q : allEx xs with
    | none => rw [q] at h'; cases h'
    | some es' =>
      rw [q] at h'; cases h'
      exact ⟨r.1, rdxs_of r.2 q⟩
  | .dat _ :: _, _, _, _, h => by cases h
  | .rf _ :: _, _, _, _, h => by cases h
  | .bag _ :: _, _, _, _, h => by cases h
  | .st _ :: _, _, _, _, h => by cases h
  | .exs _ :: _, _, _, _, h => by cases h
  | .oth _ :: _, _, _, _, h => by cases h
  | .ex _ :: _, [], _, r, _ => r.elim
theorem RdXs.length {K : PySem.W.Frag} {wl : Wd} {G : Hp} : ∀ {es : List (Str × List (Str × PyData))} {vs : List V}, RdXs K wl G es vs → es.length = vs.length
  | [], [], _ => rfl
  | _ :: _, _ :: _, h => by simp [RdXs.length h.2]
  | [], _ :: _, h => h.elim
  | _ :: _, [], h => h.elim
theorem d_lstX {t : M (List VD)} (ht : PDA X E es t) : PD X E (.List es pos) (eLstX t) := PE.weak (pe_lst ht) fun σ H Q q => by
  obtain ⟨F, rs, S, G, m, p⟩ := q
  refine ⟨F, rs, S, G, m, (Post.seq p).mono fun vs H1 ⟨rs1, S1, G1, xs, u1, m1, r1, p1⟩ => ?_⟩
  obtain ⟨es', he, p2⟩ := Post.ofO p1
  obtain ⟨hz, p3⟩ := Post.chk p2
  have hx := rdxs_of r1 he
  refine ⟨by rw [← RdXs.length hx]; exact sz1000 (of_decide_eq_true hz), fun q hq => ?_⟩
  have gq : G1 q = none := L2.Same.free m1.sub hq
  exact p3 (.ref q) _ (upd G1 q (.lst vs)) rs1 ⟨⟨[], by simp⟩, same_upd gq⟩ (m1.new hq) ⟨q, vs, rfl, .inl (.inl upd_same), RdXs.same (same_upd gq) hx⟩

/-! ### for over a list of exceptions -/
structure SrcX (K : PySem.W.Frag) (wl : Wd) (J : It) (G0 : Hp) (es : List (Str × List (Str × PyData))) : Prop where
  stop : ∀ (H G : Hp), Same G0 G → Same G H → J.stop es.length H
  go : ∀ (i : Nat) (H G : Hp), i < es.length → Same G0 G → Same G H → J.go i H
  yld : ∀ (i : Nat) (H G : Hp) (x : V) (H' : Hp), i < es.length → Same G0 G → Same G H → J.yld i H x H' → H' = H ∧ ∃ e, es[i]? = some e ∧ RdX K wl G e x
theorem RdXs.get {K : PySem.W.Frag} {wl : Wd} {G : Hp} : ∀ {es : List (Str × List (Str × PyData))} {vs : List V} {i : Nat} {v : V}, RdXs K wl G es vs → vs[i]? = some v → ∃ e, es[i]? = some e ∧ RdX K wl G e v
  | _ :: _, _ :: _, 0, _, h, e => by simp at e; subst e; exact ⟨_, rfl, h.1⟩
  | _ :: _, _ :: _, i + 1, v, h, e => by
    obtain ⟨d, h1, h2⟩ := RdXs.get (i := i) (v := v) h.2 (by simpa using e)
    exact ⟨d, by simpa using h1, h2⟩
  | [], [], _, _, _, e => by simp at e
  | [], _ :: _, _, _, h, _ => h.elim
  | _ :: _, [], _, _, h, _ => h.elim
def srcX (t : M VD) : M (List (Str × List (Str × PyData))) := do
  let x ← t
  match x with
  | .exs es => pure es
  | _ => M.bad
abbrev PDIX (X : Cx) (E : XK) (tg iter : Expr) (src : M (List (Str × List (Str × PyData)))) : Prop := PI X tg iter (lift X.K X.wd X.mg E (fun _ G es J => SrcX X.K X.wd J G es) src)
theorem i_exs {tg l : Expr} {t : M VD} (hl : PD X E l t) : PDIX X E tg l (srcX t) := by
  refine ⟨fun pins s σ H R I h => ?_⟩; obtain ⟨F, rs, S, G, m, p⟩ := h
  refine thn (hl.run pins s σ H _ I ⟨F, rs, S, G, m, Post.seq p⟩) fun v s1 ⟨x, H1, I1, r1, rs1, S1, G1, xd, u1, m1, rx, p1⟩ => ?_
  cases xd with
  | exs es =>
    obtain ⟨a, xs, rfl, hs, hx⟩ := rx
    cases r1
    have hq : SqL X.K H1 a xs := L2.Same.seq m1.sub hs; obtain ⟨its, rv, p', hz⟩ := I1.list hq
    refine wpAny_pyIter_list p'.isList ⟨s1.heap.objs.size, [s1.heap.objs.size], _, Itl X.K a, H1, rfl, I1.kept (t' := s1.toks) fun b o e => Heap.get?_push_of_some _ e, turn_list a _, ⟨_, Heap.get?_push_size _ rfl, rfl, rfl⟩, fun b hb => ?_, ?_⟩
    · obtain rfl : b = s1.heap.objs.size := List.mem_singleton.mp hb; exact I1.fpOk (Nat.le_refl _) (I1.hok.fresh (Nat.le_refl _))
    · refine p1 (Itl X.K a) H1 G1 rs1 Up.refl m1 ⟨fun H G s1 s2 => ⟨xs, L2.Same.seq s2 (L2.Same.seq s1 hs), Nat.le_of_eq (RdXs.length hx).symm⟩, fun i H G hi s1 s2 => ?_, fun i H G x H' hi s1 s2 y => ?_⟩
      · have hi' : i < xs.length := by rw [← RdXs.length hx]; exact hi
        exact ⟨xs, xs[i], L2.Same.seq s2 (L2.Same.seq s1 hs), List.getElem?_eq_getElem hi'⟩
      · obtain ⟨e, y⟩ := y
        obtain ⟨d, h1, h2⟩ := RdXs.get hx (y xs (L2.Same.seq s2 (L2.Same.seq s1 hs)))
        exact ⟨e, d, h1, RdX.same s1 h2⟩
  | _ => exact p1.elim
def forX (g : VD → M Unit) (body : MS) : List (Str × List (Str × PyData)) → MS
  | [] => pure .nx
  | e :: es => do
    let _ ← noX (g (.ex e))
    let f ← body
    match f with
    | .nx => forX g body es
    | .ct => forX g body es
    | .bk => pure .nx
    | .rt x => pure (.rt x)
def sForX (src : M (List (Str × List (Str × PyData)))) (g : VD → M Unit) (body : MS) : MS := do let es ← src; forX g body es
theorem s_forX {tg iter : Expr} {body : List Stmt} {src : M (List (Str × List (Str × PyData)))} {g : VD → M Unit} {t : MS} (hp : PassesOwn (model X.prog X.w) X.A X.env X.xe) (hc : X.calm = true) (hi : PDIX X E tg iter src) {is : List Nat} (hg : PDG X is tg g) (hb : PDSs X E body t)
    (hs : ∀ x, foldedSetIterable iter X.env x = pure x := by intro _; rfl) : PDS X E (.For tg iter body [] pos) (sForX src g t) := PS.weak (ps_for hp hc hi hg hb hs) fun D σ H q => by
  obtain ⟨F, rs, S, G, m, p⟩ := q
  refine ⟨F, rs, S, G, m, (PostS.expr p).mono fun J H1 ⟨rs1, S1, G1, es, u1, m1, r1, p1⟩ => ?_⟩
  refine ⟨fun i n σ' H' => n = es.length - i ∧ i ≤ es.length ∧ ∃ rs2 S2 G2, Up rs1 G1 rs2 G2 ∧ Md X.K X.wd F rs2 S2 σ' H' G2 ∧ PostS X.K X.wd X.mg E F rs2 G2 (forX g t (es.drop i) S2) D, ⟨es.length, by simp, by simp, rs1, S1, G1, Up.refl, m1, by simpa using p1⟩, ?_⟩
  rintro i n σ' H' ⟨rfl, hi, rs2, S2, G2, u2, m2, p2⟩
  by_cases hlt : i < es.length
  · refine .inr ⟨r1.go i H' G2 hlt u2.2 m2.sub, fun σ'' H'' => ∃ rs3 S3 G3, Up rs1 G1 rs3 G3 ∧ Md X.K X.wd F rs3 S3 σ'' H'' G3 ∧ PostS X.K X.wd X.mg E F rs3 G3 (forX g t (es.drop (i + 1)) S3) D,
      fun σ'' H'' ⟨rs3, S3, G3, u3, m3, p3⟩ => ⟨es.length - (i + 1), by omega, rfl, hlt, rs3, S3, G3, u3, m3, p3⟩, fun x H'' y => ?_⟩
    obtain ⟨rfl, d, hd, rd⟩ := r1.yld i H' G2 x H'' hlt u2.2 m2.sub y
    refine ⟨F, rs2, S2, G2, .ex d, m2, rd, ?_⟩
    have hdrop : es.drop i = d :: es.drop (i + 1) := by
      rw [List.drop_eq_getElem_cons hlt]; congr 1
      have z := List.getElem?_eq_getElem hlt
      rw [hd] at z; exact (Option.some.inj z).symm
    rw [hdrop] at p2
    unfold forX at p2
    rw [M.bind_run] at p2
    unfold noX at p2
    cases e : g (.ex d) S2 with
    | exc _ _ => rw [e] at p2; exact p2.elim
    | bad => rw [e] at p2; exact p2.elim
    | ok q =>
      rw [e] at p2
      simp only [R.bind] at p2
      intro σ4 H4 G4 rs4 u4 m4 _
      refine ⟨F, rs4, q.2, G4, m4, ?_⟩
      rw [M.bind_run] at p2
      cases e2 : t q.2 with
      | bad => rw [e2] at p2; exact p2.elim
      | exc x S' =>
        rw [e2] at p2
        exact PostS.up (r := .exc x S') u4 p2
      | ok w =>
        rw [e2] at p2
        obtain ⟨f, S5⟩ := w
        intro σ5 H5 G5 rs5 u5 m5
        have up5 := u4.trans u5
        cases f with
        | nx => exact ⟨rs5, S5, G5, u2.trans up5, m5, PostS.up up5 p2⟩
        | ct => exact ⟨rs5, S5, G5, u2.trans up5, m5, PostS.up up5 p2⟩
        | bk => exact p2 σ5 H5 G5 rs5 up5 m5
        | rt x => exact p2 σ5 H5 G5 rs5 up5 m5
  · have e : i = es.length := by omega
    subst e
    refine .inl ⟨r1.stop H' G2 u2.2 m2.sub, ?_⟩
    rw [List.drop_length] at p2
    exact p2 σ' H' G2 rs2 Up.refl m2
end
end DL
/-! DL15: repr of lists and tuples. -/
namespace DL
open PySem PySem.Spec L2
variable [TabT]
def reprD (d : PyData) : Option Str := if d.showable && !d.hasDict && decide (d.depth ≤ 100) && decide (d.shown.length ≤ 16777216) then
    match d with
    | .list _ => some d.shown
    | .tuple _ => some d.shown
    | _ => none
  else none
def rRepr (K : PySem.W.Frag) : List V → Hp → VK → Prop := fun xs H Q => ∃ (x : V) (d : PyData) (y : Str), xs = [x] ∧ Dd K H x d ∧ reprD d = some y ∧ Q (.str y) H
theorem reprD_ref {K : PySem.W.Frag} {H : Hp} {x : V} {d : PyData} {y : Str} (h : reprD d = some y) (hd : Dd K H x d) : (∃ a, x = .ref a) ∧ d.showable = true ∧ d.hasDict = false ∧ d.depth ≤ 100 ∧ d.shown.length ≤ 16777216 ∧ y = d.shown := by
  unfold reprD at h
  split at h
  · rename_i c
    simp only [Bool.and_eq_true, decide_eq_true_eq, Bool.not_eq_true'] at c
    refine ⟨?_, c.1.1.1, c.1.1.2, c.1.2, c.2, ?_⟩
    · cases hd with
      | lst _ _ => exact ⟨_, rfl⟩
      | tup _ _ => exact ⟨_, rfl⟩
      | _ => cases h
    · cases hd <;> first | cases h | skip
      all_goals rfl
  · cases h
theorem c_repr {X : Cx} (hgd : X.A.guards = some []) (hu : X.A.units + 200 < cLine) : CallR X (.builtin "repr") (rRepr X.K) := by
  rintro pins s σ H xs us Q I r ⟨x, d, y, rfl, hd, hy, q⟩
  obtain ⟨u, rfl, ru⟩ := vals1 r; obtain ⟨⟨a, rfl⟩, h1, h2, h3, h4, rfl⟩ := reprD_ref hy hd
  cases ru
  obtain ⟨as, rd⟩ := Dd.reads I d (.ref a) (.ref a) hd rfl
  exact repr_of_reads' rd h1 (PyData.noDict_hsm h2) hgd (by omega) (fun _ _ z => z) (fun h' u tk hk => ⟨.str d.shown, H, I.kept (t' := tk) fun b o z => hk b o z, ⟨u, rfl⟩, q⟩) (by rw [sizeLine_eq]; omega)
def eRepr (t : M VD) : M VD := do let x ← t; let d ← peek x; let y ← ofO (reprD d); pure (.dat (.str y))
theorem d_repr {X : Cx} {E : XK} {a : Expr} {pos p : Pos} {ta : M VD} (hgd : X.A.guards = some []) (hu : X.A.units + 200 < cLine) (ha : PD X E a ta) (hm : X.mg "repr" = none) (hg : Gl X "repr" := by rfl)
    (hs : starEach [a] X.env = (false, eval a X.env) :: starEach [] X.env := by rfl) (hpl : (backTo pos (starEach [] X.env)).any (·.1) = false := by rfl) : PD X E (.Call (.Name "repr" p) [a] [] pos) (eRepr ta) := PE.weak (pe_callB (c_repr hgd hu) hg hm (by decide +kernel) (pa_cons ha pa_nil hs) (he := hs) (hpl := hpl)) fun σ H Q q => by
  obtain ⟨F, rs, S, G, m, p⟩ := q
  refine ⟨F, rs, S, G, m, (Post.seq p).mono fun v H1 ⟨rs1, S1, G1, x, u1, m1, r1, p1⟩ => ?_⟩
  obtain ⟨d, hd, p2⟩ := Post.peek p1
  obtain ⟨y, hy, p3⟩ := Post.ofO p2
  exact ⟨v, d, y, rfl, m1.peek r1 hd, hy, Post.ret m1 p3 (.str y)⟩
end DL
/-! DL16: the classes' __init__, from the text. -/
namespace DL
open PySem PySem.Spec L2 EX
variable [TabT]
/-- the first def of a class of the text -/
def clsInit (s : Stmt) : Stmt := match s with
  | .ClassDef _ _ _ (b :: _) _ _ _ _ _ _ _ => b
  | _ => .Pass ⟨0, 0, 0, 0⟩
/-! ### the base's __init__(self), as RuntimeError.__init__(self) -/
def tBI (K : PySem.W.Frag) (newId : String) (bmB : List Value) (ta : TA) : TE := fun σ H Q => ta σ H fun vs H1 => ∃ a C : Addr, vs = [.ref a] ∧ Xc K C newId bmB ∧ H1 a = some (exo a C none) ∧ Q .non H1
theorem boot_RE : bootBuiltins "RuntimeError" = some (.type "RuntimeError") := by decide +kernel
theorem typ_RE : typeOf (.type "RuntimeError") = pure (.type "type") := by kernel_rfl
open PyProof.Rows in
theorem pe_reinit {X : Cx} {e : Expr} {ta : TA} {p1 p2 pos : Pos} {pl : Sem Bool} (hg : Gl X "RuntimeError") (hm : X.mg "RuntimeError" = none) (vV : PySem.W.findCls X.K (.type "RuntimeError") (.type "type") "__init__" = some (.val (.builtin "RuntimeError.__init__"))) (ha : PA X [e] ta)
    (hc : eval (.Call (.Attribute (.Name "RuntimeError" p1) "__init__" p2) [e] [] pos) X.env = (do let ov ← eval (.Name "RuntimeError" p1) X.env; standAt p2.atName; let (f, first) ← holding [ov] (getMethod ov "__init__" pl); callWith pos f first (backTo pos (starEach [e] X.env)) (backToKw pos (keywordEach [] X.env))) := by rfl)
    (he : starEach [e] X.env = (false, eval e X.env) :: starEach [] X.env := by rfl) (hpl : (backTo pos (starEach [] X.env)).any (·.1) = false := by rfl) :
    PE X (.Call (.Attribute (.Name "RuntimeError" p1) "__init__" p2) [e] [] pos) (tBI X.K "RuntimeError.__new__" [.type "RuntimeError", .type "Exception", .type "BaseException", .type "object"] ta) := by
  refine ⟨fun pins s σ H Q I h => PySem.W.methodCall_KW (ld_blt I hg hm boot_RE ?_ (by decide) (by decide)) hc⟩
  obtain ⟨m, fr⟩ := I.fr
  refine PySem.W.method_type fr I.ok.mod.kin typ_RE (by decide +kernel) vV (by decide +kernel) ?_
  show wpAny _ _ (callWith pos (Value.builtin "RuntimeError.__init__") [] (backTo pos (starEach [e] X.env)) []) _ _ _
  refine PyProof.Rows.callWith_method1 (thn (ha.run pos pins _ σ H _ (I.tok _) h) fun us s1 z => ?_) he hpl
  obtain ⟨vs, H1, I1, r1, a, C, ev, T, ea, q⟩ := z
  subst ev; obtain ⟨u, rfl, ru⟩ := vals1 r1
  cases ru
  exact baseInit (us := []) eb_RE T I1 ea (Nat.zero_le _) fun s' J => ⟨.non, H1, J, rfl, q⟩
theorem ini0 {K : PySem.W.Frag} {C : Addr} (T : Xc K C "RuntimeError.__new__" [.type "RuntimeError", .type "Exception", .type "BaseException", .type "object"]) {vs : List V} {H : Hp} {Q : VK} {E : XK} (h : iniSp C [] vs H Q E) :
    tDrop (tBI K "RuntimeError.__new__" [.type "RuntimeError", .type "Exception", .type "BaseException", .type "object"] (tCons (tVar 0) tNil)) { nx := fun _ H' => Q .non H', rt := Q } (L2.start ["self"] vs) H := by
  obtain ⟨a, ys, rfl, hl, ha, h⟩ := h
  obtain rfl : ys = [] := List.length_eq_zero_iff.mp hl
  rcases h with ⟨_, h⟩ | h
  · exact ⟨.ref a, rfl, a, C, rfl, T, ha, h⟩
  · exact (h.1 rfl).elim
/-! ### how the arguments bind -/
section
variable {P : Program} {w : World} {K : PySem.W.Frag} {mg : Str → Option Value} {base : Heap} {cls n m qual : Str} {st : Stmt} {fI C : Addr} {fd : FuncData}
abbrev initFn (qual : Str) (st : Stmt) (kV doc pm : Value) (an : Option Addr) (cdv ct : Value) : FuncData := PySem.W.fnOf "__init__" qual (defArgs st) (defBody st) (defScope st) .none kV doc pm an cdv ct
theorem mko1 (Fn : Fun K "__init__" qual st fI fd) (hm : mg cls = some (.ref C)) (T : XcE K C) (iC : W.findIn K (.ref C) "__init__" = some (some (.ref fI))) (tI : W.typeIn K (.ref fI) = some (.type "function")) (F1 : FnOk P w K mg base CX0 1 fI fd [("self" : Str), n] (iniSp C [n]))
    (b0 : ∀ (kV doc pm : Value) (an : Option Addr) (cdv ct u v : Value), bindArgs (initFn qual st kV doc pm an cdv ct) ⟨[u, v], []⟩ = pure [(("self" : Str), u), (n, v)])
    (b1 : ∀ (kV doc pm : Value) (an : Option Addr) (cdv ct u v : Value), bindArgs (initFn qual st kV doc pm an cdv ct) ⟨[u], [(n, v)]⟩ = pure [(("self" : Str), u), (n, v)]) : MkO P w K mg base cls [n] := by
  obtain ⟨oc, od, kV, doc, pm, an, cdv, ct, osl, rfl, lk, hcd⟩ := Fn.ex
  refine ⟨⟨C, fI, _, hm, T, iC, tI, F1, ⟨fun s us ws _ l1 l2 => ?_, fun r _ => r⟩, ⟨fun s us ws _ l1 l2 => ?_, fun r r2 => r.append r2⟩, ⟨fun s us ws _ l1 l2 => ?_, fun r r2 => r.append r2.reverse⟩⟩⟩
  · match us, l1 with
    | [u, v], _ => exact .of_eq (b0 _ _ _ _ _ _ u v)
  · match us, l1, ws, l2 with
    | [u], _, [v], _ => exact .of_eq (b1 _ _ _ _ _ _ u v)
  · match us, l1, ws, l2 with
    | [u], _, [v], _ => exact .of_eq (b1 _ _ _ _ _ _ u v)
theorem mko2 (Fn : Fun K "__init__" qual st fI fd) (hm : mg cls = some (.ref C)) (T : XcE K C) (iC : W.findIn K (.ref C) "__init__" = some (some (.ref fI))) (tI : W.typeIn K (.ref fI) = some (.type "function")) (F1 : FnOk P w K mg base CX0 1 fI fd [("self" : Str), n, m] (iniSp C [n, m]))
    (b0 : ∀ (kV doc pm : Value) (an : Option Addr) (cdv ct u v x : Value), bindArgs (initFn qual st kV doc pm an cdv ct) ⟨[u, v, x], []⟩ = pure [(("self" : Str), u), (n, v), (m, x)])
    (b1 : ∀ (kV doc pm : Value) (an : Option Addr) (cdv ct u v x : Value), bindArgs (initFn qual st kV doc pm an cdv ct) ⟨[u], [(n, v), (m, x)]⟩ = pure [(("self" : Str), u), (n, v), (m, x)])
    (b2 : ∀ (kV doc pm : Value) (an : Option Addr) (cdv ct u v x : Value), bindArgs (initFn qual st kV doc pm an cdv ct) ⟨[u], [(m, x), (n, v)]⟩ = pure [(("self" : Str), u), (n, v), (m, x)]) : MkO P w K mg base cls [n, m] := by
  obtain ⟨oc, od, kV, doc, pm, an, cdv, ct, osl, rfl, lk, hcd⟩ := Fn.ex
  refine ⟨⟨C, fI, _, hm, T, iC, tI, F1, ⟨fun s us ws _ l1 l2 => ?_, fun r _ => r⟩, ⟨fun s us ws _ l1 l2 => ?_, fun r r2 => r.append r2⟩, ⟨fun s us ws _ l1 l2 => ?_, fun r r2 => r.append r2.reverse⟩⟩⟩
  · match us, l1 with
    | [u, v, x], _ => exact .of_eq (b0 _ _ _ _ _ _ u v x)
  · match us, l1, ws, l2 with
    | [u], _, [v, x], _ => exact .of_eq (b1 _ _ _ _ _ _ u v x)
  · match us, l1, ws, l2 with
    | [u], _, [x, v], _ => exact .of_eq (b2 _ _ _ _ _ _ u v x)
theorem mko0 (Fn : Fun K "__init__" qual st fI fd) (hm : mg cls = some (.ref C)) (T : XcE K C) (iC : W.findIn K (.ref C) "__init__" = some (some (.ref fI))) (tI : W.typeIn K (.ref fI) = some (.type "function")) (F1 : FnOk P w K mg base CX0 1 fI fd [("self" : Str)] (iniSp C []))
    (b0 : ∀ (kV doc pm : Value) (an : Option Addr) (cdv ct u : Value), bindArgs (initFn qual st kV doc pm an cdv ct) ⟨[u], []⟩ = pure [(("self" : Str), u)]) : MkO P w K mg base cls [] := by
  obtain ⟨oc, od, kV, doc, pm, an, cdv, ct, osl, rfl, lk, hcd⟩ := Fn.ex
  refine ⟨⟨C, fI, _, hm, T, iC, tI, F1, ⟨fun s us ws _ l1 l2 => ?_, fun r _ => r⟩, ⟨fun s us ws _ l1 l2 => ?_, fun r r2 => r.append r2⟩, ⟨fun s us ws _ l1 l2 => ?_, fun r r2 => r.append r2.reverse⟩⟩⟩
  · match us, l1 with
    | [u], _ => exact .of_eq (b0 _ _ _ _ _ _ u)
  · match us, l1, ws, l2 with
    | [u], _, [], _ => exact .of_eq (b0 _ _ _ _ _ _ u)
  · match us, l1, ws, l2 with
    | [u], _, [], _ => exact .of_eq (b0 _ _ _ _ _ _ u)
end
end DL
/-! DL17: isinstance of an exception, by the class's name. -/
namespace DL
open PySem PySem.Spec L2 EX
variable [TabT]
/-- of the classes of tb, C itself alone is a C -/
def IsO (K : PySem.W.Frag) (mg : Str → Option Value) (tb : List (Str × List Str)) (C : Str) : Prop := ∃ Cc : Addr, mg C = some (.ref Cc) ∧ ∀ (c : Str) (ns : List Str) (D : Addr), tb.lookup c = some ns → mg c = some (.ref D) → W.kitOne K (.ref D) (.ref Cc) = some (decide (c = C))
/-- which of the classes of tb are a T -/
def IsB (K : PySem.W.Frag) (mg : Str → Option Value) (tb : List (Str × List Str)) (isA : Str → Bool) (T : String) : Prop := ∀ (c : Str) (ns : List Str) (D : Addr), tb.lookup c = some ns → mg c = some (.ref D) → W.kitOne K (.ref D) (.type T) = some (isA c)
section
variable {X : Cx} {E : XK} {a : Expr} {pos p pt : Pos} {tb : List (Str × List Str)} {ta : M VD}
theorem d_isO {C : Str} (hT : ClsTb X.K X.mg tb) (hC : IsO X.K X.mg tb C) (ha : PD X E a ta) (hm : X.mg "isinstance" = none) (hg : Gl X "isinstance" := by rfl) (hgC : Gl X C := by rfl) (hdC : (C == ("__debug__" : Str)) = false := by decide)
    (hs : starEach [a, .Name C pt] X.env = (false, eval a X.env) :: starEach [.Name C pt] X.env := by rfl) (hs2 : starEach [.Name C pt] X.env = (false, eval (.Name C pt) X.env) :: starEach [] X.env := by rfl) (hpl : (backTo pos (starEach [.Name C pt] X.env)).any (·.1) = false := by rfl) :
    PD X E (.Call (.Name "isinstance" p) [a, .Name C pt] [] pos) (eIsX tb (fun c => decide (c = C)) ta) := by
  obtain ⟨Cc, hm2, hk⟩ := hC
  exact d_isX hT hk (.own Cc) ha (pe_glob hgC hm2 rfl hdC) hm hg hs hs2 hpl
theorem d_isB {T : Str} {T' : String} {isA : Str → Bool} (hT : ClsTb X.K X.mg tb) (hB : IsB X.K X.mg tb isA T') (hv : bootBuiltins T = some (.type T')) (hmT : X.mg T = none) (ha : PD X E a ta) (hm : X.mg "isinstance" = none) (hg : Gl X "isinstance" := by rfl) (hgC : Gl X T := by rfl) (hn : T ≠ "__name__" := by decide) (hdC : (T == ("__debug__" : Str)) = false := by decide)
    (hs : starEach [a, .Name T pt] X.env = (false, eval a X.env) :: starEach [.Name T pt] X.env := by rfl) (hs2 : starEach [.Name T pt] X.env = (false, eval (.Name T pt) X.env) :: starEach [] X.env := by rfl) (hpl : (backTo pos (starEach [.Name T pt] X.env)).any (·.1) = false := by rfl) :
    PD X E (.Call (.Name "isinstance" p) [a, .Name T pt] [] pos) (eIsX tb isA ta) := d_isX hT hB (.ty T') ha (pe_bltn hgC hmT hv rfl hn hdC) hm hg hs hs2 hpl
end
end DL
/-! DL18: what the written part says of the module's own exception classes, as one check. -/
namespace DL
open PySem PySem.Spec L2 EX
variable [TabT]
/-- a class: name, fields, its built-in base (0 ValueError, 1 RuntimeError, 2 OverflowError), where it stands -/
abbrev ClsE := Str × List Str × Nat × Addr
def xcB (K : PySem.W.Frag) (C : Addr) (newId : String) (bmB : List Value) : Bool :=
  W.excInitIn K C bmB newId && (W.excOver K C bmB && (W.hasDictIn K C && (decide (W.findIn K (.ref C) "__setattr__" = some (some (.builtin "object.__setattr__"))) && (decide (W.subIn K (.ref C) (.type "BaseException") = some true) && (decide (W.typeIn K (.ref C) = some (.type "type")) && (W.keepIn K (.ref C) &&
  (decide (W.findIn K (.ref C) "__getattribute__" = some (some (.builtin "BaseException.__getattribute__"))) && (decide (W.findIn K (.ref C) "__getattr__" = some none) && (decide (W.findIn K (.ref C) "__class__" = some (some (.builtin "object.__class__"))) &&
  (decide (W.specialIn K (.builtin "object.__class__") "__get__" = some (some (.builtin "getset_descriptor.__get__"))) && (decide (W.takesIn K (.builtin "object.__class__") = some true) && decide (W.mroIn K C (.type "object") = some true))))))))))))
theorem xcB_ok {K : PySem.W.Frag} {C : Addr} {newId : String} {bmB : List Value} (h : xcB K C newId bmB = true) : Xc K C newId bmB := by
  unfold xcB at h; simp only [Bool.and_eq_true, decide_eq_true_eq] at h
  obtain ⟨h1, h2, h3, h4, h5, h6, h7, h8, h9, h10, h11, h12, h13⟩ := h
  exact ⟨h1, h2, h3, h4, h5, h6, h7, h8, h9, h10, h11, h12, h13⟩
def mroOfB : Nat → List Value
  | 0 => [.type "ValueError", .type "Exception", .type "BaseException", .type "object"]
  | 1 => [.type "RuntimeError", .type "Exception", .type "BaseException", .type "object"]
  | _ => [.type "OverflowError", .type "ArithmeticError", .type "Exception", .type "BaseException", .type "object"]
def newOfB : Nat → String
  | 0 => "ValueError.__new__"
  | 1 => "RuntimeError.__new__"
  | _ => "OverflowError.__new__"
theorem xc_of {K : PySem.W.Frag} {C : Addr} {b : Nat} (h : Xc K C (newOfB b) (mroOfB b)) : XcE K C := by
  match b, h with
  | 0, h => exact ⟨_, _, _, _, eb_VE, h⟩
  | 1, h => exact ⟨_, _, _, _, eb_RE, h⟩
  | _ + 2, h => exact ⟨_, _, _, _, eb_OE, h⟩
def clsB (K : PySem.W.Frag) (p : ClsE) : Bool := xcB K p.2.2.2 (newOfB p.2.2.1) (mroOfB p.2.2.1) && p.2.1.all fun n => decide (W.takerIn K p.2.2.2 n = some none) && decide (W.findIn K (.ref p.2.2.2) n = some none)
def clsAll (K : PySem.W.Frag) (cs : List ClsE) : Bool := cs.all (clsB K)
def kitOwn (K : PySem.W.Frag) (cs : List ClsE) : Bool := cs.all fun p => cs.all fun q => decide (W.kitOne K (.ref p.2.2.2) (.ref q.2.2.2) = some (decide (p.1 = q.1)))
def kitBlt (K : PySem.W.Frag) (cs : List ClsE) (isA : Str → Str → Bool) (T : String) : Bool := cs.all fun p => decide (W.kitOne K (.ref p.2.2.2) (.type T) = some (isA T p.1))
def tbOf (cs : List ClsE) : List (Str × List Str) := cs.map fun p => (p.1, p.2.1)
theorem lookup_mem {α β : Type} [BEq α] [LawfulBEq α] {a : α} {b : β} : ∀ {l : List (α × β)}, l.lookup a = some b → (a, b) ∈ l
  | [], h => by cases h
  | (x, y) :: l, h => by
    unfold List.lookup at h
    split at h
    · rename_i e
      cases h
      rw [eq_of_beq e]; exact List.mem_cons_self
    · exact List.mem_cons_of_mem _ (lookup_mem h)
section
variable {K : PySem.W.Frag} {mg : Str → Option Value} {cs : List ClsE}
theorem tb_in (hm : ∀ p ∈ cs, mg p.1 = some (.ref p.2.2.2)) {c : Str} {ns : List Str} {D : Addr} (h : (tbOf cs).lookup c = some ns) (hD : mg c = some (.ref D)) : ∃ p ∈ cs, p.1 = c ∧ p.2.1 = ns ∧ p.2.2.2 = D := by
  obtain ⟨p, hp, e⟩ := List.mem_map.mp (lookup_mem h)
  cases e
  have z := (hm p hp).symm.trans hD
  cases z
  exact ⟨p, hp, rfl, rfl, rfl⟩
theorem xcE_in (h : clsAll K cs = true) {p : ClsE} (hp : p ∈ cs) : XcE K p.2.2.2 ∧ ∀ n ∈ p.2.1, W.takerIn K p.2.2.2 n = some none ∧ W.findIn K (.ref p.2.2.2) n = some none := by
  have z := List.all_eq_true.mp h p hp
  unfold clsB at z
  obtain ⟨z1, z2⟩ := Bool.and_eq_true_iff.mp z
  refine ⟨xc_of (xcB_ok z1), fun n hn => ?_⟩
  have y := List.all_eq_true.mp z2 n hn
  simp only [Bool.and_eq_true, decide_eq_true_eq] at y
  exact y
theorem xc_in (h : clsAll K cs = true) {p : ClsE} (hp : p ∈ cs) : Xc K p.2.2.2 (newOfB p.2.2.1) (mroOfB p.2.2.1) := by
  have z := List.all_eq_true.mp h p hp
  unfold clsB at z
  exact xcB_ok (Bool.and_eq_true_iff.mp z).1
theorem clsTb (h : clsAll K cs = true) (hm : ∀ p ∈ cs, mg p.1 = some (.ref p.2.2.2)) : ClsTb K mg (tbOf cs) := ⟨fun c ns C h1 h2 => by
  obtain ⟨p, hp, rfl, rfl, rfl⟩ := tb_in hm h1 h2
  exact ⟨(xcE_in h hp).1, fun n hn => ((xcE_in h hp).2 n hn).2⟩⟩
theorem isO (h : kitOwn K cs = true) (hm : ∀ p ∈ cs, mg p.1 = some (.ref p.2.2.2)) {q : ClsE} (hq : q ∈ cs) : IsO K mg (tbOf cs) q.1 := ⟨q.2.2.2, hm q hq, fun c ns D h1 h2 => by
  obtain ⟨p, hp, rfl, rfl, rfl⟩ := tb_in hm h1 h2
  exact of_decide_eq_true (List.all_eq_true.mp (List.all_eq_true.mp h p hp) q hq)⟩
theorem isB {isA : Str → Str → Bool} {T : String} (h : kitBlt K cs isA T = true) (hm : ∀ p ∈ cs, mg p.1 = some (.ref p.2.2.2)) : IsB K mg (tbOf cs) (isA T) T := fun c ns D h1 h2 => by
  obtain ⟨p, hp, rfl, rfl, rfl⟩ := tb_in hm h1 h2
  exact of_decide_eq_true (List.all_eq_true.mp h p hp)
end
end DL
/-! EX6: such an exception made to be raised. -/
namespace EX
open L2 PyProof.Rows PySem PySem.Spec
def tMkR (C : Addr) (n : Nat) (sp : Sp) (gV : List V → List V → List V) (t : TA) : L2.St → Hp → XK → Prop := fun σ H Q => t σ H fun vs H1 => vs.length = n ∧ n ≤ 1000 ∧ ∀ a, H1 a = none → sp (gV (.ref a :: vs) []) (upd H1 a (exo a C none)) (fun v H2 => v = .non ∧ ∃ (d : Addr) (fs : List (Str × V)), H2 a = some (exo a C (some d)) ∧ H2 d = some (exd d fs) ∧ H1 d = none ∧ Q (.ref C) (some d) (upd (del H2 a) d (.xd fs))) (fun _ _ _ => False)
theorem pmk_X {X : Cx} {e : Expr} {es : List Expr} {t : TA} {p pos : Pos} {CX : CXT} {k n : Nat} {fI C : Addr} {fd : FuncData} {ps : List Str} {sp : Sp} {x : Str} {g : List Value → List Value → List Value} {gV : List V → List V → List V}
    (T : XcE X.K C) (iC : W.findIn X.K (.ref C) "__init__" = some (some (.ref fI))) (tI : W.typeIn X.K (.ref fI) = some (.type "function")) (F1 : FnOk X.prog X.w X.K X.mg X.base CX k fI fd ps sp) (hr : Room (k + 1) X.A) (hb : KBn X.K fd ps (n + 1) [] g gV) (hx : Passes CX X (fun _ _ _ => False))
    (hg : Gl X x) (hm : X.mg x = some (.ref C)) (ha : PA X (e :: es) t) (hdb : (x == ("__debug__" : Str)) = false := by decide) (he : starEach (e :: es) X.env = (false, eval e X.env) :: starEach es X.env := by rfl) (hpl : (backTo pos (starEach es X.env)).any (·.1) = false := by rfl) :
    PMk X (.Call (.Name x p) (e :: es) [] pos) (tMkR C n sp gV t) := by
  intro pins s σ H Q I h
  obtain ⟨B, nI, iI, bmB, b, T⟩ := T
  refine wpAny_Call_Name_kw (ld_glob I hg hm (W.callWith_K (h₀ := X.base) I.ok.mod.kin T.kC (thn (ha.run pos pins s σ H _ I h) fun us s1 z => ?_) he hpl) hdb)
  obtain ⟨vs, H1, I1, r1, l1, ln, q1⟩ := z
  refine ⟨I1.kIn, ?_⟩
  obtain ⟨nm, N', qn, bs, bm, hdct, sn, sub, ab, col, dd, k0, k1, k2, k3, k5, hC, hT⟩ := W.excInit_of I1.kIn T.ini
  obtain ⟨hp, g0, dr, tk, os⟩ := s1
  have q := q1 (hp.objs.size + 1) (I1.hok.fresh (Nat.le_succ _))
  have keep : ∀ c ob, hp.get? c = some ob → ((hp.push (W.kdv_tup us)).push (exO C hp.objs.size)).get? c = some ob := fun c ob z => Heap.get?_push_of_some _ (Heap.get?_push_of_some _ z)
  have there : ((hp.push (W.kdv_tup us)).push (exO C hp.objs.size)).get? (hp.objs.size + 1) = some (exO C hp.objs.size) := by heap_get
  have J := I1.laid (t' := tk) (a := hp.objs.size + 1) (o := exo (hp.objs.size + 1) C none) keep (Nat.le_succ _) (exo_ok there)
  have rs : Vals (V.ref (hp.objs.size + 1) :: vs) (Value.ref (hp.objs.size + 1) :: us) := .cons rfl r1
  have lu : us.length = n := r1.length.symm.trans l1
  have bt := hb.to ⟨(hp.push (W.kdv_tup us)).push (exO C hp.objs.size), g0, dr, tk, os⟩ (Value.ref (hp.objs.size + 1) :: us) [] J.kIn (rs.length.symm.trans (congrArg Nat.succ l1)) rfl; show wpAny _ _ (call (.ref C) us) _ _ _
  refine wpAny_call (callKw b.base hT hC (W.looks_findIn I1.kIn iC) (fun self => W.bind_fn I1.kIn self tI) (by rw [lu, sizeLine_eq]; omega) (codeAny_mono (F1.run _ X.stack _ _ ⟨Value.ref (hp.objs.size + 1) :: us, []⟩ _ _ _ _ (hr.make C us []) (J.env0.make C us []) bt (hb.rel rs .nil) q) fun res s' z => ?_))
  match res, z with
  | .error er, z => exact hx pins σ _ _ er s' J z
  | .ok (.ret u), ⟨v, H2, os2, bare2, un2, hok2, rv, ev, d, fs, ea, ed, hd1, q2⟩ =>
    subst ev; obtain ⟨h2, g2, d2, t2, os'⟩ := s'
    exact ⟨rv, mk_end (raises_own T.exC T.tyC) I1 (Nat.le_succ _) keep un2 hok2 os2 bare2 ea ed hd1 q2⟩
  | .ok .next, z => exact z.elim
  | .ok .brk, z => exact z.elim
  | .ok .cont, z => exact z.elim
end EX
/-! DL21: raise of an own exception with fields. -/
namespace DL
open PySem PySem.Spec L2 EX
variable [TabT]
/-- raise cls(..): the fields newest first -/
def eRaise (cls : Str) (names : List Str) (t : M (List VD)) : M VD := do
  let xs ← t
  let ds ← toDs xs
  chk (decide (ds.length = names.length))
  fun S => .exc ⟨cls, names.reverse.zip ds.reverse⟩ S
def sRaise (cls : Str) (names : List Str) (t : M (List VD)) : MS := do let _ ← eRaise cls names t; pure .nx
section
variable {K : PySem.W.Frag} {wl : Wd} {F : Hp} {rs : List Addr} {S : DS} {σ : L2.St} {H G : Hp}
theorem Md.noSl {ce : List Cl} {sl : List (Option VD)} (m : Md K wl F rs ⟨sl, ce⟩ σ H G) : Md K wl F rs ⟨[], ce⟩ [] H G := m.cells
theorem raiseNew {mg : Str → Option Value} {E : XK} {cls : Str} {names : List Str} {C : Addr} {vs : List V} {ds : List PyData} (m : Md K wl F rs S σ H G) (hm : mg cls = some (.ref C)) (hd : DdAll K G vs ds) (hl : ds.length = names.length) (hn : names ≠ [])
    (h : ∀ (C dx : Addr) (ws : List V) (H' G' : Hp) (rs' : List Addr), Up rs G rs' G' → Md K wl F rs' ⟨[], S.ce⟩ [] H' G' → mg cls = some (.ref C) → H' dx = some (.xd (((names.reverse.zip ds.reverse).map (·.1)).zip ws)) → DdAll K G' ws ((names.reverse.zip ds.reverse).map (·.2)) → E (.ref C) (some dx) H')
    {a : Addr} (ha : H a = none) : iniSp C names (.ref a :: vs) (upd H a (exo a C none)) (fun v H2 => v = .non ∧ ∃ (d : Addr) (fs : List (Str × V)), H2 a = some (exo a C (some d)) ∧ H2 d = some (exd d fs) ∧ H d = none ∧ E (.ref C) (some d) (upd (del H2 a) d (.xd fs))) (fun _ _ _ => False) := by
  have hvl : vs.length = names.length := (DdAll.length hd).trans hl
  refine ⟨a, vs, rfl, hvl, upd_same, .inr ⟨hn, fun dx hx ne => ?_⟩⟩
  have hx' : H dx = none := by rw [upd_ne ne] at hx; exact hx
  have e1 : mkH (upd H a (exo a C none)) a C dx (names.reverse.zip vs.reverse) a = some (exo a C (some dx)) := upd_same
  have e2 : mkH (upd H a (exo a C none)) a C dx (names.reverse.zip vs.reverse) dx = some (exd dx (names.reverse.zip vs.reverse)) := (upd_ne ne).trans upd_same
  have e3 : upd (del (mkH (upd H a (exo a C none)) a C dx (names.reverse.zip vs.reverse)) a) dx (.xd (names.reverse.zip vs.reverse)) = upd H dx (.xd (names.reverse.zip vs.reverse)) := by
    funext b
    by_cases h1 : b = dx
    · subst h1; rw [upd_same, upd_same]
    · rw [upd_ne h1, upd_ne h1]
      by_cases h2 : b = a
      · subst h2; rw [del_same, ha]
      · unfold mkH
        rw [del_ne h2, upd_ne h2, upd_ne h1, upd_ne h2]
  have l1 : names.reverse.length = ds.reverse.length := by simp [hl]
  have gx := L2.Same.free m.sub hx'
  refine ⟨rfl, dx, _, e1, e2, hx', ?_⟩
  rw [e3]
  have m1 := (m.new (o := .xd (names.reverse.zip vs.reverse)) hx').cells
  refine h C dx vs.reverse _ (upd G dx (.xd (names.reverse.zip vs.reverse))) rs ⟨⟨[], by simp⟩, same_upd gx⟩ m1 hm ?_ ?_
  · rw [show (names.reverse.zip ds.reverse).map (·.1) = names.reverse from List.map_fst_zip (Nat.le_of_eq l1)]
    exact upd_same
  · rw [show (names.reverse.zip ds.reverse).map (·.2) = ds.reverse from List.map_snd_zip (Nat.le_of_eq l1.symm)]
    exact DdAll.same (same_upd gx) _ _ (DdAll.reverse hd)
end
section
variable {X : Cx} {E : XK} {e : Expr} {es : List Expr} {pos pos' p : Pos} {x : Str} {names : List Str}
theorem s_raise {t : M (List VD)} (hc : X.calm = true) (tk : Takes X (fun cls d _ H => E cls d H)) (hh : MkO X.prog X.w X.K X.mg X.base x names) (hr : Room 2 X.A) (hl : names.length ≤ 1000) (hn : names ≠ []) (hg : Gl X x) (ht : PDA X E (e :: es) t) (hdb : (x == ("__debug__" : Str)) = false := by decide)
    (he : starEach (e :: es) X.env = (false, eval e X.env) :: starEach es X.env := by rfl) (hpl : (backTo pos (starEach es X.env)).any (·.1) = false := by rfl) : PDS X E (.Raise (some (.Call (.Name x p) (e :: es) [] pos)) none pos') (sRaise x names t) := by
  obtain ⟨C, fI, fd, hm, T, h1, h2, h3, h4, _, _⟩ := hh.ex
  refine PS.weak (ps_raise hc tk (pmk_X (n := names.length) T h1 h2 h3 hr h4 (fun _ _ _ _ _ _ _ z => z.elim) hg hm ht hdb he hpl)) fun D σ H q => ?_
  obtain ⟨F, rs, S, G, m, p⟩ := q
  have p0 := PostS.expr (σ := σ) (Rel := RdV X.K X.wd) p
  refine ⟨F, rs, S, G, m, (Post.seq p0).mono fun vs H1 ⟨rs1, S1, G1, xs, u1, m1, r1, p1⟩ => ?_⟩
  obtain ⟨ds, S2, G2, sg, m2, rd, p2⟩ := m1.toDs r1 p1
  obtain ⟨hz, p3⟩ := Post.chk p2
  have hz' := of_decide_eq_true hz
  exact ⟨(DdAll.length rd).trans hz', hl, fun a ha => raiseNew m2 hm rd hz' hn p3 ha⟩
/-- a constant of the module, a number -/
theorem d_globI {i : Int} {n : Str} {pn : Pos} (h : ∃ t, X.mg n = some (.int i t)) (hg : Gl X n := by rfl) (hd : (n == ("__debug__" : Str)) = false := by decide) : PD X E (.Name n pn) (eC (.int i)) := by
  obtain ⟨t, h⟩ := h
  exact d_c (pe_glob (v := .int i) hg h ⟨t, rfl⟩ hd) fun _ => .int i
end
end DL
/-! DL22: {}. -/
namespace DL
open PySem PySem.Spec L2
variable [TabT]
section
variable {X : Cx} {E : XK} {pos : Pos}
theorem d_dic0 : PD X E (.Dict [] [] pos) (eC (.dict [])) := PE.weak pe_dnewK fun σ H Q q => by
  obtain ⟨F, rs, S, G, m, p⟩ := q
  intro q hq
  have gq := L2.Same.free m.sub hq
  exact p (.ref q) _ (upd G q (.dK [])) rs ⟨⟨[], by simp⟩, same_upd gq⟩ (m.new hq) (.dic upd_same)
end
end DL
/-! DL23: written constants in one step. -/
namespace DL
open PySem PySem.Spec L2
variable [TabT]
def isStar : Expr → Bool
  | .Starred _ _ => true
  | _ => false
theorem star_cons {e : Expr} {es : List Expr} {env : Env} (h : isStar e = false) : starEach (e :: es) env = (false, eval e env) :: starEach es env := by
  cases e <;> first | rfl | cases h
theorem star_nil {env : Env} : starEach [] env = [] := rfl
theorem star_one {e : Expr} {env : Env} (h : isStar e = false) : starEach [e] env = [(false, eval e env)] := star_cons h
theorem swaps_list {es : List Expr} {p : Pos} {t : Option Expr} {l : Nat} {env : Env} : swapsWith (.List es p) t l env = pure false := rfl
/-- the data of a written constant -/
def constA : Expr → Option PyData
  | .Constant .none _ _ => (some .none)
  | .Constant (.bool b) _ _ => (some (.bool b))
  | .Constant (.int i) _ _ => (some (.int i))
  | .Constant (.str x) _ _ => (some (.str x))
  | .UnaryOp .USub (.Constant (.int i) _ _) _ => (some (.int (-i)))
  | .BinOp (.Constant (.int i) _ _) .Pow (.Constant (.int j) _ _) _ => fPow (.int i) (.int j)
  | .Dict [] [] _ => some (.dict [])
  | _ => none
mutual
def constD : Expr → Option PyData
  | .Tuple es _ _ => match constDs es with
    | some ds => if ds.length ≤ 1000 then some (.tuple ds) else none
    | none => none
  | .List es _ => match constDs es with
    | some ds => if ds.length ≤ 1000 then some (.list ds) else none
    | none => none
  | e => constA e
def constDs : List Expr → Option (List PyData)
  | [] => some []
  | e :: es => match isStar e, constD e, constDs es with
    | false, some d, some ds => some (d :: ds)
    | _, _, _ => none
end
section
variable {X : Cx} {E : XK}
theorem eC_run {d : PyData} {S : DS} : eC d S = .ok (.dat d, S) := rfl
theorem d_constA {e : Expr} {d : PyData} (h : constA e = some d) : PD X E e (eC d) := by
  unfold constA at h
  split at h
  · cases h; exact d_non
  · cases h; exact d_bl
  · cases h; exact d_int
  · cases h; exact d_str
  · cases h
    exact PE.weak (d_neg d_int) fun σ H Q q => q
  · rename_i i a b j c d' p
    exact PE.weak (d_op o_pow d_int d_int) fun σ H Q q => by
      obtain ⟨F, rs, S, G, m, pp⟩ := q
      refine ⟨F, rs, S, G, m, ?_⟩
      have e1 : eOp fPow (eC (.int i)) (eC (.int j)) S = eC d S := by
        show (do let r ← ofO (fPow (.int i) (.int j)); scal r : M VD) S = _
        rw [h]
        show scal d S = eC d S
        have : ∃ k, d = .int k := by
          simp only [fPow, fI] at h
          split at h <;> first | exact ⟨_, (Option.some.inj h).symm⟩ | cases h
        obtain ⟨k, rfl⟩ := this
        rfl
      rw [e1]; exact pp
  · cases h; exact d_dic0
  · cases h
/-- several constants -/
def aCs (ds : List PyData) : M (List VD) := pure (ds.map .dat)
theorem toDs_dat : ∀ (ds : List PyData) (S : DS), toDs (ds.map .dat) S = .ok (ds, S)
  | [], _ => rfl
  | d :: ds, S => by
    show (((pure d : M PyData) >>= fun d => toDs (ds.map .dat) >>= fun ds => pure (d :: ds)) : M (List PyData)) S = _
    rw [M.bind_run]
    show (toDs (ds.map .dat) >>= fun ds => pure (d :: ds)) S = _
    rw [M.bind_run, toDs_dat ds S]
    rfl
theorem rdvs_dat {K : PySem.W.Frag} {wl : Wd} {rs : List Addr} {G : Hp} : ∀ {ds : List PyData} {vs : List V}, RdVs K wl rs G (ds.map .dat) vs → DdAll K G vs ds
  | [], [], _ => .nil
  | [], _ :: _, h => h.elim
  | _ :: _, [], h => h.elim
  | _ :: _, _ :: _, h => .cons h.1 (rdvs_dat h.2)
mutual
theorem d_const : ∀ (e : Expr) {d : PyData}, constD e = some d → PD X E e (eC d)
  | .Tuple es k pos, d, h => by
    unfold constD at h
    split at h
    · rename_i ds hds
      split at h
      · rename_i hl
        cases h
        refine PE.weak (d_tup (d_consts es hds)) fun σ H Q q => ?_
        obtain ⟨F, rs, S, G, m, pp⟩ := q
        refine ⟨F, rs, S, G, m, ?_⟩
        have : eTup (aCs ds) S = eC (.tuple ds) S := by
          show ((do let ds ← toDs (ds.map .dat); chk (decide (ds.length ≤ 1000)); pure (.dat (.tuple ds))) : M VD) S = _
          rw [M.bind_run, toDs_dat]
          show ((do chk (decide (ds.length ≤ 1000)); pure (.dat (.tuple ds))) : M VD) S = _
          simp only [hl, decide_true]
          rfl
        rw [this]; exact pp
      · cases h
    · cases h
  | .List es pos, d, h => by
    unfold constD at h
    split at h
    · rename_i ds hds
      split at h
      · rename_i hl
        cases h
        refine PE.weak (pe_lst (d_consts es hds)) fun σ H Q q => ?_
        obtain ⟨F, rs, S, G, m, pp⟩ := q
        refine ⟨F, rs, S, G, m, fun vs H' G' rs' u m' r => ?_⟩
        have hd : DdAll X.K G' vs ds := rdvs_dat r
        refine ⟨by rw [DdAll.length hd]; exact sz1000 hl, fun p hp => ?_⟩
        have gp := L2.Same.free m'.sub hp
        exact (Post.up u pp) (.ref p) _ (upd G' p (.lst vs)) rs' ⟨⟨[], by simp⟩, same_upd gp⟩ (m'.new hp) (.lst (Rd.of upd_same) (DdAll.same (same_upd gp) _ _ hd))
      · cases h
    · cases h
  | .BoolOp _ _ _, d, h => d_constA (by simpa only [constD] using h)
  | .NamedExpr _ _ _, d, h => d_constA (by simpa only [constD] using h)
  | .BinOp _ _ _ _, d, h => d_constA (by simpa only [constD] using h)
  | .UnaryOp _ _ _, d, h => d_constA (by simpa only [constD] using h)
  | .Lambda _ _ _ _, d, h => d_constA (by simpa only [constD] using h)
  | .IfExp _ _ _ _, d, h => d_constA (by simpa only [constD] using h)
  | .Dict _ _ _, d, h => d_constA (by simpa only [constD] using h)
  | .Set _ _ _, d, h => d_constA (by simpa only [constD] using h)
  | .ListComp _ _ _ _, d, h => d_constA (by simpa only [constD] using h)
  | .SetComp _ _ _ _, d, h => d_constA (by simpa only [constD] using h)
  | .DictComp _ _ _ _ _, d, h => d_constA (by simpa only [constD] using h)
  | .GeneratorExp _ _ _ _, d, h => d_constA (by simpa only [constD] using h)
  | .Await _ _, d, h => d_constA (by simpa only [constD] using h)
  | .Yield _ _, d, h => d_constA (by simpa only [constD] using h)
  | .YieldFrom _ _, d, h => d_constA (by simpa only [constD] using h)
  | .Compare _ _ _ _, d, h => d_constA (by simpa only [constD] using h)
  | .Call _ _ _ _, d, h => d_constA (by simpa only [constD] using h)
  | .FormattedValue _ _ _ _, d, h => d_constA (by simpa only [constD] using h)
  | .JoinedStr _ _, d, h => d_constA (by simpa only [constD] using h)
  | .Constant _ _ _, d, h => d_constA (by simpa only [constD] using h)
  | .Attribute _ _ _, d, h => d_constA (by simpa only [constD] using h)
  | .Subscript _ _ _, d, h => d_constA (by simpa only [constD] using h)
  | .Starred _ _, d, h => d_constA (by simpa only [constD] using h)
  | .Name _ _, d, h => d_constA (by simpa only [constD] using h)
  | .Slice _ _ _ _, d, h => d_constA (by simpa only [constD] using h)
theorem d_consts : ∀ (es : List Expr) {ds : List PyData}, constDs es = some ds → PDA X E es (aCs ds)
  | [], ds, h => by
    unfold constDs at h; cases h; exact d_nil
  | e :: es, ds, h => by
    unfold constDs at h
    split at h
    · rename_i h1 h2 h3
      cases h
      rename_i d ds
      refine PA.weak (d_cons (d_const e h2) (d_consts es h3) (star_cons h1)) fun σ H Q q => ?_
      exact q
    · cases h
end
/-- a display of constants: a new list -/
theorem d_lstC {es : List Expr} {pos : Pos} {ds : List PyData} (h : constDs es = some ds) (hl : ds.length ≤ 1000) : PD X E (.List es pos) (newL ds) :=
  PE.weak (pe_lst (d_consts (E := E) es h)) fun σ H Q q => by
    obtain ⟨F, rs, S, G, m, pp⟩ := q
    refine ⟨F, rs, S, G, m, fun vs H' G' rs' u m' r => ?_⟩
    have hd : DdAll X.K G' vs ds := rdvs_dat r
    exact ⟨by rw [DdAll.length hd]; exact sz1000 hl, fun p hp => newLst m' hd (Post.up u pp) hp⟩
end
end DL
/-! DL24: try .. except X as e, one clause. -/
namespace DL
open PySem PySem.Spec L2 EX
variable [TabT]
def unsl (i : Nat) : R (Fl × DS) → R (Fl × DS)
  | .ok (f, S) => .ok (f, ⟨S.sl.set i none, S.ce⟩)
  | .exc _ _ => .bad
  | .bad => .bad
def xcS (n i : Nat) (a d : Addr) (cls : Str) (fs : List (Str × PyData)) (ce : List Cl) : DS := ⟨(List.replicate n none).set i (some (.oth (.xc a d cls fs))), ce⟩
def sTry (tb : List (Str × List Str)) (n i : Nat) (cls : Str) (body : MS) (suite : Addr → Addr → MS) : MS := fun S => match body S with
  | .ok p => .ok p
  | .exc x S' => match tb.lookup x.cls with
    | some _ => if x.cls = cls then unsl i (suite 0 0 (xcS n i 0 0 x.cls x.fs S'.ce)) else .exc x S'
    | none => .bad
  | .bad => .bad
/-- the exception in slot i: its fields -/
def isXc (a d : Addr) (cls : Str) (i : Nat) : M (List (Str × PyData)) := fun S => match S.sl[i]? with
  | some (some (.oth (.xc a' d' c fs))) => if a' = a ∧ d' = d ∧ c = cls then .ok (fs, S) else .bad
  | _ => .bad
theorem isXc_run {n i : Nat} {a d : Addr} {cls : Str} {fs : List (Str × PyData)} {ce : List Cl} (h : i < n) : isXc a d cls i (xcS n i a d cls fs ce) = .ok (fs, xcS n i a d cls fs ce) := by
  unfold isXc xcS
  rw [List.getElem?_set_self (by simpa using h)]
  simp
theorem isXc_no {n i : Nat} {a d : Addr} {cls c : Str} {fs : List (Str × PyData)} {ce : List Cl} (h : i < n) (hc : c ≠ cls) : isXc a d cls i (xcS n i a d c fs ce) = .bad := by
  unfold isXc xcS
  rw [List.getElem?_set_self (by simpa using h)]
  simp [hc]
def eXf (a d : Addr) (cls : Str) (i : Nat) (f : Str) : M VD := do let fs ← isXc a d cls i; let y ← ofO (fs.lookup f); pure (.dat y)
def eXis (a d : Addr) (cls : Str) (i : Nat) (b : Bool) : M VD := do let _ ← isXc a d cls i; pure (.dat (.bool b))
/-- which class an except clause takes -/
def IsM (K : PySem.W.Frag) (mg : Str → Option Value) (tb : List (Str × List Str)) (C : Str) (Cc : Addr) : Prop := mg C = some (.ref Cc) ∧ ∀ (c : Str) (ns : List Str) (D : Addr), tb.lookup c = some ns → mg c = some (.ref D) → W.exmOne K (.ref D) (.ref Cc) = some (decide (c = C))
section
variable {K : PySem.W.Frag} {wl : Wd} {F : Hp} {rs : List Addr} {S : DS} {σ : L2.St} {H G : Hp}
theorem Md.know {dx : Addr} {l : List (Str × V)} (m : Md K wl F rs S σ H G) (h : H dx = some (.xd l)) : ∃ G', Same G G' ∧ Md K wl F rs S σ H G' ∧ G' dx = some (.xd l) := by
  have sg : Same G (upd G dx (.xd l)) := fun b u q => by
    by_cases hb : b = dx
    · subst hb; rw [upd_same]; have := m.sub _ _ q; rw [h] at this; exact this
    · rw [upd_ne hb]; exact q
  refine ⟨upd G dx (.xd l), sg, ⟨m.len, fun b u q => ?_, m.frm, m.rl, m.nd, fun i b c h1 h2 => ?_, fun i x h1 => ?_, ntb_upd m.ntb (fun ps z => by cases z), m.nft, m.tab⟩, upd_same⟩
  · by_cases hb : b = dx
    · subst hb; rw [upd_same] at q; cases q; exact h
    · rw [upd_ne hb] at q; exact m.sub b u q
  · have k := m.cel i b c h1 h2
    cases c with
    | ls bb ds' =>
      cases bb with
      | true =>
        obtain ⟨f', g', vs', hv', hd'⟩ := k
        have ne : b ≠ dx := fun z => by rw [z, h] at hv'; cases hv'
        exact ⟨f', by rw [upd_ne ne]; exact g', vs', hv', DdAll.same sg _ _ hd'⟩
      | false =>
        obtain ⟨vs', hv', hd'⟩ := k
        exact ⟨vs', sg _ _ hv', DdAll.same sg _ _ hd'⟩
    | dk kvs =>
      obtain ⟨f', g', hv'⟩ := k
      have ne : b ≠ dx := fun z => by rw [z, h] at hv'; cases hv'
      exact ⟨f', by rw [upd_ne ne]; exact g', hv'⟩
    | si ns =>
      obtain ⟨f', g', hv', hn'⟩ := k
      have ne : b ≠ dx := fun z => by rw [z, h] at hv'; cases hv'
      exact ⟨f', by rw [upd_ne ne]; exact g', hv', hn'⟩
  · obtain ⟨v, h2, h3⟩ := m.slot i x h1
    exact ⟨v, h2, RdV.up ⟨⟨[], by simp⟩, sg⟩ h3⟩
theorem Md.unset (m : Md K wl F rs S σ H G) (i : Nat) : Md K wl F rs ⟨S.sl.set i none, S.ce⟩ (σ.set i none) H G := by
  refine ⟨by simp [m.len], m.sub, m.frm, m.rl, m.nd, m.cel, fun k y h1 => ?_, m.ntb, m.nft, m.tab⟩
  by_cases hk : k = i
  · subst hk
    by_cases hl : k < S.sl.length
    · rw [List.getElem?_set_self hl] at h1; cases h1
    · rw [List.getElem?_eq_none (by simp; omega)] at h1; cases h1
  · rw [List.getElem?_set_ne (Ne.symm hk)] at h1
    rw [List.getElem?_set_ne (Ne.symm hk)]
    exact m.slot k y h1
end
section
variable {X : Cx} {W : WX}
/-- what a callee lets out, at any slots of the frame's length -/
abbrev EW (X : Cx) (W : WX) : XK := fun cls d H => ∀ σ : L2.St, σ.length = X.N.length → W cls d σ H
theorem passes_len (tk : Takes X W) : Passes (L2.CX X.prog X.w) X (EW X W) := fun pins σ H s e s' I c =>
  tk e s' (XE.of_call I (fun cls d H' h => h σ I.len) c)
end
section
variable {X : Cx} {E : XK} {x n : Str} {i : Nat} {body suite : List Stmt} {b₀ : Stmt} {np pos pos' : Pos} {tb : List (Str × List Str)} {tbody : MS} {tsuite : Addr → Addr → MS} {Cc : Addr}
theorem s_try (hs : X.stack = X.env :: X.outer) (hf : X.env.frame = some X.env.locals) (hN : X.N.Nodup) (hin : i < X.N.length) (hi : X.N[i]? = some n) (hln : X.env.kindOf n = some .local) (hg : Gl X x) (hd : (x == ("__debug__" : Str)) = false) (hM : IsM X.K X.mg tb x Cc) (tk : Takes X (fun cls d _ H => E cls d H))
    (hb : ∀ (W : WX) (pn : List (Addr × Obj)) (xe : Value → Shared → Prop), Passes (L2.CX X.prog X.w) (X.tr pn xe) (EW X W) → PassesOwn (model X.prog X.w) X.A X.env xe → PDSs (X.tr pn xe) (EW X W) body tbody)
    (hsu : ∀ (a : Addr) (oe : Obj) (dx : Addr) (pn : List (Addr × Obj)), Zc (.ref Cc) (some dx) oe → (∃ vs, oe.data = .fields vs) → PDSs (X.suite a ((a, oe) :: pn)) (fun _ _ _ => False) (b₀ :: suite) (tsuite a dx))
    (hfree : ∀ (a d : Addr) (cls : Str) (fs : List (Str × PyData)) (ce : List Cl), unsl i (tsuite a d (xcS X.N.length i a d cls fs ce)) = unsl i (tsuite 0 0 (xcS X.N.length i 0 0 cls fs ce))) :
    PDS X E (.Try body [.ExceptHandler (some (.Name x np)) (some n) (b₀ :: suite) pos'] [] [] pos) (sTry tb X.N.length i x tbody tsuite) := by
  refine PS.weak (ps_try_as (i := i) (tb := fun W => liftS X.K X.wd X.mg (EW X W) tbody) (ts := fun a cls d => fun D σ H => ∃ (dx : Addr), cls = .ref Cc ∧ d = some dx ∧ liftS X.K X.wd X.mg (fun _ _ _ => False) (tsuite a dx) D σ H) hs hf hN hi hln ⟨hg, hd, .inl hM.1⟩ tk
    (fun W pn xe tk' po => hb W pn xe (passes_len (X := X.tr pn xe) tk') po)
    (fun a oe cls d pn hz hf' => ⟨fun pins s σ H D I q => by
      obtain ⟨dx, e1, e2, q⟩ := q
      subst e1 e2
      exact (hsu a oe dx pn hz hf').run pins s σ H D I q⟩)) fun D σ H q => ?_
  obtain ⟨F, rs, S, G, m, p⟩ := q
  refine ⟨F, rs, S, G, m, ?_⟩
  unfold sTry at p
  cases e : tbody S with
  | ok r => rw [e] at p; exact p
  | bad => rw [e] at p; exact p
  | exc y S' =>
    rw [e] at p
    dsimp only at p
    intro C dx vs H' G' rs' u m' hm hx hv σ' hl
    cases et : tb.lookup y.cls with
    | none => rw [et] at p; exact p.elim
    | some ns =>
      rw [et] at p
      dsimp only at p
      refine ⟨decide (y.cls = x), hM.2 _ _ _ et hm, fun hb1 a ha => ?_, fun hb0 => ?_⟩
      · have hc : y.cls = x := of_decide_eq_true hb1
        rw [if_pos hc] at p
        have eC : C = Cc := by
          have z := hM.1
          rw [← hc, hm] at z
          injection z with z; injection z
        subst eC
        obtain ⟨G2, sg, m2, g2⟩ := m'.know hx
        refine ⟨dx, rfl, rfl, F, rs', xcS X.N.length i a dx y.cls y.fs S'.ce, G2, ?_, ?_⟩
        · refine m2.slots (by simp [xcS, hl]) fun k z hk => ?_
          by_cases hki : k = i
          · subst hki
            have hk' : ((List.replicate X.N.length (none : Option VD)).set k (some (.oth (.xc a dx y.cls y.fs))))[k]? = some (some z) := hk
            rw [List.getElem?_set_self (by simpa using hin)] at hk'
            injection hk' with hk'; injection hk' with hk'
            subst hk'
            refine ⟨.ref a, by rw [List.getElem?_set_self (by rw [hl]; exact hin)], rfl, C, vs, hm, g2, DdAll.same sg _ _ hv⟩
          · have hk' : ((List.replicate X.N.length (none : Option VD)).set i (some (.oth (.xc a dx y.cls y.fs))))[k]? = some (some z) := hk
            rw [List.getElem?_set_ne (Ne.symm hki), List.getElem?_replicate] at hk'
            split at hk' <;> cases hk'
        · rw [← hfree a dx] at p
          have p2 := PostS.up (u.trans (show Up rs' G' rs' G2 from ⟨⟨[], by simp⟩, sg⟩)) p
          cases es : tsuite a dx (xcS X.N.length i a dx y.cls y.fs S'.ce) with
          | bad => rw [es] at p2; exact p2
          | exc _ _ => rw [es] at p2; exact p2.elim
          | ok r =>
            rw [es] at p2
            obtain ⟨f, S3⟩ := r
            intro σ3 H3 G3 rs3 u3 m3
            have p3 := p2 (σ3.set i none) H3 G3 rs3 u3 (m3.unset i)
            cases f with
            | nx => exact p3
            | bk => exact p3
            | ct => exact p3
            | rt z => exact p3
      · have hc : ¬ y.cls = x := of_decide_eq_false hb0
        rw [if_neg hc] at p
        exact p C dx vs H' G' rs' u m' hm hx hv
end
/-! ### the caught exception in its suite -/
section
variable {X : Cx} {a dx Cc : Addr} {oe : Obj} {pn : List (Addr × Obj)} {E : XK} {i : Nat} {x n f : Str} {np pos p pt : Pos} {tb : List (Str × List Str)} {ns : List Str}
theorem isXc_of {S : DS} {fs : List (Str × PyData)} {S' : DS} (h : isXc a dx x i S = .ok (fs, S')) : S' = S ∧ S.sl[i]? = some (some (.oth (.xc a dx x fs))) := by
  unfold isXc at h
  split at h
  · rename_i a' d' c fs' e
    split at h
    · rename_i hc
      obtain ⟨rfl, rfl, rfl⟩ := hc
      cases h
      exact ⟨rfl, e⟩
    · cases h
  · cases h
theorem d_xf (hT : ClsTb X.K X.mg tb) (ht : tb.lookup x = some ns) (hf1 : f ∈ ns) (hm : X.mg x = some (.ref Cc)) (hz : Zc (.ref Cc) (some dx) oe) (hf : ∃ vs, oe.data = .fields vs) (hv : PE (X.suite a ((a, oe) :: pn)) (.Name n np) (tVar i)) (hb : attributeBase (.Name n np) f (X.suite a ((a, oe) :: pn)).env (eval (.Name n np) (X.suite a ((a, oe) :: pn)).env) = eval (.Name n np) (X.suite a ((a, oe) :: pn)).env := by rfl) :
    PD (X.suite a ((a, oe) :: pn)) E (.Attribute (.Name n np) f pos) (eXf a dx x i f) := by
  obtain ⟨⟨B, nI, iI, bmB, b, T⟩, hT'⟩ := hT.ok x ns Cc ht hm
  refine PE.weak (pe_xf (X := X) (cls := .ref Cc) (d := some dx) (C := Cc) ⟨T.ga, T.gg, T.exC, T.dct⟩ (hT' f hf1) hz hf hv hb) fun σ H Q q => ?_
  obtain ⟨F, rs, S, G, m, pp⟩ := q
  unfold eXf at pp
  rw [M.bind_run] at pp
  cases e : isXc a dx x i S with
  | bad => rw [e] at pp; exact pp.elim
  | exc _ _ =>
    exfalso
    unfold isXc at e
    split at e
    · split at e <;> cases e
    · cases e
  | ok r =>
    obtain ⟨fs, S'⟩ := r
    rw [e] at pp
    obtain ⟨rfl, hsl⟩ := isXc_of e
    obtain ⟨v, hv1, hv2⟩ := m.slot i _ hsl
    obtain ⟨rfl, C, vs, h2, h3, h4⟩ := hv2
    obtain ⟨y, hy, p2⟩ := Post.ofO (show Post _ _ _ E F σ (RdV _ _) rs G ((ofO (fs.lookup f) >>= fun y => pure (.dat y)) S') Q from pp)
    obtain ⟨w, hw, rw'⟩ := zip_lookup h4 hy
    exact ⟨.ref a, hv1, rfl, rfl, dx, (fs.map (·.1)).zip vs, w, rfl, m.sub _ _ h3, hw, Post.ret m p2 rw'⟩
theorem call_isEX {T : Value} {cv : V} {b : Bool} {B newId initId : String} {bmB : List Value} (Tx : Xc X.K Cc newId bmB) (hz : Zc (.ref Cc) (some dx) oe) (hf : ∃ vs, oe.data = .fields vs) (hc : ClsV cv T) (ek : W.kitOne X.K (.ref Cc) T = some b) : CallR (X.suite a ((a, oe) :: pn)) (.builtin "isinstance") (fun xs H Q => ∃ l, xs = [.ref a, cv] ∧ H dx = some (.xd l) ∧ Q (.bl b) H) := by
  rintro pins s σ H xs us Q I r ⟨l, rfl, hx, q⟩
  obtain ⟨u1, u2, rfl, r1, r2⟩ := vals2 r; cases hc.eq r2
  cases r1
  obtain ⟨ha, _⟩ := I.pin (a, oe) (List.mem_append_left _ List.mem_cons_self)
  obtain ⟨vs, hd⟩ := hf
  have hx' : ObjOk X.prog X.w H s.heap dx (.xd l) := I.hok dx _ hx
  obtain ⟨mA, hns, hr⟩ := hx'; obtain ⟨od, ho, hl⟩ := lookIn_ns hns
  have J : W.InstAt s.heap a oe Cc (some od) := ⟨ha, hz.1, by unfold W.notCls; rw [hd] <;> rfl, by rw [hz.2]; exact ho⟩
  have cl : (W.clsIn X.K Cc).isSome = true := by
    obtain ⟨cd, z, _⟩ := W.any_some Tx.dct
    rw [z]; rfl
  exact W.kia_one (W.kitx_exc cl Tx.ga Tx.gg Tx.exC Tx.ca Tx.cn Tx.ct Tx.cm) I.kIn J ek (fun z => nomatch z) fun tk => ⟨.bl b, H, I.tok tk, rfl, q⟩
theorem d_xis {t : Expr} {cv : V} {u : Value} {b : Bool} (hT : ClsTb X.K X.mg tb) (ht : tb.lookup x = some ns) (hm : X.mg x = some (.ref Cc)) (hz : Zc (.ref Cc) (some dx) oe) (hf : ∃ vs, oe.data = .fields vs) (hv : PE (X.suite a ((a, oe) :: pn)) (.Name n np) (tVar i))
    (hc : ClsV cv u) (ek : W.kitOne X.K (.ref Cc) u = some b) (htp : PE (X.suite a ((a, oe) :: pn)) t (tC cv)) (hmi : X.mg "isinstance" = none) (hg : Gl (X.suite a ((a, oe) :: pn)) "isinstance" := by rfl)
    (hs : starEach [.Name n np, t] X.env = (false, eval (.Name n np) X.env) :: starEach [t] X.env := by rfl) (hs2 : starEach [t] X.env = (false, eval t X.env) :: starEach [] X.env := by rfl) (hpl : (backTo pos (starEach [t] X.env)).any (·.1) = false := by rfl) :
    PD (X.suite a ((a, oe) :: pn)) E (.Call (.Name "isinstance" p) [.Name n np, t] [] pos) (eXis a dx x i b) := by
  obtain ⟨⟨B, nI, iI, bmB, eb, T⟩, hT'⟩ := hT.ok x ns Cc ht hm
  refine PE.weak (pe_callB (call_isEX (B := B) (initId := iI) T hz hf hc ek) hg hmi (by decide +kernel) (pa_cons hv (pa_cons htp pa_nil hs2) hs) (he := hs) (hpl := hpl)) fun σ H Q q => ?_
  obtain ⟨F, rs, S, G, m, pp⟩ := q
  unfold eXis at pp
  rw [M.bind_run] at pp
  cases e : isXc a dx x i S with
  | bad => rw [e] at pp; exact pp.elim
  | exc _ _ =>
    exfalso
    unfold isXc at e
    split at e
    · split at e <;> cases e
    · cases e
  | ok r =>
    obtain ⟨fs, S'⟩ := r
    rw [e] at pp
    obtain ⟨rfl, hsl⟩ := isXc_of e
    obtain ⟨v, hv1, hv2⟩ := m.slot i _ hsl
    obtain ⟨rfl, C, vs, h2, h3, h4⟩ := hv2
    exact ⟨.ref a, hv1, _, rfl, m.sub _ _ h3, Post.ret m pp (.bl b)⟩
theorem d_xisB {T : Str} {T' : String} {isA : Str → Bool} (hT : ClsTb X.K X.mg tb) (ht : tb.lookup x = some ns) (hm : X.mg x = some (.ref Cc)) (hz : Zc (.ref Cc) (some dx) oe) (hf : ∃ vs, oe.data = .fields vs) (hv : PE (X.suite a ((a, oe) :: pn)) (.Name n np) (tVar i))
    (hB : IsB X.K X.mg tb isA T') (hbv : bootBuiltins T = some (.type T')) (hmT : X.mg T = none) (hmi : X.mg "isinstance" = none) (hg : Gl (X.suite a ((a, oe) :: pn)) "isinstance" := by rfl) (hgC : Gl (X.suite a ((a, oe) :: pn)) T := by rfl) (hn : T ≠ "__name__" := by decide) (hdC : (T == ("__debug__" : Str)) = false := by decide)
    (hs : starEach [.Name n np, .Name T pt] X.env = (false, eval (.Name n np) X.env) :: starEach [.Name T pt] X.env := by rfl) (hs2 : starEach [.Name T pt] X.env = (false, eval (.Name T pt) X.env) :: starEach [] X.env := by rfl) (hpl : (backTo pos (starEach [.Name T pt] X.env)).any (·.1) = false := by rfl) :
    PD (X.suite a ((a, oe) :: pn)) E (.Call (.Name "isinstance" p) [.Name n np, .Name T pt] [] pos) (eXis a dx x i (isA x)) :=
  d_xis hT ht hm hz hf hv (.ty T') (hB x ns Cc ht hm) (pe_bltn hgC hmT hbv rfl hn hdC) hmi hg hs hs2 hpl
end
end DL
/-! RP1: repr of every datum, {} among them. -/
namespace DL
open PySem PySem.Spec L2
variable [TabT]
section
variable {s : Shared} {X : Cx} {pins : List (Addr × Obj)} {σ : L2.St} {H : Hp}
/-- shows: the addresses read, and the text at the depth -/
def Shows (X : Cx) (s : Shared) (d : PyData) (u : Value) : Prop := ∃ bs, ReadAtMost s.heap d.depth bs ∧ ReprK X.prog X.w bs s.heap d.depth u d.shown
mutual
theorem Dd.shows (I : Inv X pins σ H s) : ∀ (d : PyData) (v : V) (u : Value), Dd X.K H v d → RelV v u → d.showable = true → d.shown.length ≤ sizeLine → Shows X s d u
  | .none, _, _, h, r, _, _ => by cases h; cases r; exact ⟨[], (fun _ z => nomatch z), by simp only [PyData.shown]; exact .of_is ReprIs.none _ _ _⟩
  | .bool b, _, _, h, r, _, _ => by cases h; cases r; exact ⟨[], (fun _ z => nomatch z), by simp only [PyData.shown]; exact .of_is (ReprIs.bool b) _ _ _⟩
  | .int i, _, _, h, r, hs, _ => by cases h; obtain ⟨t, rfl⟩ := r; exact ⟨[], (fun _ z => nomatch z), by simp only [PyData.shown]; exact .of_is (ReprIs.int t (by simpa [PyData.showable] using hs)) _ _ _⟩
  | .str x, _, _, h, r, _, hz => by cases h; obtain ⟨t, rfl⟩ := r; exact ⟨[], (fun _ z => nomatch z), by simp only [PyData.shown]; exact .of_is (ReprIs.str x t (by simpa only [PyData.shown] using hz)) _ _ _⟩
  | .list ds, v, u, h, r, hs, hz => by
    obtain ⟨as, rd⟩ := Dd.reads I _ _ _ h r
    cases h with
    | lst hl ha =>
      cases r
      obtain ⟨its, rv, ⟨o, n, ho, hc, _, hd⟩, _⟩ := I.list (.inl hl)
      have lim : (listText (PyData.shownAll ds)).length ≤ sizeLine := by simpa only [PyData.shown] using hz
      obtain ⟨bs, hb, hk⟩ := DdAll.shows I ds _ its ha rv (by simpa [PyData.showable] using hs) fun t ht => Nat.le_trans (listText_mem_le ht) lim
      have out := not_mem_of_deeper rd (by simp only [PyData.depth]; omega) hb
      refine ⟨_ :: bs, ReadAtMost.cons rd (by simp only [PyData.depth]; omega) hb, ?_⟩; simp only [PyData.depth, PyData.shown]
      cases its with
      | nil =>
        cases rv; cases ha; simp only [PyData.shownAll, listText_nil]
        exact ReprK.listEmpty ho hc hd
      | cons y l => exact ReprK.list ho hc hd out (by simpa using hk.length_eq) fun i y e => hk.item i y (by simpa using e)
  | .tuple ds, v, u, h, r, hs, hz => by
    obtain ⟨as, rd⟩ := Dd.reads I _ _ _ h r
    cases h with
    | tup hl ha =>
      cases r
      obtain ⟨its, rv, ⟨o, ho, hc, n, hd⟩, _⟩ := I.tuple (hl.sqt (K := X.K))
      have lim : (tupleText (PyData.shownAll ds)).length ≤ sizeLine := by simpa only [PyData.shown] using hz
      obtain ⟨bs, hb, hk⟩ := DdAll.shows I ds _ its ha rv (by simpa [PyData.showable] using hs) fun t ht => Nat.le_trans (tupleText_mem_le ht) lim
      have out := not_mem_of_deeper rd (by simp only [PyData.depth]; omega) hb
      refine ⟨_ :: bs, ReadAtMost.cons rd (by simp only [PyData.depth]; omega) hb, ?_⟩; simp only [PyData.depth, PyData.shown]
      exact ReprK.tuple ho hc hd out hk
  | .dict kvs, v, u, h, r, hs, hz => by
    obtain ⟨as, rd⟩ := Dd.reads I _ _ _ h r
    cases h with
    | dic hl =>
      cases r
      obtain ⟨_, hsys, vs, rk, o, es, ep, ho, ⟨hx, _⟩, hd, _, hes, _⟩ := I.hok _ _ hl
      cases rk
      have e0 : es.toList = [] := by
        revert hes
        generalize es.toList = l
        intro hes
        cases hes
        rfl
      have none : ReadAtMost s.heap 0 [] := fun _ z => nomatch z
      refine ⟨_ :: [], ReadAtMost.cons rd (Nat.zero_le _) none, ?_⟩
      simp only [PyData.depth, PyData.shown, PyData.depthKv, PyData.shownKv]
      exact ReprK.dict ho hx hd hsys (by simp) (by rw [e0]; exact ReprEntriesK.of_two [] [] [] .nil .nil)
theorem DdAll.shows (I : Inv X pins σ H s) : ∀ (ds : List PyData) (vs : List V) (us : List Value), DdAll X.K H vs ds → Vals vs us → PyData.showableAll ds = true → (∀ t ∈ PyData.shownAll ds, t.length ≤ sizeLine) →
    ∃ bs, ReadAtMost s.heap (PyData.depthAll ds) bs ∧ ReprAllK X.prog X.w bs s.heap (PyData.depthAll ds) us (PyData.shownAll ds)
  | [], _, _, h, r, _, _ => by cases h; cases r; exact ⟨[], (fun _ z => nomatch z), by simp only [PyData.shownAll]; exact .nil⟩
  | d :: ds, _, _, h, r, hs, hz => by
    cases h with
    | cons h1 h2 =>
      cases r with
      | cons r1 r2 =>
        obtain ⟨hs1, hs2⟩ : d.showable = true ∧ PyData.showableAll ds = true := by simpa [PyData.showableAll] using hs
        obtain ⟨b1, m1, k1⟩ := Dd.shows I d _ _ h1 r1 hs1 (hz _ (by simp only [PyData.shownAll]; exact List.mem_cons_self ..))
        obtain ⟨b2, m2, k2⟩ := DdAll.shows I ds _ _ h2 r2 hs2 fun t ht => hz t (by simp only [PyData.shownAll]; exact List.mem_cons_of_mem _ ht)
        refine ⟨b1 ++ b2, fun b hm => ?_, ?_⟩
        · simp only [PyData.depthAll]
          rcases (List.mem_append.mp hm) with hm | hm
          · obtain ⟨e, as, q, hq⟩ := m1 b hm; exact ⟨e, as, q, by omega⟩
          · obtain ⟨e, as, q, hq⟩ := m2 b hm; exact ⟨e, as, q, by omega⟩
        · (simp only [PyData.depthAll, PyData.shownAll])
          (exact .cons ((k1.more fun b hb => List.mem_append_left _ hb).level_le (Nat.le_max_left _ _)) (k2.more_le (fun b hb => List.mem_append_right _ hb) (Nat.le_max_right _ _)))
end
end
/-- repr, of every datum -/
def reprA (d : PyData) : Option Str := if d.showable && decide (d.depth ≤ 100) && decide (d.shown.length ≤ 16777216) then some d.shown else none
def rReprA (K : PySem.W.Frag) : List V → Hp → VK → Prop := fun xs H Q => ∃ (x : V) (d : PyData) (y : Str), xs = [x] ∧ Dd K H x d ∧ reprA d = some y ∧ Q (.str y) H
theorem c_reprA {X : Cx} (hgd : X.A.guards = some []) (hu : X.A.units + 200 < cLine) : CallR X (.builtin "repr") (rReprA X.K) := by
  rintro pins s σ H xs us Q I r ⟨x, d, y, rfl, hd, hy, q⟩
  obtain ⟨u, rfl, ru⟩ := vals1 r; unfold reprA at hy
  split at hy
  · rename_i c
    simp only [Bool.and_eq_true, decide_eq_true_eq] at c
    cases hy
    have hz : d.shown.length ≤ sizeLine := by rw [sizeLine_eq]; omega
    have fin : ∀ (h' : Heap) (t : Tok) (tk : Nat), (∀ b o, s.heap.get? b = some o → h'.get? b = some o) → EP X pins σ Q (.str d.shown t) { s with heap := h', toks := tk } := fun h' t tk hk => ⟨.str d.shown, H, I.kept (t' := tk) fun b o z => hk b o z, ⟨t, rfl⟩, q⟩
    cases d with
    | none => cases hd; cases ru; exact P.repr_of_none (fin s.heap _ _ fun _ _ z => z)
    | bool b => cases hd; cases ru; exact P.repr_of_bool (fin s.heap _ _ fun _ _ z => z)
    | int i =>
      cases hd; obtain ⟨t, rfl⟩ := ru
      exact P.repr_of_int (by have := c.1.1; simpa [PyData.showable] using this) (fin s.heap _ _ fun _ _ z => z)
    | str x =>
      cases hd; obtain ⟨t, rfl⟩ := ru
      exact P.repr_of_str (fin s.heap _ _ fun _ _ z => z) (by simpa only [PyData.shown] using hz)
    | list ds =>
      obtain ⟨as, rd⟩ := Dd.reads I _ _ _ hd ru
      cases hd with
      | lst hl ha =>
        cases ru
        obtain ⟨its, rv, ⟨o, n, ho, hc, _, hdt⟩, _⟩ := I.list (.inl hl)
        have lim : (listText (PyData.shownAll ds)).length ≤ sizeLine := by simpa only [PyData.shown] using hz
        obtain ⟨bs, hb, hk⟩ := DdAll.shows I ds _ its ha rv (by simpa [PyData.showable] using c.1.1) fun t ht => Nat.le_trans (listText_mem_le ht) lim
        have out := not_mem_of_deeper rd (by simp only [PyData.depth]; omega) hb
        have dd := c.1.2
        simp only [PyData.depth] at dd
        refine call_repr_slot (by omega) ⟨o, ho, hc⟩ F.slot_list_repr.toG ?_
        cases its with
        | nil =>
          cases rv; cases ha
          exact call_list_repr_empty ⟨o, ho, hc⟩ ho hdt ⟨_, _, rfl, fin s.heap _ _ fun _ _ z => z⟩
        | cons y l =>
          exact call_list_reprK ho hc hdt out (by simpa using hk.length_eq) (fun i y e => hk.item i y (by simpa using e)) (A := X.A.in1) hgd (fun b _ => Clear.nil b) (by show X.A.units + 1 + _ < cLine; omega) (fun _ _ z => z) (fun h' t tk k => ⟨_, _, rfl, fin h' t tk k⟩) lim
    | tuple ds =>
      obtain ⟨as, rd⟩ := Dd.reads I _ _ _ hd ru
      cases hd with
      | tup hl ha =>
        cases ru
        obtain ⟨its, rv, ⟨o, ho, hc, n, hdt⟩, _⟩ := I.tuple (hl.sqt (K := X.K))
        have lim : (tupleText (PyData.shownAll ds)).length ≤ sizeLine := by simpa only [PyData.shown] using hz
        obtain ⟨bs, hb, hk⟩ := DdAll.shows I ds _ its ha rv (by simpa [PyData.showable] using c.1.1) fun t ht => Nat.le_trans (tupleText_mem_le ht) lim
        have out := not_mem_of_deeper rd (by simp only [PyData.depth]; omega) hb
        have dd := c.1.2
        simp only [PyData.depth] at dd
        refine call_repr_slot (by omega) ⟨o, ho, hc⟩ F.slot_tuple_repr ?_
        exact call_tuple_reprK ho hc hdt out hk (A := X.A.in1) hgd (fun b _ => Clear.nil b) (by show X.A.units + 1 + _ < cLine; omega) (fun _ _ z => z) (fun h' t tk k => ⟨_, _, rfl, fin h' t tk k⟩) lim
    | dict kvs =>
      obtain ⟨as, rd⟩ := Dd.reads I _ _ _ hd ru
      cases hd with
      | dic hl =>
        cases ru
        obtain ⟨_, hsys, vs, rk, o, es, ep, ho, ⟨hx, _⟩, hdt, _, hes, _⟩ := I.hok _ _ hl
        cases rk
        have e0 : es.toList = [] := by
          revert hes
          generalize es.toList = l
          intro hes
          cases hes
          rfl
        refine call_repr_slot (by omega) ⟨o, ho, hx⟩ F.slot_dict_repr ?_
        exact call_dict_reprK (as := []) (d := 0) (ps := []) ho hx hdt hsys (by simp) (by rw [e0]; exact ReprEntriesK.of_two [] [] [] .nil .nil) (A := X.A.in1) hgd (fun b _ => Clear.nil b) (by show X.A.units + 1 + _ < cLine; omega) (fun _ _ z => z) (fun h' t tk k => ⟨_, _, rfl, fin h' t tk k⟩) (by decide +kernel)
  · cases hy
def eReprA (t : M VD) : M VD := do let x ← t; let d ← peek x; let y ← ofO (reprA d); pure (.dat (.str y))
theorem d_reprA {X : Cx} {E : XK} {a : Expr} {pos p : Pos} {ta : M VD} (hgd : X.A.guards = some []) (hu : X.A.units + 200 < cLine) (ha : PD X E a ta) (hm : X.mg "repr" = none) (hg : Gl X "repr" := by rfl)
    (hs : starEach [a] X.env = (false, eval a X.env) :: starEach [] X.env := by rfl) (hpl : (backTo pos (starEach [] X.env)).any (·.1) = false := by rfl) : PD X E (.Call (.Name "repr" p) [a] [] pos) (eReprA ta) := PE.weak (pe_callB (c_reprA hgd hu) hg hm (by decide +kernel) (pa_cons ha pa_nil hs) (he := hs) (hpl := hpl)) fun σ H Q q => by
  obtain ⟨F, rs, S, G, m, p⟩ := q
  refine ⟨F, rs, S, G, m, (Post.seq p).mono fun v H1 ⟨rs1, S1, G1, x, u1, m1, r1, p1⟩ => ?_⟩
  obtain ⟨d, hd, p2⟩ := Post.peek p1
  obtain ⟨y, hy, p3⟩ := Post.ofO p2
  exact ⟨v, d, y, rfl, m1.peek r1 hd, hy, Post.ret m1 p3 (.str y)⟩
end DL
/-! DL25: xs.extend(ys), ys a list. -/
namespace DL
open PySem PySem.Spec L2
variable [TabT]
def extC (x y : VD) : M VD := match x, y with
  | .rf j, .rf k => fun S => match S.ce[j]?, S.ce[k]? with
    | some (.ls true ds), some (.ls _ es) => if ds.length + es.length ≤ 16777216 then .ok (.dat .none, { S with ce := S.ce.set j (.ls true (ds ++ es)) }) else .bad
    | _, _ => .bad
  | _, _ => M.bad
def eExt (to te : M VD) : M VD := do let x ← to; isRf x; let y ← te; extC x y
section
variable {X : Cx} {E : XK} {e : Expr} {pos apos : Pos}
theorem d_ext {o : Expr} {to te : M VD} (ho : PD X E o to) (he : PD X E e te) (hs : starEach [e] X.env = (false, eval e X.env) :: starEach [] X.env := by rfl)
    (hbase : attributeBase o "extend" X.env (eval o X.env) = eval o X.env := by rfl)
    (hfew : ((backTo pos (starEach [e] X.env)).all (fun x => !x.1) && (backToKw pos (keywordEach [] X.env)).all (fun x => x.1.isSome)
      && decide ([e].length + ([] : List Keyword).length + (if ([] : List Keyword).isEmpty then 0 else 1) < 30)) = true := by rfl)
    (hline : (apos.endLine == pos.line) = true := by rfl) (hplain : (backTo pos (starEach [] X.env)).any (·.1) = false := by rfl) : PD X E (.Call (.Attribute o "extend" apos) [e] [] pos) (eExt to te) :=
  PE.weak (pe_bm PySem.F.plainAttrs_list PySem.F.slot_list_extend PySem.F.type_list_extend mt_extend ho (pa_cons he pa_nil hs) hbase hfew hline hs hplain) fun σ H Q q => by
  obtain ⟨F, rs, S, G, m, p⟩ := q
  refine ⟨F, rs, S, G, m, (Post.seq p).mono fun v H1 ⟨rs1, S1, G1, x, u1, m1, r1, p1⟩ => ?_⟩
  match x, r1, p1 with
  | .dat _, _, p1 => exact p1.elim
  | .bag _, _, p1 => exact p1.elim
  | .st _, _, p1 => exact p1.elim
  | .ex _, _, p1 => exact p1.elim
  | .exs _, _, p1 => exact p1.elim
  | .oth _, _, p1 => exact p1.elim
  | .rf j, r1, p1 =>
    obtain ⟨a, ha, rfl⟩ := r1
    obtain ⟨⟨bl, dl, ec⟩, p1⟩ := Post.isRf p1
    refine ⟨.inl ⟨rfl, ?_⟩, ?_⟩
    · obtain ⟨vs, h1, _⟩ := CellOk.list m1.sub (m1.cel j a _ ha ec)
      exact ⟨vs, .inl h1⟩
    · refine ⟨F, rs1, S1, G1, m1, (Post.seq p1).mono fun w H2 ⟨rs2, S2, G2, y, u2, m2, r2, p2⟩ => ?_⟩
      have ha2 : rs2[j]? = some a := by
        obtain ⟨⟨more, rfl⟩, _⟩ := u2
        rw [List.getElem?_append_left (List.getElem?_eq_some_iff.mp ha).1]
        exact ha
      match y, r2, p2 with
      | .dat _, _, p2 => exact p2.elim
      | .bag _, _, p2 => exact p2.elim
      | .st _, _, p2 => exact p2.elim
      | .ex _, _, p2 => exact p2.elim
      | .exs _, _, p2 => exact p2.elim
      | .oth _, _, p2 => exact p2.elim
      | .rf k, r2, p2 =>
        obtain ⟨b, hb, rfl⟩ := r2
        unfold extC at p2
        dsimp only at p2
        cases e : S2.ce[j]? with
        | none => rw [e] at p2; exact p2.elim
        | some c =>
          cases c with
          | dk _ => rw [e] at p2; exact p2.elim
          | si _ => rw [e] at p2; exact p2.elim
          | ls live ds =>
          rw [e] at p2
          cases live with
          | false => exact p2.elim
          | true =>
            cases e2 : S2.ce[k]? with
            | none => rw [e2] at p2; exact p2.elim
            | some c2 =>
              cases c2 with
              | dk _ => rw [e2] at p2; exact p2.elim
              | si _ => rw [e2] at p2; exact p2.elim
              | ls l2 es =>
              rw [e2] at p2
              dsimp only at p2
              split at p2
              · rename_i hz
                obtain ⟨vs, hv, hd⟩ := Rd.lst_tracked m2 ha2 e
                obtain ⟨ws, hw, hdw⟩ : ∃ ws, H2 b = some (.lst ws) ∧ DdAll X.K G2 ws es := by
                  have k2 := m2.cel k b _ hb e2
                  cases l2 with
                  | true => obtain ⟨_, _, ws, h1, h2⟩ := k2; exact ⟨ws, h1, h2⟩
                  | false => obtain ⟨ws, h1, h2⟩ := k2; exact ⟨ws, m2.sub _ _ h1, h2⟩
                refine ⟨a, b, vs, ws, rfl, rfl, hv, hw, by rw [DdAll.length hd, DdAll.length hdw, sizeLine_eq]; exact hz, ?_⟩
                exact p2 .non _ G2 rs2 Up.refl (m2.write ha2 e (DdAll.append hd hdw)) .non
              · exact p2.elim
end
end DL
/-! DL26: defs that call themselves: the promise at depth nought. -/
namespace DL
open PySem PySem.Spec L2
variable [TabT]
theorem fn_bad {P : Program} {w : World} {K : PySem.W.Frag} {mg : Str → Option Value} {base : Heap} {k n : Nat} {f : Addr} {fd : FuncData} {ps : List Str} (hn : n = ps.length := by rfl) : DG.FnG P w K mg base k f fd ps (spD K w mg n (fun _ => M.bad)) := by
  subst hn
  refine ⟨fun xs H Q E h => h.1, fun A outer s H us vs Q E _ _ _ _ _ h => ?_⟩
  obtain ⟨_, F, rs, ce, G, xs, m, r, p⟩ := h
  exact p.elim
end DL
/-! DL27: an except suite's den speaks of no address. -/
namespace DL
open PySem PySem.Spec L2
variable [TabT]
section
variable {α β : Type} {n i : Nat} {a d : Addr} {cls : Str} {fs : List (Str × PyData)}
/-- the same from both states -/
def Fr (n i : Nat) (a d : Addr) (cls : Str) (fs : List (Str × PyData)) (t t' : M α) : Prop := ∀ ce, (∃ x ce', t (xcS n i a d cls fs ce) = .ok (x, xcS n i a d cls fs ce') ∧ t' (xcS n i 0 0 cls fs ce) = .ok (x, xcS n i 0 0 cls fs ce')) ∨ (t (xcS n i a d cls fs ce) = .bad ∧ t' (xcS n i 0 0 cls fs ce) = .bad)
theorem fr_bind {t t' : M α} {g g' : α → M β} (h : Fr n i a d cls fs t t') (k : ∀ x, Fr n i a d cls fs (g x) (g' x)) : Fr n i a d cls fs (t >>= g) (t' >>= g') := fun ce => by
  rw [M.bind_run, M.bind_run]
  rcases h ce with ⟨x, ce', e1, e2⟩ | ⟨e1, e2⟩
  · rw [e1, e2]; exact k x ce'
  · rw [e1, e2]; exact .inr ⟨rfl, rfl⟩
theorem fr_pure {x : α} : Fr n i a d cls fs (pure x) (pure x) := fun ce => .inl ⟨x, ce, rfl, rfl⟩
theorem fr_bad : Fr n i a d cls fs (M.bad : M α) M.bad := fun ce => .inr ⟨rfl, rfl⟩
theorem fr_ofO {o : Option α} : Fr n i a d cls fs (ofO o) (ofO o) := by
  cases o with
  | none => exact fr_bad
  | some x => exact fr_pure
theorem fr_chk {b : Bool} : Fr n i a d cls fs (chk b) (chk b) := by
  cases b with
  | false => exact fr_bad
  | true => exact fr_pure
theorem fr_newL {ds : List PyData} : Fr n i a d cls fs (newL ds) (newL ds) := fun ce => .inl ⟨_, _, rfl, rfl⟩
theorem fr_toD : ∀ {x : VD}, Fr n i a d cls fs (toD x) (toD x)
  | .dat _ => fr_pure
  | .rf j => fun ce => by
    unfold toD
    cases e : ce[j]? with
    | none => right; simp [xcS, e]
    | some c =>
      cases c with
      | dk _ => right; simp [xcS, e]
      | si _ => right; simp [xcS, e]
      | ls b ds =>
      cases b with
      | true => left; exact ⟨.list ds, ce.set j (.ls false ds), by simp [xcS, e], by simp [xcS, e]⟩
      | false => left; exact ⟨.list ds, ce, by simp [xcS, e], by simp [xcS, e]⟩
  | .bag _ => fr_bad
  | .st _ => fr_bad
  | .ex _ => fr_bad
  | .exs _ => fr_bad
  | .oth _ => fr_bad
theorem fr_toDs : ∀ {xs : List VD}, Fr n i a d cls fs (toDs xs) (toDs xs)
  | [] => fr_pure
  | x :: xs => fr_bind fr_toD fun _ => fr_bind fr_toDs fun _ => fr_pure
theorem fr_isXc {c : Str} (h : i < n) : Fr n i a d cls fs (isXc a d c i) (isXc 0 0 c i) := fun ce => by
  by_cases hc : cls = c
  · subst hc; left; exact ⟨fs, ce, isXc_run h, isXc_run h⟩
  · right; exact ⟨isXc_no h hc, isXc_no h hc⟩
theorem fr_xf {c f : Str} (h : i < n) : Fr n i a d cls fs (eXf a d c i f) (eXf 0 0 c i f) := fr_bind (fr_isXc h) fun _ => fr_bind fr_ofO fun _ => fr_pure
theorem fr_xis {c : Str} {b : Bool} (h : i < n) : Fr n i a d cls fs (eXis a d c i b) (eXis 0 0 c i b) := fr_bind (fr_isXc h) fun _ => fr_pure
theorem fr_cons {t t' : M VD} {u u' : M (List VD)} (h : Fr n i a d cls fs t t') (k : Fr n i a d cls fs u u') : Fr n i a d cls fs (aCons t u) (aCons t' u') := fr_bind h fun _ => fr_bind k fun _ => fr_pure
theorem fr_lst {u u' : M (List VD)} (k : Fr n i a d cls fs u u') : Fr n i a d cls fs (eLst u) (eLst u') := fr_bind k fun _ => fr_bind fr_toDs fun _ => fr_bind fr_chk fun _ => fr_newL
theorem fr_tup {u u' : M (List VD)} (k : Fr n i a d cls fs u u') : Fr n i a d cls fs (eTup u) (eTup u') := fr_bind k fun _ => fr_bind fr_toDs fun _ => fr_bind fr_chk fun _ => fr_pure
theorem fr_test {c : Str} {b : Bool} (h : i < n) : Fr n i a d cls fs (tOf (eXis a d c i b)) (tOf (eXis 0 0 c i b)) := fr_bind (fr_xis h) fun x => by
  cases x with
  | dat y => cases y with
    | bool _ => exact fr_pure
    | _ => exact fr_bad
  | _ => exact fr_bad
theorem fr_if {c c' : M Bool} {t t' u u' : M VD} (hc : Fr n i a d cls fs c c') (ht : Fr n i a d cls fs t t') (hu : Fr n i a d cls fs u u') : Fr n i a d cls fs (eIf c t u) (eIf c' t' u') := fr_bind hc fun b => by
  cases b with
  | true => exact ht
  | false => exact hu
theorem fr_ret {t t' : M VD} {ce : List Cl} (h : Fr n i a d cls fs t t') : unsl i (sRet t (xcS n i a d cls fs ce)) = unsl i (sRet t' (xcS n i 0 0 cls fs ce)) := by
  unfold sRet
  rw [M.bind_run, M.bind_run]
  rcases h ce with ⟨x, ce', e1, e2⟩ | ⟨e1, e2⟩
  · rw [e1, e2]
    show R.ok (Fl.rt x, (⟨(xcS n i a d cls fs ce').sl.set i none, ce'⟩ : DS)) = R.ok (Fl.rt x, ⟨(xcS n i 0 0 cls fs ce').sl.set i none, ce'⟩)
    simp [xcS]
  · rw [e1, e2]
end
end DL
/-! DL28: except clauses of own classes, by the table. -/
namespace DL
open PySem PySem.Spec L2 EX
variable [TabT]
def exmOwn (K : PySem.W.Frag) (cs : List ClsE) : Bool := cs.all fun p => cs.all fun q => decide (W.exmOne K (.ref p.2.2.2) (.ref q.2.2.2) = some (decide (p.1 = q.1)))
theorem isM {K : PySem.W.Frag} {mg : Str → Option Value} {cs : List ClsE} (h : exmOwn K cs = true) (hm : ∀ p ∈ cs, mg p.1 = some (.ref p.2.2.2)) {q : ClsE} (hq : q ∈ cs) : ∃ Cc, IsM K mg (tbOf cs) q.1 Cc := ⟨q.2.2.2, hm q hq, fun c ns D h1 h2 => by
  obtain ⟨p, hp, rfl, rfl, rfl⟩ := tb_in hm h1 h2
  exact of_decide_eq_true (List.all_eq_true.mp (List.all_eq_true.mp h p hp) q hq)⟩
end DL
/-! DM1: x * y for lists and tuples, min and max of two, extend by a tuple, displays with stars. -/
namespace DL
open PySem PySem.Spec L2
variable [TabT]
/-! ### x * y, whatever they are -/
def rRepL : R2 := fun x y H Q => ∃ l k xs, x = .ref l ∧ y = .int k ∧ Rd H l (.lst xs) ∧ 0 ≤ k ∧ k ≤ 1000 ∧ xs.length * k.toNat ≤ sizeLine ∧ ∀ p, H p = none → Q (.ref p) (upd H p (.lst (List.replicate k.toNat xs).flatten))
theorem flat_fold (its : List Value) (m : Nat) : List.foldl (fun a b => a ++ b) #[] (List.replicate m its.toArray) = (List.replicate m its).flatten.toArray := by
  simpa using foldl_rep its m []
theorem op_repL {X : Cx} : OpR X (binaryOp .Mult) rRepL := by
  rintro pins s σ H x y v u Q I rx ry ⟨l, k, xs, rfl, rfl, hH, h1, h2, hz, q⟩
  cases rx
  obtain ⟨t, rfl⟩ := ry
  obtain ⟨_, its, n, r, e⟩ := hH.ok I.hok
  have el : xs.length = its.length := r.length
  have sz : its.toArray.size * k.toNat ≤ sizeLine := by rw [List.size_toArray, ← el]; exact hz
  have big : (sizeLine : Nat) ≤ (2 ^ 63 - 1) / 8 := by decide
  have few : ¬ its.toArray.size * k.toNat > (2 ^ 63 - 1) / 8 := by omega
  have fit : ¬ (!Builtin.List.listFitsIndex k) = true := by rw [fitsIndex_both (by omega) (by omega)]; exact Bool.false_ne_true
  have long : ¬ Builtin.List.listTooLong (its.toArray.size * k.toNat) = true := by rw [notLongL sz]; exact Bool.false_ne_true
  have new : List.foldl (fun a b => a ++ b) #[] (List.replicate (if its.toArray.isEmpty = true then 0 else k.toNat) its.toArray) = (List.replicate k.toNat its).flatten.toArray := by
    rw [flat_fold]
    cases its with
    | nil => simp
    | cons a r' => (rw [if_neg (by simp)])
  refine wpAny_binaryOp_repeat_ref (T := "list") (U := "int") (by decide) ⟨_, e, rfl⟩ (fun s' => typeIs_int s' k t) noFill_list_mul PySem.F.fills_int_mul PySem.F.slot_int_rmul repeat_list PySem.F.slot_int_index.lookup (call_meets PySem.F.slot_int_rmul (typeIs_int s k t) PySem.F.entry_int_rmul (PySem.F.args_int_rmul_2 _ _) (int___rmul___int_list k t l its.toArray n) ⟨e, rfl, ⟨_, e, rfl⟩, call_meets PySem.F.slot_list_mul ⟨_, e, rfl⟩ PySem.F.entry_list_mul (PySem.F.args_list_mul_2 _ _) (AutoListH.list___mul___list_int_3 l its.toArray n k t fit few long) ⟨e, ?_⟩⟩)
  rw [new]; exact ⟨.ref _, _, I.lnew (t' := s.toks) (r.rep k.toNat) (by rw [PyProof.Rows.lm_len_rep_flat, Nat.mul_comm]; exact hz), rfl, q _ I.fresh⟩
def repD (n : Nat) (ds : List PyData) : List PyData := (List.replicate n ds).flatten
theorem rep_dd {K : PySem.W.Frag} {G : Hp} {vs : List V} {ds : List PyData} (h : DdAll K G vs ds) : ∀ n : Nat, DdAll K G (List.replicate n vs).flatten (repD n ds)
  | 0 => .nil
  | n + 1 => DdAll.append h (rep_dd h n)
def mulD (d e : PyData) : M VD := match d, e with
  | .int i, .int j => do let r ← ofO (fMul (.int i) (.int j)); pure (.dat r)
  | .list xs, .int k => do chk (decide (0 ≤ k ∧ k ≤ 1000 ∧ xs.length ≤ 1000)); newL (repD k.toNat xs)
  | .tuple xs, .int k => do chk (decide (2 ≤ k ∧ k ≤ 1000 ∧ xs.length ≤ 1000 ∧ xs ≠ [])); pure (.dat (.tuple (repD k.toNat xs)))
  | _, _ => M.bad
def eMul (ta tb : M VD) : M VD := do let x ← ta; let y ← tb; let d ← peek x; let e ← peek y; mulD d e
section
variable {X : Cx} {E : XK} {a b : Expr} {pos : Pos}
theorem d_mul {ta tb : M VD} (ha : PD X E a ta) (hb : PD X E b tb) : PD X E (.BinOp a .Mult b pos) (eMul ta tb) :=
  PE.weak (pe_op (OpR.or o_mul (OpR.or op_repL TN.op_repN)) ha hb) fun σ H Q q => by
  obtain ⟨F, rs, S, G, m, p⟩ := q
  refine ⟨F, rs, S, G, m, (Post.seq p).mono fun v H1 ⟨rs1, S1, G1, x, u1, m1, r1, p1⟩ => ?_⟩
  refine ⟨F, rs1, S1, G1, m1, (Post.seq p1).mono fun w H2 ⟨rs2, S2, G2, y, u2, m2, r2, p2⟩ => ?_⟩
  obtain ⟨d, hd, p3⟩ := Post.peek p2
  obtain ⟨e, he, p4⟩ := Post.peek p3
  have hx := m2.peek (RdV.up u2 r1) hd
  have hy := m2.peek r2 he
  unfold mulD at p4
  split at p4
  · obtain ⟨r, hr, p5⟩ := Post.ofO p4
    obtain ⟨k, rfl⟩ : ∃ k, r = .int k := by
      simp only [fMul, fI] at hr
      split at hr <;> first | exact ⟨_, (Option.some.inj hr).symm⟩ | cases hr
    exact .inl ⟨_, _, _, _, hx, hy, hr, rfl, Post.ret m2 p5 (.int k)⟩
  · rename_i xs k
    obtain ⟨hc, p5⟩ := Post.chk p4
    have hc' := of_decide_eq_true hc
    obtain ⟨l, vs, rfl, h1, h2⟩ := m2.peekL (RdV.up u2 r1) hd
    cases hy
    refine .inr (.inl ⟨l, k, vs, rfl, rfl, h1, hc'.1, hc'.2.1, ?_, fun q hq => newLst m2 (rep_dd h2 _) p5 hq⟩)
    rw [DdAll.length h2, sizeLine_eq]
    have : k.toNat ≤ 1000 := by omega
    exact Nat.le_trans (Nat.mul_le_mul hc'.2.2 this) (by decide)
  · rename_i xs k
    obtain ⟨hc, p5⟩ := Post.chk p4
    have hc' := of_decide_eq_true hc
    obtain ⟨l, vs, rfl, h1, h2, w1⟩ := m2.peekT (RdV.up u2 r1) hd
    cases hy
    refine .inr (.inr ⟨l, k, vs, rfl, rfl, h1, ?_, hc'.1, hc'.2.1, by rw [DdAll.length h2]; exact hc'.2.2.1, fun q its hq => newTup m2 (rep_dd h2 _) p5 hq⟩)
    intro e0
    subst e0
    cases h2
    exact hc'.2.2.2 rfl
  · exact p4.elim
/-! ### min(x, y), max(x, y) of numbers -/
def fMin2 (d e : PyData) : Option PyData := match d, e with
  | .int i, .int j => some (.int (if j < i then j else i))
  | _, _ => none
def fMax2 (d e : PyData) : Option PyData := match d, e with
  | .int i, .int j => some (.int (if j > i then j else i))
  | _, _ => none
def eFn2 (f : PyData → PyData → Option PyData) (t : M (List VD)) : M VD := do
  let xs ← t
  match xs with
  | [x, y] => do let d ← peek x; let e ← peek y; let r ← ofO (f d e); scal r
  | _ => M.bad
theorem d_fn2 {x : Str} {id : String} {f : PyData → PyData → Option PyData} {t : M (List VD)} {p : Pos} {rr : List V → Hp → VK → Prop} (hc : CallR X (.builtin id) rr) (hf : ∀ (v w : V) (d e r : PyData) (z : V) (H : Hp) (Q : VK), Dd X.K H v d → Dd X.K H w e → f d e = some r → scalV r = some z → Q z H → rr [v, w] H Q)
    (ht : PDA X E [a, b] t) (hg : Gl X x) (hm : X.mg x = none) (hv : bootBuiltins x = some (.builtin id)) (hn : x ≠ "__name__" := by decide) (hd : (x == ("__debug__" : Str)) = false := by decide)
    (he : starEach [a, b] X.env = (false, eval a X.env) :: starEach [b] X.env := by rfl) (hpl : (backTo pos (starEach [b] X.env)).any (·.1) = false := by rfl) : PD X E (.Call (.Name x p) [a, b] [] pos) (eFn2 f t) :=
  PE.weak (pe_callB hc hg hm hv ht (hn := hn) (hdb := hd) (he := he) (hpl := hpl)) fun σ H Q q => by
  obtain ⟨F, rs, S, G, m, p⟩ := q
  refine ⟨F, rs, S, G, m, (Post.seq p).mono fun vs H1 ⟨rs1, S1, G1, xs, u1, m1, r1, p1⟩ => ?_⟩
  match xs, vs, r1, p1 with
  | [x, y], [v, w], r1, p1 =>
    obtain ⟨d, hd, p2⟩ := Post.peek p1
    obtain ⟨e, he, p3⟩ := Post.peek p2
    obtain ⟨r, hr, p4⟩ := Post.ofO p3
    obtain ⟨z, hz, p5⟩ := Post.scal m1 p4
    exact hf _ _ _ _ _ _ _ _ (m1.peek r1.1 hd) (m1.peek r1.2.1 he) hr hz p5
  | [], _, _, p1 => exact p1.elim
  | [_], _, _, p1 => exact p1.elim
  | _ :: _ :: _ :: _, _, _, p1 => exact p1.elim
  | [_, _], [], r1, _ => exact r1.elim
  | [_, _], [_], r1, _ => exact r1.2.elim
  | [_, _], _ :: _ :: _ :: _, r1, _ => exact r1.2.2.elim
theorem d_min2 {t : M (List VD)} {p : Pos} (hc : X.calm = true) (ht : PDA X E [a, b] t) (hm : X.mg "min" = none) (hg : Gl X "min" := by rfl) (he : starEach [a, b] X.env = (false, eval a X.env) :: starEach [b] X.env := by rfl) (hpl : (backTo pos (starEach [b] X.env)).any (·.1) = false := by rfl) : PD X E (.Call (.Name "min" p) [a, b] [] pos) (eFn2 fMin2 t) :=
  d_fn2 (call_min2 hc) (fun v w d e r z H Q h1 h2 h3 h4 q => by
    cases d <;> cases e <;> cases h3
    cases h1; cases h2; cases h4
    exact ⟨_, _, rfl, q⟩) ht hg hm (by decide +kernel) (he := he) (hpl := hpl)
theorem d_max2 {t : M (List VD)} {p : Pos} (hc : X.calm = true) (ht : PDA X E [a, b] t) (hm : X.mg "max" = none) (hg : Gl X "max" := by rfl) (he : starEach [a, b] X.env = (false, eval a X.env) :: starEach [b] X.env := by rfl) (hpl : (backTo pos (starEach [b] X.env)).any (·.1) = false := by rfl) : PD X E (.Call (.Name "max" p) [a, b] [] pos) (eFn2 fMax2 t) :=
  d_fn2 (call_max2 hc) (fun v w d e r z H Q h1 h2 h3 h4 q => by
    cases d <;> cases e <;> cases h3
    cases h1; cases h2; cases h4
    exact ⟨_, _, rfl, q⟩) ht hg hm (by decide +kernel) (he := he) (hpl := hpl)
end
end DL
/-! SI1: set(x), x a list of ints. -/
namespace NS
open L2 PyProof.Rows PySem PySem.Spec
section
variable {P : Program} {w : World} {A : Around} {E : Value → Shared → Prop} {st : Shared}

set_option maxHeartbeats 3200007 in
/-- set(x), x a list of whole numbers -/
theorem set_of_ints {l : Addr} {items : Array Value} (ns : List Int) {Q : Value → Shared → Prop} (hh : A.handled = none) (hl : st.heap.IsList l items) (hit : IntsAre items.toList ns) (few : ns.length + 1 < scanBound)
    (fin : ∀ (h' : Heap) (tk c : Nat), SetR w h' st.heap.objs.size (fun j => decide (j ∈ ns)) c → c ≤ ns.length → (∀ b o, st.heap.get? b = some o → h'.get? b = some o) → Q (.ref st.heap.objs.size) { st with heap := h', toks := tk }) :
    wpAny (model P w) A (call (.type "set") [.ref l]) Q E st := by
  have cnt : items.size = ns.length := by
    have q := IntsAre.length hit
    rw [Array.length_toList] at q
    exact q
  obtain ⟨c0, tl0, mro0⟩ := F.called_set.mro
  have f_made := F.called_set.made
  have f_sub := F.called_set.sub
  have f_not := F.called_set.notType
  have f_can := F.called_set.canCreate
  have f_call := F.typeCall_set_1 (.ref l); refine wpAny_call (codeAny_of_tree ?_)
  show wpAny _ _ (callAny (.type "set") _) _ _ _; refine wpAny_pure ⟨Code.quiet_builtin _ (by decide +kernel), codeAny_builtin F.entry_type_call ?_⟩; rw [Around.under_plain (weight_type_call_type "set" [.ref l] []) rfl]; repeat (any_goals (first | assumption | wp_step))
  -- the new set
  have laid : (st.heap.push (emptySet w)).get? st.heap.objs.size = some (emptySet w) := Heap.get?_push_size _ rfl
  refine codeAny_mono (code_set_led1 (.ref l) (E := E) (Q₁ := fun u s1 => u = .ref st.heap.objs.size ∧ s1 = { st with heap := st.heap.push (emptySet w) }) ⟨rfl, rfl⟩) fun r s1 hr => ?_
  match r, hr with
  | .error e, hr => exact hr
  | .ok (.ret u), hr =>
    obtain ⟨rfl, rfl⟩ := hr
    have isSet : Shared.TypeIs { st with heap := st.heap.push (emptySet w) } (.ref st.heap.objs.size) "set" := ⟨_, laid, rfl⟩
    have f_il := F.called_set.init.lookup
    have f_ib := F.called_set.init.bind (.ref st.heap.objs.size); repeat (any_goals (first | assumption | wp_step))
    refine codeAny_mono (codeAny_call_builtin (R := wants (fun r s2 => r = .none ∧ ∃ h' tk c, s2 = { st with heap := h', toks := tk } ∧ SetR w h' st.heap.objs.size (fun j => decide (j ∈ ns)) c ∧ c ≤ ns.length ∧
        (∀ b o, st.heap.get? b = some o → h'.get? b = some o)) E) F.called_set.init.plain F.entry_set_init (check_set_init_1 isSet ?_)) fun r2 s2 hr2 => ?_
    · obtain ⟨⟨cl, dc, dt, sl⟩, at_l, cls_l, nl, dat_l⟩ := id hl
      simp only at cls_l dat_l
      subst cls_l
      subst dat_l
      have lt_l : l < st.heap.objs.size := Heap.lt_size at_l
      have at_l1 : (st.heap.push (emptySet w)).get? l = some { cls := .type "list", dict := dc, data := .seq items nl, slots := sl } := Heap.get?_push_of_some _ at_l
      have f_s1 := F.sub_list_set
      have f_s2 := F.sub_list_frozenset
      have f_nd : (Value.type "list" == Value.type "dict") = false := by decide
      have seq1 : (st.heap.push (emptySet w)).IsList l items := ⟨_, at_l1, rfl, nl, rfl⟩
      have cool : A.in1.in1.in1.handled = none := by simp [hh]
      unfold Builtin.«set.__init__» noKeywords Builtin.Frozenset.updateFrom; generalize epi : pyIter = PI
      wp_walk
      subst epi
      refine wpAny_pyIter_list seq1 ?_; refine wpAny_bind (wpAny_runValue ?_)
      have ne_it : l ≠ (st.heap.push (emptySet w)).objs.size := by
        rw [Heap.size_push]
        exact Nat.ne_of_lt (Nat.lt_succ_of_lt lt_l)
      have off_it : st.heap.objs.size ∉ [(st.heap.push (emptySet w)).objs.size, l] := by
        rw [Heap.size_push]
        simp only [List.mem_cons, List.not_mem_nil, or_false, not_or]
        exact ⟨Nat.ne_of_lt (Nat.lt_succ_self _), Nat.ne_of_gt lt_l⟩
      have val : ∀ (i : Nat) (v : Value), items[i]? = some v → ∃ k t, ns[i]? = some k ∧ v = .int k t := fun i v hv => by
        have hi : i < ns.length := by rw [← cnt]; exact (Array.getElem?_eq_some_iff.mp hv).1
        obtain ⟨t, e⟩ := IntsAre.int_at hit i v (by rw [Array.getElem?_toList]; exact hv)
        exact ⟨ns[i], t, List.getElem?_eq_getElem hi, by rw [e, List.getD_eq_getElem?_getD, List.getElem?_eq_getElem hi]; rfl⟩
      refine set_update_ints ((Walks.list cool _ l ne_it items).toS) st.heap.objs.size off_it ns cnt few val (items.size - 0) 0 _ (by omega) (Nat.zero_le _)
        ⟨⟨_, Heap.get?_push_size _ rfl, rfl, rfl⟩, (seq1.push _)⟩ ⟨0, Nat.le_refl 0, setR_new_at (Heap.get?_push_of_some _ laid)⟩ ?_
      intro s' c' mv hc' hS'
      obtain ⟨h', g2, d2, t2, o2⟩ := s'
      have eg : g2 = st.gens := mv.gens
      have ed : d2 = st.drawn := mv.drawn
      have eo : o2 = st.os := mv.os
      subst eg
      subst ed
      subst eo
      refine wpAny_pure ?_
      rw [cnt] at hc'
      refine wpAny_pure ⟨rfl, h', t2, c', rfl, hS', hc', fun b o e => ?_⟩
      have lt := Heap.lt_size e
      refine mv.heap b o (fun z => ?_) (Heap.get?_push_of_some _ (Heap.get?_push_of_some _ e))
      rw [Heap.size_push] at z; rcases List.mem_cons.mp z with z | z
      · exact absurd lt (by rw [z]; exact Nat.lt_irrefl _)
      · exact absurd lt (by rw [List.mem_singleton.mp z]; exact Nat.not_lt.mpr (Nat.le_succ _))
    · match r2, hr2 with
      | .error e, hr2 => exact hr2
      | .ok (.ret r), hr2 =>
        obtain ⟨rfl, h', tk, c, rfl, Z, g, k1⟩ := hr2; repeat (any_goals (first | assumption | wp_step))
        exact fin _ _ _ Z g k1
      | .ok .next, hr2 => exact hr2.elim
      | .ok .brk, hr2 => exact hr2.elim
      | .ok .cont, hr2 => exact hr2.elim
  | .ok .next, hr => exact hr.elim
  | .ok .brk, hr => exact hr.elim
  | .ok .cont, hr => exact hr.elim
end
end NS
/-! SI2: sets of whole numbers as cells. -/
namespace DL
open PySem PySem.Spec L2
variable [TabT]
/-- each number once -/
def onceI : List Int → List Int
  | [] => []
  | k :: ks => if k ∈ onceI ks then onceI ks else k :: onceI ks
theorem mem_onceI {x : Int} : ∀ {ks : List Int}, x ∈ onceI ks ↔ x ∈ ks
  | [] => Iff.rfl
  | k :: ks => by
    unfold onceI
    split
    · rename_i h
      rw [List.mem_cons, mem_onceI]
      exact ⟨.inr, fun z => z.elim (fun e => e ▸ mem_onceI.mp h) id⟩
    · rw [List.mem_cons, List.mem_cons, mem_onceI]
theorem onceI_nodup : ∀ ks : List Int, (onceI ks).Nodup
  | [] => List.nodup_nil
  | k :: ks => by
    unfold onceI
    split
    · exact onceI_nodup ks
    · rename_i h
      exact List.nodup_cons.mpr ⟨h, onceI_nodup ks⟩
/-- ascending, each once -/
def insI (k : Int) : List Int → List Int
  | [] => [k]
  | x :: xs => if k < x then k :: x :: xs else if k = x then x :: xs else x :: insI k xs
def sortI (ks : List Int) : List Int := ks.foldr insI []
theorem mem_insI {k y : Int} : ∀ {xs : List Int}, y ∈ insI k xs ↔ y = k ∨ y ∈ xs
  | [] => by simp [insI]
  | x :: xs => by
    unfold insI
    split
    · simp
    · split
      · rename_i h; subst h; simp
      · rw [List.mem_cons, mem_insI, List.mem_cons]
        constructor
        · rintro (h | h | h)
          · exact .inr (.inl h)
          · exact .inl h
          · exact .inr (.inr h)
        · rintro (h | h | h)
          · exact .inr (.inl h)
          · exact .inl h
          · exact .inr (.inr h)
theorem mem_sortI {y : Int} : ∀ {ns : List Int}, y ∈ sortI ns ↔ y ∈ ns
  | [] => Iff.rfl
  | k :: ns => by
    show y ∈ insI k (sortI ns) ↔ _
    rw [mem_insI, mem_sortI, List.mem_cons]
theorem insI_up {k : Int} : ∀ {xs : List Int}, xs.Pairwise (· < ·) → (insI k xs).Pairwise (· < ·)
  | [], _ => by simp [insI]
  | x :: xs, h => by
    obtain ⟨h1, h2⟩ := List.pairwise_cons.mp h; unfold insI
    split
    · rename_i hk
      refine List.pairwise_cons.mpr ⟨fun y hy => ?_, h⟩
      rcases List.mem_cons.mp hy with rfl | z
      · exact hk
      · have := h1 y z; omega
    · split
      · exact h
      · refine List.pairwise_cons.mpr ⟨fun y hy => ?_, insI_up h2⟩
        rcases mem_insI.mp hy with rfl | z
        · omega
        · exact h1 y z
theorem sortI_up : ∀ ns : List Int, (sortI ns).Pairwise (· < ·)
  | [] => List.Pairwise.nil
  | k :: ns => insI_up (sortI_up ns)
theorem up_uniq : ∀ {xs ys : List Int}, xs.Pairwise (· < ·) → ys.Pairwise (· < ·) → (∀ k, k ∈ xs ↔ k ∈ ys) → xs = ys
  | [], [], _, _, _ => rfl
  | [], y :: ys, _, _, h => absurd ((h y).mpr List.mem_cons_self) (by simp)
  | x :: xs, [], _, _, h => absurd ((h x).mp List.mem_cons_self) (by simp)
  | x :: xs, y :: ys, hx, hy, h => by
    obtain ⟨x1, x2⟩ := List.pairwise_cons.mp hx
    obtain ⟨y1, y2⟩ := List.pairwise_cons.mp hy
    have e : x = y := by
      rcases List.mem_cons.mp ((h x).mp List.mem_cons_self) with e | z
      · exact e
      · rcases List.mem_cons.mp ((h y).mpr List.mem_cons_self) with e | z'
        · exact e.symm
        · have a := y1 x z; have b := x1 y z'; omega
    subst e
    rw [up_uniq x2 y2 fun k => ?_]
    constructor
    · intro hk
      rcases List.mem_cons.mp ((h k).mp (List.mem_cons_of_mem _ hk)) with e | z
      · have := x1 k hk; omega
      · exact z
    · intro hk
      rcases List.mem_cons.mp ((h k).mpr (List.mem_cons_of_mem _ hk)) with e | z
      · have := y1 k hk; omega
      · exact z
theorem up_nodup {xs : List Int} (h : xs.Pairwise (· < ·)) : xs.Nodup := h.imp fun a e => by omega

/-! ### set(x) -/
def intsOf : List PyData → Option (List Int)
  | [] => some []
  | .int k :: ds => (intsOf ds).map (k :: ·)
  | _ :: _ => none
theorem intsOf_vs {K : PySem.W.Frag} {G : Hp} : ∀ {ds : List PyData} {vs : List V} {ns : List Int}, intsOf ds = some ns → DdAll K G vs ds → vs = ns.map V.int ∧ ds = ns.map PyData.int
  | [], _, _, h, .nil => by cases h; exact ⟨rfl, rfl⟩
  | .int k :: ds, _, _, h, .cons r t => by
    unfold intsOf at h
    cases e : intsOf ds with
    | none => (rw [e] at h; cases h)
    | some ms =>
      rw [e] at h
      cases h
      cases r
      obtain ⟨h1, h2⟩ := intsOf_vs e t
      exact ⟨by rw [h1]; rfl, by rw [h2]; rfl⟩
theorem dd_ints {K : PySem.W.Frag} {G : Hp} : ∀ ns : List Int, DdAll K G (ns.map V.int) (ns.map PyData.int)
  | [] => .nil
  | k :: ns => .cons (.int k) (dd_ints ns)
theorem ints_vals : ∀ {ns : List Int} {us : List Value}, Vals (ns.map V.int) us → PyProof.Rows.IntsAre us ns
  | [], _, .nil => .nil
  | k :: ns, _, .cons r t => by
    obtain ⟨tk, rfl⟩ := r
    exact .cons k tk (ints_vals t)
theorem setR_once {w : World} {h : Heap} {a : Addr} {ns : List Int} {n : Nat} (R : SetR w h a (fun j => decide (j ∈ ns)) n) : SetR w h a (fun j => decide (j ∈ onceI ns)) (onceI ns).length := by
  have R' : SetR w h a (fun j => decide (j ∈ onceI ns)) n := R.congr fun k => by rw [decide_eq_decide]; exact mem_onceI
  have e : n = (onceI ns).length := by
    obtain ⟨o, es, ep, t, ho, hx, hd, g, nd, hm, hb, hf, hn, _⟩ := R'
    have p : (es.toList.map L2.keyOf).Perm (onceI ns) := (List.perm_ext_iff_of_nodup nd (onceI_nodup ns)).mpr fun k => by
      rw [← hm k, decide_eq_true_eq]
    rw [← p.length_eq, List.length_map, Array.length_toList]
    exact hn.symm
  rw [← e]
  exact R'
section
variable {X : Cx} {E : XK} {e a b : Expr} {es : List Expr} {pos p p1 p2 : Pos}
def rSetI (K : PySem.W.Frag) (w : World) : List V → Hp → VK → Prop := fun xs H Q => ∃ a ns, xs = [V.ref a] ∧ (Rd H a (.lst (ns.map V.int)) ∨ SqT K H a (ns.map V.int)) ∧ ns.length ≤ 1000 ∧
  ∀ q, H q = none → Q (.ref q) (upd H q (SetO w q (fun k => decide (k ∈ onceI ns)) (onceI ns).length))
theorem c_setI (hc : X.calm = true) : CallR X (.type "set") (rSetI X.K X.w) := by
  intro pins s σ H xs us Q I r h; obtain ⟨a, ns, rfl, ha, hl, q⟩ := h; obtain ⟨u, rfl, ru⟩ := vals1 r
  cases ru
  have few : ns.length + 1 < scanBound := by unfold scanBound; omega
  have done : ∀ (h' : Heap) (tk c : Nat), SetR X.w h' s.heap.objs.size (fun j => decide (j ∈ ns)) c → c ≤ ns.length → (∀ b o, s.heap.get? b = some o → h'.get? b = some o) → EP X pins σ Q (.ref s.heap.objs.size) { s with heap := h', toks := tk } := fun h' tk c R _ k =>
    ⟨.ref s.heap.objs.size, _, I.laid (t' := tk) k (Nat.le_refl _) (setO_new (setR_once R)), rfl, q _ (I.hok.fresh (Nat.le_refl _))⟩
  rcases ha with ha | ha
  · obtain ⟨its, rv, pl, hz⟩ := I.list (.inl ha)
    exact NS.set_of_ints ns (I.ok.hd hc) pl.isList (by simpa using ints_vals rv) few done
  · obtain ⟨its, rv, pl, hz⟩ := I.tuple ha
    exact call_set_tupI ns (I.ok.hd hc) pl (by simpa using ints_vals rv) few done
def newS (ns : List Int) : M VD := fun S => .ok (.rf S.ce.length, { S with ce := S.ce ++ [.si ns] })
theorem newSt {F : Hp} {rs : List Addr} {S : DS} {σ : L2.St} {H G : Hp} {ns : List Int} {Q : VK} (m : Md X.K X.wd F rs S σ H G) (hn : ns.Nodup) (h : Post X.K X.wd X.mg E F σ (RdV X.K X.wd) rs G (newS ns S) Q) {p : Addr} (hp : H p = none) :
    Q (.ref p) (upd H p (SetO X.w p (fun k => decide (k ∈ ns)) ns.length)) :=
  h (.ref p) _ G (rs ++ [p]) ⟨⟨[p], rfl⟩, L2.Same.refl G⟩ (m.cellS hp hn) ⟨p, by rw [← m.rl]; simp, rfl⟩
def setAD (ds : List PyData) : M VD := match intsOf ds with
  | some ns => do chk (decide (ns.length ≤ 1000)); newS (onceI ns)
  | none => do chk (ds.all DL.setEl && decide (ds.length < 64)); pure (.st ds)
def eSetA (ta : M VD) : M VD := do let x ← ta; let c ← peek x; let ds ← ofO (asSeq c); setAD ds
theorem c_setA (hc : X.calm = true) (hu : X.A.units + 200 < cLine) : CallR X (.type "set") (fun xs H Q => rSetI X.K X.w xs H Q ∨ rSet X.K X.w xs H Q) := fun pins s σ H xs us Q I r h => h.elim (c_setI hc pins s σ H xs us Q I r) (c_set hc hu pins s σ H xs us Q I r)
theorem d_setA {ta : M VD} (hc : X.calm = true) (hu : X.A.units + 200 < cLine) (ha : PD X E a ta) (hm : X.mg "set" = none) (hg : Gl X "set" := by rfl) (na : starEach [a] X.env = (false, eval a X.env) :: starEach [] X.env := by rfl) (hpl : (backTo pos (starEach [] X.env)).any (·.1) = false := by rfl) :
    PD X E (.Call (.Name "set" p) [a] [] pos) (eSetA ta) := PE.weak (pe_callTy (c_setA hc hu) hg hm (by decide +kernel) (pa_cons ha pa_nil na) (he := na) (hpl := hpl)) fun σ H Q q => by
  obtain ⟨F, rs, S, G, m, p⟩ := q
  refine ⟨F, rs, S, G, m, (Post.seq p).mono fun v H1 ⟨rs1, S1, G1, x, u1, m1, r1, p1⟩ => ?_⟩
  obtain ⟨d, hd, p2⟩ := Post.peek p1
  obtain ⟨ds, hs, p3⟩ := Post.ofO p2
  obtain ⟨b, vs, rfl, hda, hk⟩ := m1.seq r1 hd hs
  have at_ : Rd H1 b (.lst vs) ∨ SqT X.K H1 b vs := hk.elim (fun y => .inl y.2) (fun y => .inr y.2.1.sqt)
  unfold setAD at p3
  cases ei : intsOf ds with
  | some ns =>
    rw [ei] at p3
    obtain ⟨hz, p4⟩ := Post.chk p3
    obtain ⟨rfl, _⟩ := intsOf_vs ei hda
    exact .inl ⟨b, ns, rfl, at_, of_decide_eq_true hz, fun q hq => newSt m1 (onceI_nodup ns) p4 hq⟩
  | none =>
    rw [ei] at p3
    obtain ⟨hz, p4⟩ := Post.chk p3
    rw [Bool.and_eq_true, decide_eq_true_eq] at hz
    refine .inr ⟨b, vs, ds, rfl, at_, DdAll.same m1.sub _ _ hda, hz.1, hz.2, fun q B hq h1 h2 => ?_⟩
    have gq := L2.Same.free m1.sub hq
    refine p4 (.ref q) _ (upd G1 q (NS.setHO X.w q B)) rs1 ⟨⟨[], by simp⟩, same_upd gq⟩ (m1.new hq) ⟨q, B, rfl, upd_same, fun p hp => ?_, h2⟩
    obtain ⟨d, y1, y2, y3, y4⟩ := (h1 p hp).dd hda
    exact ⟨d, y1, y2, y3, Dd.same (same_upd gq) _ _ y4⟩

/-! ### sorted(set) -/
def eSortA (ta : M VD) : M VD := do
  let x ← ta
  match x with
  | .st ds => do chk (sortB ds); newL (sortSD ds)
  | .rf j => fun S => match S.ce[j]? with
    | some (.si ns) => if ns.length < 64 then newL ((sortI ns).map .int) S else .bad
    | _ => .bad
  | _ => M.bad
theorem c_sortA (hc : X.calm = true) (hu : X.A.units + 200 < cLine) : CallR X (.builtin "sorted") (fun xs H Q => rSortedSet X.w xs H Q ∨ rSortS X.K X.w xs H Q) := fun pins s σ H xs us Q I r h => h.elim (cr_sortedSet hc pins s σ H xs us Q I r) (c_sortS hc hu pins s σ H xs us Q I r)
theorem sortS_post {F : Hp} {rs : List Addr} {S : DS} {σ : L2.St} {H G : Hp} {Q : VK} {ds : List PyData} {v : V} (m1 : Md X.K X.wd F rs S σ H G) (r1 : RdV X.K X.wd rs G (.st ds) v) (p1 : Post X.K X.wd X.mg E F σ (RdV X.K X.wd) rs G ((do chk (sortB ds); newL (sortSD ds) : M VD) S) Q) : rSortS X.K X.w [v] H Q := by
  obtain ⟨hb, p2⟩ := Post.chk p1
  obtain ⟨a, B, rfl, h1, h2, h3⟩ := r1
  refine ⟨a, B, ds, rfl, m1.sub _ _ h1, fun p hp => ?_, hb, fun q L hq pL hn => ?_⟩
  · obtain ⟨d, q1, q2, q3, q4⟩ := h2 p hp
    exact ⟨d, q1, q2, q3, Dd.same m1.sub _ _ q4⟩
  · have enc : ∀ p ∈ B, NS.dataOf p.2 ∈ ds ∧ Dd X.K G (.ref p.1) (NS.dataOf p.2) ∧ NS.keyOf (NS.dataOf p.2) = some p.2 := fun p hp => by
      obtain ⟨d, q1, q2, q3, q4⟩ := h2 p hp
      rw [NS.data_key d p.2 q2]
      exact ⟨q1, q4, q2⟩
    have big : (L.mergeSort (W.dataLe false encE)).map encE = sortSD ds := by
      rw [sortSD_eq]
      rw [W.sort_maps (r := W.dataLe false encE) (s := NS.leD) encE fun _ _ _ _ => rfl]
      have pm : (L.map encE).Perm ((NS.once (keysD ds)).map NS.dataOf) := by
        have y := (once_perm hn (fun p hp => let ⟨d, q1, q2, _⟩ := h2 p hp; ⟨d, q1, q2⟩) h3).map NS.dataOf
        rw [List.map_map] at y
        exact (pL.map encE).trans y
      have inB : ∀ d ∈ L.map encE, d ∈ ds ∧ ∃ k, NS.keyOf d = some k := fun d hd => by
        obtain ⟨p, hp, rfl⟩ := List.mem_map.mp hd
        exact ⟨(enc p (pL.mem_iff.mp hp)).1, _, (enc p (pL.mem_iff.mp hp)).2.2⟩
      have nd : (L.map encE).Nodup := by
        have y : L.Pairwise fun p q => p.2 ≠ q.2 := List.pairwise_map.mp ((pL.map (fun p : NS.El => p.2)).nodup_iff.mpr hn)
        refine List.pairwise_map.mpr (y.imp_of_mem fun {p q} hp hq ne e => ne ?_)
        have z1 : NS.keyOf (encE p) = some p.2 := (enc p (pL.mem_iff.mp hp)).2.2
        rw [e] at z1
        have z2 : NS.keyOf (encE q) = some q.2 := (enc q (pL.mem_iff.mp hq)).2.2
        rw [z2] at z1
        exact (Option.some.inj z1).symm
      have hb' := hb
      unfold sortB at hb'
      simp only [Bool.and_eq_true, List.all_eq_true] at hb'
      exact NS.sort_same pm nd (fun d hd => (inB d hd).2) fun d hd d' hd' => hb'.1 _ (inB d hd).1 _ (inB d' hd').1
    rw [← big] at p2
    exact newLst m1 (dd_sorted fun p hp => (enc p (pL.mem_iff.mp (List.mem_mergeSort.mp hp))).2.1) p2 hq
theorem d_sortA {ta : M VD} (hc : X.calm = true) (hu : X.A.units + 200 < cLine) (ha : PD X E a ta) (hm : X.mg "sorted" = none) (hg : Gl X "sorted" := by rfl) (na : starEach [a] X.env = (false, eval a X.env) :: starEach [] X.env := by rfl) (hpl : (backTo pos (starEach [] X.env)).any (·.1) = false := by rfl) :
    PD X E (.Call (.Name "sorted" p) [a] [] pos) (eSortA ta) := PE.weak (pe_callB (c_sortA hc hu) hg hm (by decide +kernel) (pa_cons ha pa_nil na) (he := na) (hpl := hpl)) fun σ H Q q => by
  obtain ⟨F, rs, S, G, m, p⟩ := q
  refine ⟨F, rs, S, G, m, (Post.seq p).mono fun v H1 ⟨rs1, S1, G1, x, u1, m1, r1, p1⟩ => ?_⟩
  cases x with
  | st ds => exact .inr (sortS_post m1 r1 p1)
  | rf j =>
    obtain ⟨a, ha, rfl⟩ := r1
    dsimp only at p1
    cases e : S1.ce[j]? with
    | none => rw [e] at p1; exact p1.elim
    | some c =>
      cases c with
      | dk _ => rw [e] at p1; exact p1.elim
      | ls _ _ => rw [e] at p1; exact p1.elim
      | si ns =>
        rw [e] at p1
        dsimp only at p1
        split at p1
        · rename_i h64
          obtain ⟨_, _, hs, hn⟩ := m1.cel j a _ ha e
          refine .inl ⟨a, _, _, rfl, hs, h64, fun ks q up mem _ hq => ?_⟩
          have ek : ks = sortI ns := up_uniq up (sortI_up ns) fun k => by rw [mem k, decide_eq_true_eq, mem_sortI]
          subst ek
          exact newLst m1 (dd_ints _) p1 hq
        · exact p1.elim
  | _ => exact p1.elim
end
end DL
/-! SC2: a clause of any comprehension, walked once for all; {elt for .. for ..} of whole numbers. -/
namespace SC
open L2 PyProof.Rows PySem PySem.Spec
abbrev okTests (ifs : List Expr) (env : Env) : Sem Bool := forIn ifs true fun c r => if r = true then do let ok ← isTrue c env (eval c env); pure (ForInStep.yield ok) else pure (ForInStep.yield r)
/-- a turn of a clause; act: what follows where the tests hold -/
def turnOf (tg : Expr) (ifs : List Expr) (p : Pos) (it : Value) (env : Env) (act : Sem PySem.Fin) (back : Code) : Sem PySem.Fin := do
  standAt p
  match ← pyNext it with
  | none => pure (.done .next)
  | some v =>
    letOwnedTupleGo tg it v
    assign tg env v
    let ok ← okTests ifs env
    if ok then act else again back
abbrev NoE : Value → Shared → Prop := fun _ _ => False
section
variable {prog : Program} {w : World} {A : Around} {R : Result → Shared → Prop} {s : Shared} {ex tg : Expr} {ifs : List Expr} {d : Nat} {p : Pos} {it acc : Value} {env : Env} {act : Sem PySem.Fin}
/-- what a code of a comprehension's loop is, the World aside -/
structure Plain (c : Code) (t : Sem PySem.Fin) : Prop where
  wt : c.weight = 0
  un : c.cUnits = 0
  den : ∀ prog w, (model prog w).den c = t
theorem clause_loop (hP : Plain (.compLoop ex d it acc env) ((compTurn ex d it acc env).onRaise (fun x => do noteFrame x env; theTreesLotGoes x))) (ht : compTurn ex d it acc env = turnOf tg ifs p it env act (.compLoop ex d it acc env)) (I : Nat → Shared → Prop)
    (turn : ∀ n s, I n s → wpAny (model prog w) A (pyNext it) (fun r s1 => match r with
      | none => R (.ok .next) s1
      | some v => wpAny (model prog w) A (letOwnedTupleGo tg it v) (fun _ s2 => wpAny (model prog w) A (assign tg env v) (fun _ s3 => wpAny (model prog w) A (okTests ifs env) (fun ok s4 =>
          if ok = true then wpAny (model prog w) A act (fun fin s' => fin = .again (.compLoop ex d it acc env) ∧ ∃ m, m < n ∧ I m s') NoE s4 else ∃ m, m < n ∧ I m s4) NoE s3) NoE s2) NoE s1) NoE s)
    (n : Nat) (h : I n s) : codeAny (model prog w) A (.compLoop ex d it acc env) R s := by
  refine codeAny_loop rfl I (fun n s hI => ?_) n h; rw [Around.under_of_weight hP.wt hP.un, hP.den]
  refine wpAny_noted ?_
  rw [ht]
  unfold turnOf
  refine wpAny_bind (wpAny_standAt (wpAny_bind (thnF (turn n s hI) fun r s1 h1 => ?_)))
  cases r with
  | none => exact wpAny_pure h1
  | some v =>
    refine wpAny_bind (thnF h1 fun _ s2 h2 => wpAny_bind (thnF h2 fun _ s3 h3 => wpAny_bind (thnF h3 fun ok s4 h4 => ?_)))
    cases ok with
    | false => exact wpAny_pure ⟨rfl, h4⟩
    | true =>
      refine thnF h4 fun fin s' ⟨e, q⟩ => ?_
      subst e
      exact ⟨rfl, q⟩
end
theorem clause_ok {Xb : Cx} (hc : Xb.calm = true) (hxe : Xb.xe = NoE) {pins : List (Addr × Obj)} {σ0 : L2.St} {H0 : Hp} {s0 : Shared} {ex tg : Expr} {ifs : List Expr} {d : Nat} {p : Pos} {it : Addr} {acc : Value} {act : Sem PySem.Fin} {J : It} {fp : List Addr} {tn : Nat → Heap → Prop} {g : TG} {tt : TT} {R : Result → Shared → Prop}
    (hP : Plain (.compLoop ex d (.ref it) acc Xb.env) ((compTurn ex d (.ref it) acc Xb.env).onRaise (fun x => do noteFrame x Xb.env; theTreesLotGoes x))) (ht : compTurn ex d (.ref it) acc Xb.env = turnOf tg ifs p (.ref it) Xb.env act (.compLoop ex d (.ref it) acc Xb.env))
    (T : Turn Xb.prog Xb.w Xb.K tg J fp it tn) (pg : PG Xb tg g) (pt : PTs Xb ifs tt) (I0 : Inv Xb pins σ0 H0 s0) (st0 : tn 0 s0.heap) (f0 : ∀ b ∈ fp, FpOk Xb pins H0 b)
    {W : Nat → Nat → Hp → Prop} {m0 : Nat} (w0 : W 0 m0 H0) {Qd : Hp → Prop} {Body : L2.St → Hp → (Hp → Prop) → Prop} {Keep : L2.St → Prop}
    (step : ∀ i m H, W i m H → (J.stop i H ∧ Qd H) ∨ (J.go i H ∧ ∃ Nx : Hp → Prop, (∀ H', Nx H' → ∃ m', m' < m ∧ W (i + 1) m' H') ∧ ∀ x H', J.yld i H x H' → g x σ0 H' fun σ2 H2 => Keep σ2 ∧ tt σ2 H2 fun b H3 => if b = true then Body σ2 H3 Nx else Nx H3))
    (keep : ∀ σ2, Keep σ2 → σ0.length = σ2.length ∧ ∀ (j : Nat) v, σ0[j]? = some (some v) → σ2[j]? = some (some v))
    (inner : ∀ (pins' : List (Addr × Obj)) (σ2 : L2.St) (H3 : Hp) (s : Shared) (Nx : Hp → Prop) (Q : PySem.Fin → Shared → Prop), Keep σ2 → Inv Xb (pins ++ pins') σ2 H3 s → Body σ2 H3 Nx →
      (∀ s' σ' H', Inv Xb (pins ++ pins') σ' H' s' → σ0.length = σ'.length → (∀ (j : Nat) v, σ0[j]? = some (some v) → σ'[j]? = some (some v)) → Nx H' → Q (.again (.compLoop ex d (.ref it) acc Xb.env)) s') → wpAny (model Xb.prog Xb.w) Xb.A act Q NoE s)
    (fin : ∀ s' H', Inv Xb pins σ0 H' s' → Qd H' → R (.ok .next) s') : codeAny (model Xb.prog Xb.w) Xb.A (.compLoop ex d (.ref it) acc Xb.env) R s0 := by
  have own : ∀ {H' : Hp}, (∀ b ∈ fp, H' b = none) → ∀ b ∈ fp, FpOk Xb pins H' b := fun hn b hb => ⟨hn b hb, (f0 b hb).2⟩
  refine clause_loop hP ht (fun n s' => ∃ i H', Inv Xb pins σ0 H' s' ∧ tn i s'.heap ∧ (∀ b ∈ fp, H' b = none) ∧ W i n H') ?_ m0 ⟨0, H0, I0, st0, fun b hb => (f0 b hb).1, w0⟩
  (rintro n s5 ⟨i, H5, I5, st5, n5, w5⟩)
  rcases step i n H5 w5 with ⟨stop, qq⟩ | ⟨go, Nx, hNx, hst⟩
  · refine thnF (T.done Xb rfl rfl rfl hc i pins s5 σ0 H5 NoE I5 (own n5) st5 stop) fun r s6 ⟨hr, I6⟩ => ?_
    subst hr
    exact fin s6 H5 I6 qq
  · refine thnF (T.item Xb rfl rfl rfl hc i pins s5 σ0 H5 NoE I5 (own n5) st5 go) fun r s6 ⟨u, hr, h6⟩ => ?_
    subst hr; refine thnF h6 fun _ s7 ⟨x, H7, I7, r7, y7, st7, n7⟩ => ?_
    have I7' := I7.pinned (own n7) (T.obj _ _ st7)
    have a1 := pg.run _ s7 σ0 H7 x u _ I7' r7 (hst x H7 y7)
    rw [hxe] at a1
    refine thnF a1 fun _ s8 ⟨σ8, H8, I8, hk8, q8⟩ => ?_
    have a2 := pt.run _ s8 σ8 H8 _ I8 q8
    rw [hxe] at a2
    refine thnF a2 fun b s9 ⟨H9, I9, q9⟩ => ?_
    have back : ∀ {s' : Shared} {σ' : L2.St} {H' : Hp}, Inv Xb (pins ++ pinsAt fp s7.heap) σ' H' s' → σ0.length = σ'.length → (∀ (j : Nat) v, σ0[j]? = some (some v) → σ'[j]? = some (some v)) → Nx H' →
        ∃ m, m < n ∧ ∃ i H', Inv Xb pins σ0 H' s' ∧ tn i s'.heap ∧ (∀ b ∈ fp, H' b = none) ∧ W i m H' := fun {s' σ' H'} I' hl hv nx => by
      obtain ⟨m', hm, w'⟩ := hNx H' nx; have held : ∀ b ∈ fp, ∀ o, s7.heap.get? b = some o → s'.heap.get? b = some o ∧ H' b = none := fun b hb o e => let z := I'.pin (b, o) (List.mem_append_right _ (List.mem_append_right _ (mem_pinsAt hb e)))
        ⟨z.1, z.2.1⟩
      refine ⟨m', hm, i + 1, H', (I'.unpinned (pins := pins)).weak hl hv, T.keep _ _ _ st7 fun b hb o e => (held b hb o e).1, fun b hb => ?_, w'⟩; obtain ⟨o, e, _⟩ := T.obj _ _ st7 b hb
      exact (held b hb o e).2
    have k8 := keep σ8 hk8
    cases b with
    | false => exact back I9 k8.1 k8.2 q9
    | true => exact inner (pinsAt fp s7.heap) σ8 H9 s9 Nx _ hk8 I9 q9 fun s' σ' H' I' hl hv nx => ⟨rfl, back I' hl hv nx⟩

/-! ### {elt for tg in iter if .. for tg1 in iter1 if ..} -/
/-- a whole number goes into the set at D -/
def AddI (w : World) (D : Addr) (y : V) (H : Hp) (Nx : Hp → Prop) : Prop := ∃ (k : Int) (S : Int → Bool) (n : Nat), y = .int k ∧ H D = some (SetO w D S n) ∧ n + 1 < scanBound ∧ Nx (upd H D (SetO w D (fun j => S j || decide (j = k)) (if S k = true then n else n + 1)))
def tIn2 (Add : V → Hp → (Hp → Prop) → Prop) (wi1 : TI) (g1 : TG) (tt1 : TT) (te : TE) (vs1 : List Nat) (σ2 : L2.St) (H3 : Hp) (Nx : Hp → Prop) : Prop :=
  wi1 σ2 H3 fun J1 H4 => ∃ W1 : Nat → Nat → Hp → Prop, (∃ m, W1 0 m H4) ∧ ∀ j k H, W1 j k H → (J1.stop j H ∧ Nx H) ∨ (J1.go j H ∧ ∃ Nx1 : Hp → Prop, (∀ H', Nx1 H' → ∃ k', k' < k ∧ W1 (j + 1) k' H') ∧ ∀ x H', J1.yld j H x H' → g1 x (wipe σ2 vs1) H' fun σ3 H5 => wipe σ3 vs1 = wipe σ2 vs1 ∧ tt1 σ3 H5 fun b H6 =>
      if b = true then te σ3 H6 fun y H7 => Add y H7 Nx1 else Nx1 H6)
def tC2 (start : Addr → HO) (Add : Addr → V → Hp → (Hp → Prop) → Prop) (wi : TI) (g : TG) (tt : TT) (wi1 : TI) (g1 : TG) (tt1 : TT) (te : TE) (vs vs1 : List Nat) : TE := fun σ H Q => wi σ H fun J H1 => ∀ D, H1 D = none → ∃ W : Nat → Nat → Hp → Prop, (∃ m, W 0 m (upd H1 D (start D))) ∧ ∀ i m H, W i m H → (J.stop i H ∧ Q (.ref D) H) ∨ (J.go i H ∧ ∃ Nx : Hp → Prop, (∀ H', Nx H' → ∃ m', m' < m ∧ W (i + 1) m' H') ∧ ∀ x H', J.yld i H x H' → g x (wipe σ vs) H' fun σ2 H2 => wipe σ2 vs = wipe σ vs ∧ tt σ2 H2 fun b H3 =>
    if b = true then tIn2 (Add D) wi1 g1 tt1 te vs1 σ2 H3 Nx else Nx H3)
theorem keep_of {σa σb : L2.St} {vs : List Nat} (h : wipe σb vs = wipe σa vs) : (wipe σa vs).length = σb.length ∧ ∀ (j : Nat) v, (wipe σa vs)[j]? = some (some v) → σb[j]? = some (some v) :=
  ⟨by rw [← h, wipe_length], fun j v e => by rw [← h] at e; exact (wipe_some e).1⟩
section
variable {s : Shared} {X : Cx} {pins : List (Addr × Obj)} {σ : L2.St} {H : Hp}
theorem addI_ok (I : Inv X pins σ H s) {D : Addr} {y : V} {u : Value} {E : Value → Shared → Prop} {Nx : Hp → Prop} {Q : Value → Shared → Prop} (r : RelV y u) (a : AddI X.w D y H Nx) (h : ∀ s' H', Inv X pins σ H' s' → Nx H' → Q .none s') :
    wpAny (model X.prog X.w) X.A (call (.builtin "set.add") [.ref D, u]) Q E s := by
  obtain ⟨k, S, n, rfl, ha, room, nx⟩ := a
  obtain ⟨tk, rfl⟩ := r
  refine setR_add (setO_get I ha) room fun h' sb new => ?_; have he : ∃ u, h'.get? D = some u := by
    have ⟨o, _, _, _, ho, _⟩ := new; exact ⟨o, ho⟩
  exact h _ _ (I.write (e := D) (t' := s.toks + 1) (by rw [ha]; trivial) (.inl rfl) (fun b u hb hu => (sb.2 b hb).trans hu) he (setO_new new)) nx
variable {elt tg iter tg1 iter1 : Expr} {ifs ifs1 : List Expr} {scope : Scope} {own : List (Str × Nat)} {vs1 : List Nat} {pos : Pos} {wi wi1 : TI} {g g1 : TG} {tt tt1 : TT} {te : TE}
theorem sturn_out (it acc : Value) (env : Env) : compTurn (.SetComp elt [⟨tg, iter, ifs, 0⟩, ⟨tg1, iter1, ifs1, 0⟩] scope pos) 0 it acc env =
    turnOf tg ifs iter.pos it env (do
      let x ← eval iter1 env
      standAt iter1.pos
      let x ← foldedSetIterable iter1 env x
      let _ ← runOwn (.compStart (.SetComp elt [⟨tg, iter, ifs, 0⟩, ⟨tg1, iter1, ifs1, 0⟩] scope pos) 1 (← holding [x] (pyIter x)) acc env) env
      again (.compLoop (.SetComp elt [⟨tg, iter, ifs, 0⟩, ⟨tg1, iter1, ifs1, 0⟩] scope pos) 0 it acc env)) (.compLoop (.SetComp elt [⟨tg, iter, ifs, 0⟩, ⟨tg1, iter1, ifs1, 0⟩] scope pos) 0 it acc env) := by rfl
theorem sturn_in (it acc : Value) (env : Env) : compTurn (.SetComp elt [⟨tg, iter, ifs, 0⟩, ⟨tg1, iter1, ifs1, 0⟩] scope pos) 1 it acc env =
    turnOf tg1 ifs1 iter1.pos it env (do
      (do let v0 ← eval elt env; standAt elt.pos; let _ ← call (.builtin "set.add") [acc, v0])
      again (.compLoop (.SetComp elt [⟨tg, iter, ifs, 0⟩, ⟨tg1, iter1, ifs1, 0⟩] scope pos) 1 it acc env)) (.compLoop (.SetComp elt [⟨tg, iter, ifs, 0⟩, ⟨tg1, iter1, ifs1, 0⟩] scope pos) 1 it acc env) := by rfl
theorem sstart1 {A : Around} {R : Result → Shared → Prop} {it acc : Value} {env : Env} {ex : Expr} {cl : Comprehension} (hcl : (clausesOf ex)[1]? = some cl) (hz : (cl.is_async != 0) = false) (hP : Plain (.compStart ex 1 it acc env) ((compStart ex 1 it acc env).onRaise (fun x => do noteFrame x env; standAt theWindowsPlace))) (h0 : codeAny (model X.prog X.w) A (.compLoop ex 1 it acc env) R s)
    (h : wpAny (model X.prog X.w) A (pyIter it) (fun it' s' => codeAny (model X.prog X.w) A (.compLoop ex 1 it' acc env) R s') NoE s) : codeAny (model X.prog X.w) A (.compStart ex 1 it acc env) R s := by
  refine codeAny_of_tree ?_
  rw [Around.under_of_weight hP.wt hP.un, hP.den]
  refine wpAny_notedAt ?_
  unfold compStart
  rw [hcl]
  simp only [Option.elim, hz]; refine wpAny_bind (wpAny_askSetting (wpAny_ite ?_))
  split
  · first | exact wpAny_bind (wpAny_pure (wpAny_pure ⟨rfl, h0⟩)) | exact wpAny_pure ⟨rfl, h0⟩
  · (refine wpAny_bind (wpAny_rule ?_))
    refine wpAny_bind (wpAny_standAt (wpAny_bind (thnF h fun it' s' h' => wpAny_pure (And.intro rfl h'))))
end
end SC
/-! SC3: {elt for .. for ..}, elt a whole number. -/
namespace SC
open L2 PyProof.Rows PySem PySem.Spec
section
variable {s : Shared} {X : Cx} {pins : List (Addr × Obj)} {σ : L2.St} {H : Hp}
variable {elt tg iter tg1 iter1 : Expr} {ifs ifs1 : List Expr} {scope : Scope} {own : List (Str × Nat)} {vs1 : List Nat} {pos : Pos} {wi wi1 : TI} {g g1 : TG} {tt tt1 : TT} {te : TE}
/-- the second clause's loop, behind the first one's tests -/
theorem second_ok {Xb : Cx} (hc : Xb.calm = true) (hxe : Xb.xe = NoE) {ps : List (Addr × Obj)} {σ0 σ2 : L2.St} {H3 : Hp} {s : Shared} {Nx : Hp → Prop} {D : Addr} {back : Code} {Q : PySem.Fin → Shared → Prop}
    (pi1 : PI Xb tg1 iter1 wi1) (pg1 : PG Xb tg1 g1) (pt1 : PTs Xb ifs1 tt1) (pe : PE Xb elt te) (hs1 : ∀ env x, foldedSetIterable iter1 env x = pure x) (hz : ∀ it env, Plain (.compStart (.SetComp elt [⟨tg, iter, ifs, 0⟩, ⟨tg1, iter1, ifs1, 0⟩] scope pos) 1 it (.ref D) env) ((compStart (.SetComp elt [⟨tg, iter, ifs, 0⟩, ⟨tg1, iter1, ifs1, 0⟩] scope pos) 1 it (.ref D) env).onRaise (fun x => do noteFrame x env; standAt theWindowsPlace)))
    (hl2 : σ0.length = σ2.length) (hk2 : ∀ (j : Nat) v, σ0[j]? = some (some v) → (wipe σ2 vs1)[j]? = some (some v)) (I : Inv Xb ps σ2 H3 s) (body : tIn2 (AddI Xb.w D) wi1 g1 tt1 te vs1 σ2 H3 Nx)
    (cont : ∀ s' σ' H', Inv Xb ps σ' H' s' → σ0.length = σ'.length → (∀ (j : Nat) v, σ0[j]? = some (some v) → σ'[j]? = some (some v)) → Nx H' → Q (.again back) s') :
    wpAny (model Xb.prog Xb.w) Xb.A (do
      let x ← eval iter1 Xb.env
      standAt iter1.pos
      let x ← foldedSetIterable iter1 Xb.env x
      let _ ← runOwn (.compStart (.SetComp elt [⟨tg, iter, ifs, 0⟩, ⟨tg1, iter1, ifs1, 0⟩] scope pos) 1 (← holding [x] (pyIter x)) (.ref D) Xb.env) Xb.env
      again back) Q NoE s := by
  have a0 := pi1.run ps s σ2 H3 _ I body
  rw [hxe] at a0
  refine wpAny_bind (thnF a0 fun xv sa ha => wpAny_bind (wpAny_standAt (wpAny_bind (wpAny_of_eq (hs1 _ xv) (wpAny_bind (wpAny_holding (thnF ha fun itv sb hb => ?_)))))))
  obtain ⟨it1, fp1, tn1, J1, H4, rfl, I1, T1, st1, f1, W1, ⟨m1, w1⟩, turn1⟩ := hb; refine wpAny_bind (wpAny_runOwn ?_)
  rw [Around.mark_none]
  have loop : codeAny (model Xb.prog Xb.w) Xb.A (.compLoop (.SetComp elt [⟨tg, iter, ifs, 0⟩, ⟨tg1, iter1, ifs1, 0⟩] scope pos) 1 (.ref it1) (.ref D) Xb.env)
      (fun r s' => match r with
        | .ok _ => Q (.again back) s'
        | .error _ => False) sb := by
    refine clause_ok (W := W1) (m0 := m1) (Qd := Nx) (Body := fun σ3 H5 Nx1 => te σ3 H5 fun y H6 => AddI Xb.w D y H6 Nx1) (Keep := fun σ3 => wipe σ3 vs1 = wipe σ2 vs1) hc hxe ⟨rfl, rfl, fun _ _ => rfl⟩ (sturn_in _ _ _) T1 pg1 pt1 (I1.weak (wipe_length _ _) (fun j v e => (wipe_some e).1)) st1 f1 w1 turn1 (fun σ3 h => keep_of h) ?_ ?_
    · intro ps' σ3 H5 s5 Nx1 Q1 hk3 I5 b5 cont1
      have k3 := keep_of hk3
      have a1 := pe.run _ s5 σ3 H5 _ I5 b5
      rw [hxe] at a1
      refine wpAny_bind (wpAny_bind (thnF a1 fun z sz ⟨yv, H6, I6, r6, add⟩ => wpAny_bind (wpAny_standAt (wpAny_bind (addI_ok I6 r6 add fun s' H' I' nx => wpAny_pure (wpAny_pure (cont1 s' σ3 H' I' k3.1 k3.2 nx)))))))
    · intro s' H' I' nx
      exact cont s' _ H' I' (hl2.trans (wipe_length _ _).symm) hk2 nx
  refine codeAny_mono (sstart1 (X := Xb) (cl := ⟨tg1, iter1, ifs1, 0⟩) rfl rfl (hz _ _) loop (T1.self Xb.A 0 _ _ _ st1 loop)) fun r s' hr => ?_
  cases r with
  | ok f => first | exact wpAny_pure hr | exact wpAny_bind (wpAny_pure (wpAny_pure hr))
  | error e => exact hr.elim
theorem pe_sc2 (hc : X.calm = true) (hN : X.N.Nodup) (hi : PI X tg iter wi) (ok : BlkOk X.N X.env.scope scope own) (hv : ∀ i ∈ vs1, i ∈ own.map (·.2)) (hg : ∀ (s : Shared) (H : Hp) (C : Addr) (cl : List (Str × Addr)) (fp : List Addr), PG (X.blk s H scope (compEnvC scope cl C X.env) fp) tg g) (ht : ∀ (s : Shared) (H : Hp) (C : Addr) (cl : List (Str × Addr)) (fp : List Addr), PTs (X.blk s H scope (compEnvC scope cl C X.env) fp) ifs tt) (hi1 : ∀ (s : Shared) (H : Hp) (C : Addr) (cl : List (Str × Addr)) (fp : List Addr), PI (X.blk s H scope (compEnvC scope cl C X.env) fp) tg1 iter1 wi1) (hg1 : ∀ (s : Shared) (H : Hp) (C : Addr) (cl : List (Str × Addr)) (fp : List Addr), PG (X.blk s H scope (compEnvC scope cl C X.env) fp) tg1 g1) (ht1 : ∀ (s : Shared) (H : Hp) (C : Addr) (cl : List (Str × Addr)) (fp : List Addr), PTs (X.blk s H scope (compEnvC scope cl C X.env) fp) ifs1 tt1) (he : ∀ (s : Shared) (H : Hp) (C : Addr) (cl : List (Str × Addr)) (fp : List Addr), PE (X.blk s H scope (compEnvC scope cl C X.env) fp) elt te) (hs : ∀ x, foldedSetIterable iter X.env x = pure x := by intro _; rfl) (hs1 : ∀ env x, foldedSetIterable iter1 env x = pure x := by intro _ _; rfl) :
    PE X (.SetComp elt [⟨tg, iter, ifs, 0⟩, ⟨tg1, iter1, ifs1, 0⟩] scope pos) (tC2 (fun D => SetO X.w D (fun _ => false) 0) (AddI X.w) wi g tt wi1 g1 tt1 te (own.map (·.2)) vs1) := by
  refine ⟨fun pins s σ H Q I h => ?_⟩; rw [PpSet.eval_SetComp]
  have hfree : ∀ y ∈ scope.names, y.2 = .free → ∃ c, X.env.cells.lookup y.1 = some c := fun y hy e => (ok.free y hy e).elim (fun k => I.ok.has _ (.inl k)) fun k => I.ok.has _ (.inr k)
  refine wpAny_comprehension_free (use := none) rfl hs (closure_ok hfree) ok.kind (fun y hy e => by rw [ok.uniq y hy, e]) (thn (hi.run pins s σ H _ I h) fun xv s1 hx => thn hx fun itv s2 h2 => ?_)
  obtain ⟨it, fp, tn, J, H2, rfl, I2, T, st2, f2, q⟩ := h2
  refine PpSet.newSet_ok (newEnv_comp ?_)
  obtain ⟨W, ⟨m0, w0⟩, turn⟩ := q s2.heap.objs.size (I2.hok.fresh (Nat.le_refl _))
  have I3 := I2.laid (t' := s2.toks) (h' := s2.heap.push { cls := .type "set", dict := none, data := .set #[] 0 (.fresh 0 0 (!X.w.params.followText "set-order")) }) (o := SetO X.w s2.heap.objs.size (fun _ => false) 0) (fun b o e => Heap.get?_push_of_some _ e) (Nat.le_refl _) (setO_new (setR_fresh X.w))
  have old : ∀ b ∈ fp, b < s2.heap.objs.size := fun b hb => by
    obtain ⟨o, e, _⟩ := T.obj _ _ st2 b hb; exact Heap.lt_size e
  have st3 := T.keep _ _ (s2.heap.push { cls := .type "set", dict := none, data := .set #[] 0 (.fresh 0 0 (!X.w.params.followText "set-order")) }) st2 fun b _ o e => Heap.get?_push_of_some _ e
  have f3 : ∀ b ∈ fp, FpOk X pins (upd H2 s2.heap.objs.size (SetO X.w s2.heap.objs.size (fun _ => false) 0)) b ∧ b < (s2.heap.push { cls := .type "set", dict := none, data := .set #[] 0 (.fresh 0 0 (!X.w.params.followText "set-order")) }).objs.size := fun b hb =>
    ⟨⟨by rw [upd_ne (Nat.ne_of_lt (old b hb))]; exact (f2 b hb).1, (f2 b hb).2⟩, by rw [Heap.size_push]; exact Nat.lt_succ_of_lt (old b hb)⟩
  generalize hD : s2.heap.objs.size = D at w0 turn I3 f3 ⊢
  generalize hs3 : ({ s2 with heap := s2.heap.push { cls := .type "set", dict := none, data := .set #[] 0 (.fresh 0 0 (!X.w.params.followText "set-order")) } } : Shared) = s3 at I3 ⊢
  have h3 : s2.heap.push { cls := .type "set", dict := none, data := .set #[] 0 (.fresh 0 0 (!X.w.params.followText "set-order")) } = s3.heap := by rw [← hs3]
  rw [h3] at st3 f3; have I4 := block_start I3 ok hN f3
  generalize hH3 : upd H2 D (SetO X.w D (fun _ => false) 0) = H3 at I3 I4 w0 f3
  have pg := hg s3 H3 s3.heap.objs.size (cellsFrom (s3.heap.objs.size + 1) scope.names (cloFrom X.env.cells scope.names [])) fp
  have pt := ht s3 H3 s3.heap.objs.size (cellsFrom (s3.heap.objs.size + 1) scope.names (cloFrom X.env.cells scope.names [])) fp
  have pi1 := hi1 s3 H3 s3.heap.objs.size (cellsFrom (s3.heap.objs.size + 1) scope.names (cloFrom X.env.cells scope.names [])) fp
  have pg1 := hg1 s3 H3 s3.heap.objs.size (cellsFrom (s3.heap.objs.size + 1) scope.names (cloFrom X.env.cells scope.names [])) fp
  have pt1 := ht1 s3 H3 s3.heap.objs.size (cellsFrom (s3.heap.objs.size + 1) scope.names (cloFrom X.env.cells scope.names [])) fp
  have pe := he s3 H3 s3.heap.objs.size (cellsFrom (s3.heap.objs.size + 1) scope.names (cloFrom X.env.cells scope.names [])) fp
  show codeAny _ _ (.compStart _ 0 (.ref it) (.ref D) (compEnvC scope (cellsFrom (s3.heap.objs.size + 1) scope.names (cloFrom X.env.cells scope.names [])) s3.heap.objs.size X.env)) (compPost (model X.prog X.w) X.A X.xe none _ (.ref D) s3.heap.objs.size) { s3 with heap := pushCells (s3.heap.push { cls := .type "dict", data := .dict #[] }) scope.names }; generalize hce : compEnvC scope (cellsFrom (s3.heap.objs.size + 1) scope.names (cloFrom X.env.cells scope.names [])) s3.heap.objs.size X.env = ce at I4 pg pt pe pi1 pg1 pt1 ⊢; have cL : ce.locals = s3.heap.objs.size := by subst hce; rfl
  have st4 := T.keep _ _ (pushCells (s3.heap.push { cls := .type "dict", data := .dict #[] }) scope.names) st3 fun b _ o e => pushCells_keeps _ _ _ _ (Heap.get?_push_of_some _ e); generalize hs4 : ({ s3 with heap := pushCells (s3.heap.push { cls := .type "dict", data := .dict #[] }) scope.names } : Shared) = s4 at I4 ⊢
  have h4 : pushCells (s3.heap.push { cls := .type "dict", data := .dict #[] }) scope.names = s4.heap := by rw [← hs4]
  rw [h4] at st4
  have f4 : ∀ b ∈ fp, FpOk (X.blk s3 H3 scope ce fp) [] H3 b := fun b hb =>
    ⟨(f3 b hb).1.1, (I4.ok.exf b hb).1, I4.ok.exfs b hb, .inl hb, fun x c e => (I4.ok.exf b hb).2 x c e, fun p hp => absurd (show p ∈ ([] : List (Addr × Obj)) ++ [] from hp) (by simp)⟩
  have loop : codeAny (model X.prog X.w) X.A (.compLoop (.SetComp elt [⟨tg, iter, ifs, 0⟩, ⟨tg1, iter1, ifs1, 0⟩] scope pos) 0 (.ref it) (.ref D) ce) (compPost (model X.prog X.w) X.A X.xe none (EP X pins σ Q) (.ref D) s3.heap.objs.size) s4 := by
    refine clause_ok (Xb := X.blk s3 H3 scope ce fp) (W := W) (m0 := m0) (Qd := Q (.ref D)) (Body := tIn2 (AddI X.w D) wi1 g1 tt1 te vs1) (Keep := fun σ2 => wipe σ2 (own.map (·.2)) = wipe σ (own.map (·.2))) hc rfl ⟨rfl, rfl, fun _ _ => rfl⟩ (sturn_out _ _ _) T pg pt I4 st4 f4 w0 turn (fun σ2 h => keep_of h) ?_ ?_
    · intro ps' σ2 H5 s5 Nx Q1 hk I5 body cont
      have k2 := keep_of hk
      refine second_ok (Xb := X.blk s3 H3 scope ce fp) (σ0 := wipe σ (own.map (·.2))) hc rfl pi1 pg1 pt1 pe hs1 (fun _ _ => ⟨rfl, rfl, fun _ _ => rfl⟩) k2.1 (fun j v e => ?_) I5 body cont
      rw [wipe_out fun z => (wipe_some e).2 (hv j z)]
      exact k2.2 j v e
    · intro s6 H5 I6 qq
      have I7 : Inv X pins σ H5 s6 := I3.call' (ch := fp) I6.os I6.base I6.hok I6.bare fun b hb => ⟨(f3 b hb).1.2.2.2.1, (f3 b hb).1.2.1, (f3 b hb).1.2.2.2.2.1, (f3 b hb).1.2.2.2.2.2⟩; have nC : H5 s3.heap.objs.size = none := by
        (have z : H5 ce.locals = none := I6.free)
        rwa [cL] at z
      obtain ⟨m, hn, _⟩ := I6.loc; have hn : s6.heap.Ns ce.locals m := hn
      rw [cL] at hn
      obtain ⟨f0, f1, f2', f3', f4', f5⟩ := I3.fpOk (Nat.le_refl _) nC
      exact ⟨m, hn, fun h'' sb => ⟨.ref D, H5, I7.turned (t' := s6.toks) (fun b o hb e => (sb.2 b hb).trans e) f0 f1 f3' f4' f5, rfl, qq⟩⟩
  exact PpSet.codeAny_compStart_set loop (T.self X.A 0 _ _ _ st4 loop)
end
end SC
/-! DM2: comprehensions with two fors, into a list or into a set of numbers. -/
namespace DL
open PySem PySem.Spec L2
variable [TabT]
/-- the first clause of a turn: what the second one walks, or nothing -/
def preC (g : VD → M Unit) (tt : M Bool) (src1 : M (List PyData)) (d : PyData) : M (Option (List PyData)) := do
  g (.dat d)
  let b ← tt
  if b then do
    let ds ← src1
    pure (some ds)
  else pure none
def goA (acc : Cl → PyData → Option Cl) (step : PyData → M (Option PyData)) (n0 n1 : Nat) (sl0 : List (Option VD)) : List PyData → Ce → Option Ce
  | [], ce => some ce
  | d :: ds, ce => match step d ⟨sl0, ce⟩ with
    | .ok (o, S') => match S'.ce[n0]? with
      | some c => match o with
        | some e => match acc c e with
          | some c' => goA acc step n0 n1 sl0 ds ((S'.ce.take n1).set n0 c')
          | none => none
        | none => goA acc step n0 n1 sl0 ds (S'.ce.take n1)
      | none => none
    | _ => none
def go2 (acc : Cl → PyData → Option Cl) (pre : PyData → M (Option (List PyData))) (step : PyData → M (Option PyData)) (n0 : Nat) (sl0 : List (Option VD)) (vs1 : List Nat) : List PyData → Ce → Option Ce
  | [], ce => some ce
  | d :: ds, ce => match pre d ⟨sl0, ce⟩ with
    | .ok (o, S') => match o with
      | none => go2 acc pre step n0 sl0 vs1 ds (S'.ce.take (n0 + 1))
      | some ds1 => match goA acc step n0 S'.ce.length (wipeD S'.sl vs1) ds1 S'.ce with
        | some ce2 => go2 acc pre step n0 sl0 vs1 ds (ce2.take (n0 + 1))
        | none => none
    | _ => none
def eC2 (c0 : Cl) (acc : Cl → PyData → Option Cl) (vs vs1 : List Nat) (src : M (List PyData)) (pre : PyData → M (Option (List PyData))) (step : PyData → M (Option PyData)) : M VD := do
  let ds ← src
  fun S => match go2 acc pre step S.ce.length (wipeD S.sl vs) vs1 ds (S.ce ++ [c0]) with
    | some ce => .ok (.rf S.ce.length, ⟨S.sl, ce⟩)
    | none => .bad
def accL : Cl → PyData → Option Cl
  | .ls true xs, e => if xs.length < 16777216 then some (.ls true (xs ++ [e])) else none
  | _, _ => none
def addNum (k : Int) (ns : List Int) : List Int := if k ∈ ns then ns else k :: ns
def accS : Cl → PyData → Option Cl
  | .si ns, .int k => if ns.length ≤ 1000 then some (.si (addNum k ns)) else none
  | _, _ => none
/-- what goes into a cell goes into the object -/
structure AccOk (K : PySem.W.Frag) (wl : Wd) (acc : Cl → PyData → Option Cl) (Add : Addr → V → Hp → (Hp → Prop) → Prop) : Prop where
  put : ∀ {F : Hp} {rs : List Addr} {S : DS} {σ : L2.St} {H G : Hp} (m : Md K wl F rs S σ H G) {n0 : Nat} {D : Addr} {c c' : Cl} {e : PyData} {y : V} {Nx : Hp → Prop}, rs[n0]? = some D → S.ce[n0]? = some c → acc c e = some c' → Dd K G y e →
    (∀ H', Md K wl F rs ⟨S.sl, S.ce.set n0 c'⟩ σ H' G → Nx H') → Add D y H Nx
def AddL (D : Addr) (y : V) (H : Hp) (Nx : Hp → Prop) : Prop := ∃ acc, H D = some (.lst acc) ∧ acc.length < sizeLine ∧ Nx (upd H D (.lst (acc ++ [y])))
theorem accL_ok {K : PySem.W.Frag} {wl : Wd} : AccOk K wl accL AddL := ⟨fun {F rs S σ H G} m {n0 D c c' e y Nx} hD hc ha rd fin => by
  unfold accL at ha
  split at ha
  · rename_i xs e
    split at ha
    · rename_i hz
      cases ha
      obtain ⟨f, g, vs, hv, hd⟩ := m.cel _ _ _ hD hc
      exact ⟨vs, hv, by rw [DdAll.length hd, sizeLine_eq]; exact hz, fin _ (m.write hD hc (DdAll.append hd (.cons rd .nil)))⟩
    · cases ha
  · cases ha⟩
theorem accS_ok {K : PySem.W.Frag} {wl : Wd} : AccOk K wl accS (SC.AddI wl.w) := ⟨fun {F rs S σ H G} m {n0 D c c' e y Nx} hD hc ha rd fin => by
  unfold accS at ha
  split at ha
  · rename_i ns k
    split at ha
    · rename_i hz
      cases ha
      cases rd
      obtain ⟨f, g, hv, hn⟩ := m.cel _ _ _ hD hc
      refine ⟨k, _, _, rfl, hv, by unfold scanBound; omega, ?_⟩
      have nd : (addNum k ns).Nodup := by
        unfold addNum
        split
        · exact hn
        · rename_i h; exact List.nodup_cons.mpr ⟨h, hn⟩
      have e1 : (fun j => decide (j ∈ ns) || decide (j = k)) = fun j => decide (j ∈ addNum k ns) := by
        funext j
        unfold addNum
        split
        · rename_i h
          by_cases hj : j = k
          · subst hj; simp [h]
          · simp [hj]
        · rw [← Bool.decide_or, decide_eq_decide, List.mem_cons]
          exact Or.comm
      have e2 : (if decide (k ∈ ns) = true then ns.length else ns.length + 1) = (addNum k ns).length := by
        unfold addNum
        by_cases h : k ∈ ns <;> simp [h]
      rw [e1, e2]
      exact fin _ (m.writeS hD hc nd)
    · cases ha
  · cases ha⟩

section
variable {K : PySem.W.Frag} {wl : Wd} {mg : Str → Option Value} {E : XK} {F : Hp} {rs : List Addr} {sl : List (Option VD)} {ce : Ce} {σb : L2.St} {H G : Hp} {g : VD → M Unit} {tt : M Bool} {te : M VD} {is vs : List Nat} {acc : Cl → PyData → Option Cl} {Add : Addr → V → Hp → (Hp → Prop) → Prop}
/-- back to the turn's own slots -/
theorem Md.cut {σ0 : L2.St} (m : Md K wl F rs ⟨sl, ce⟩ σ0 H G) {H9 G9 : Hp} {rs9 : List Addr} {S9 : DS} {σ9 : L2.St} (u : Up rs G rs9 G9) (m9 : Md K wl F rs9 S9 σ9 H9 G9) : Md K wl F rs ⟨sl, S9.ce.take rs.length⟩ σ0 H9 G9 := by
  obtain ⟨⟨more, e9⟩, sg⟩ := u
  rw [e9] at m9
  refine (m9.pre rfl).slots m.len fun k y hk => ?_
  obtain ⟨v, h1, h2⟩ := m.slot k y hk
  exact ⟨v, h1, RdV.up ⟨⟨[], by simp⟩, sg⟩ h2⟩
/-- a value becomes data -/
theorem toD_ok {x : VD} {S S' : DS} {σ : L2.St} {v : V} {e : PyData} (m : Md K wl F rs S σ H G) (r : RdV K wl rs G x v) (h : toD x S = .ok (e, S')) : ∃ G', Same G G' ∧ Md K wl F rs S' σ H G' ∧ Dd K G' v e := by
  cases x with
  | dat d => cases h; exact ⟨G, L2.Same.refl _, m, r⟩
  | bag _ => cases h
  | st _ => cases h
  | ex _ => cases h
  | exs _ => cases h
  | oth _ => cases h
  | rf j =>
    obtain ⟨a, ha, rfl⟩ := r
    unfold toD at h
    dsimp only at h
    cases ej : S.ce[j]? with
    | none => rw [ej] at h; cases h
    | some c =>
      cases c with
      | dk _ => rw [ej] at h; cases h
      | si _ => rw [ej] at h; cases h
      | ls b ds =>
        rw [ej] at h
        cases b with
        | true =>
          cases h
          obtain ⟨G', sg, m', rd⟩ := m.freeze ha ej
          exact ⟨G', sg, m', rd⟩
        | false =>
          cases h
          obtain ⟨vs', hv, hd⟩ := m.cel j a _ ha ej
          exact ⟨G, L2.Same.refl _, m, .lst (Rd.of hv) hd⟩
theorem turn_ok (ha : AccOk K wl acc Add) (his : ∀ i ∈ is, i ∈ vs) (m : Md K wl F rs ⟨sl, ce⟩ (L2.wipe σb vs) H G) {n0 : Nat} {D : Addr} (hD : rs[n0]? = some D) {d : PyData} {o : Option PyData} {S' : DS} {c : Cl} (es : stepC g tt te d ⟨sl, ce⟩ = .ok (o, S')) (ec : S'.ce[n0]? = some c) {Nx : Hp → Prop}
    (hacc : ∀ e, o = some e → ∃ c', acc c e = some c')
    (fin : ∀ H' G' ce', Same G G' → Md K wl F rs ⟨sl, ce'⟩ (L2.wipe σb vs) H' G' → (match o with | some e => ∃ c', acc c e = some c' ∧ ce' = (S'.ce.take rs.length).set n0 c' | none => ce' = S'.ce.take rs.length) → Nx H')
    {x : V} (rd : Dd K G x d) : liftG K wl is g x (L2.wipe σb vs) H fun σ2 H2 => L2.wipe σ2 vs = L2.wipe σb vs ∧ liftT K wl mg E0 tt σ2 H2 fun b H3 => if b = true then liftE K wl mg E0 te σ2 H3 fun y H4 => Add D y H4 Nx else Nx H3 := by
  refine ⟨F, rs, ⟨sl, ce⟩, G, .dat d, m, rd, ?_⟩
  unfold stepC at es
  rw [M.bind_run] at es
  cases eg : g (.dat d) ⟨sl, ce⟩ with
  | exc _ _ => rw [eg] at es; cases es
  | bad => rw [eg] at es; cases es
  | ok q =>
    rw [eg] at es
    simp only [R.bind] at es
    intro σ2 H2 G4 rs4 u4 m5 off
    refine ⟨wipe_off off his, ?_⟩
    rw [M.bind_run] at es
    cases et : tt q.2 with
    | exc _ _ => rw [et] at es; cases es
    | bad => rw [et] at es; cases es
    | ok q2 =>
      rw [et] at es
      simp only [R.bind] at es
      refine ⟨F, rs4, q.2, G4, m5, Post.okE (E' := E0) (Q' := fun _ _ => True) et fun b H3 G5 rs5 u5 m6 eb => ?_⟩
      have hb : q2.1 = b := eb
      subst hb
      have upA : Up rs G rs5 G5 := u4.trans u5
      cases hq2 : q2.1 with
      | false =>
        rw [hq2] at es
        simp only [Bool.false_eq_true, if_false] at es ⊢
        have es' : (none, q2.2) = (o, S') := R.ok.inj es
        cases es'
        exact fin H3 G5 _ upA.2 (m.cut upA m6) rfl
      | true =>
        rw [hq2] at es
        simp only [if_true] at es ⊢
        rw [M.bind_run] at es
        cases ee : te q2.2 with
        | exc _ _ => rw [ee] at es; cases es
        | bad => rw [ee] at es; cases es
        | ok q3 =>
          rw [ee] at es
          simp only [R.bind] at es
          refine ⟨F, rs5, q2.2, G5, m6, Post.okE (E' := E0) (Q' := fun _ _ => True) ee fun yv H4 G6 rs6 u6 m7 ry => ?_⟩
          rw [M.bind_run] at es
          cases ed : toD q3.1 q3.2 with
          | exc _ _ => rw [ed] at es; cases es
          | bad => rw [ed] at es; cases es
          | ok q4 =>
            rw [ed] at es
            have es' : (some q4.1, q4.2) = (o, S') := R.ok.inj es
            cases es'
            obtain ⟨G9, sg9, m9, rd9⟩ := toD_ok m7 ry ed
            have upB : Up rs G rs6 G9 := upA.trans (u6.trans ⟨⟨[], by simp⟩, sg9⟩)
            obtain ⟨c', hc'⟩ := hacc _ rfl
            have hn0 : n0 < rs.length := (List.getElem?_eq_some_iff.mp hD).1
            refine ha.put (m.cut upB m9) hD ?_ hc' rd9 fun H' m' => fin H' G9 _ upB.2 m' ⟨c', hc', rfl⟩
            show (q4.2.ce.take rs.length)[n0]? = some c
            rw [List.getElem?_take, if_pos hn0]
            exact ec
theorem pre_ok {src1 : M (List PyData)} (his : ∀ i ∈ is, i ∈ vs) (m : Md K wl F rs ⟨sl, ce⟩ (L2.wipe σb vs) H G) {d : PyData} {o : Option (List PyData)} {S' : DS} (es : preC g tt src1 d ⟨sl, ce⟩ = .ok (o, S')) {Nx : Hp → Prop} {Inn : L2.St → It → Hp → Prop}
    (fin0 : o = none → ∀ H' G', Same G G' → Md K wl F rs ⟨sl, S'.ce.take rs.length⟩ (L2.wipe σb vs) H' G' → Nx H')
    (fin1 : ∀ ds1, o = some ds1 → ∀ σ2 H4 G' rs' J1, Up rs G rs' G' → Md K wl F rs' S' σ2 H4 G' → SrcOk K J1 G' ds1 → Inn σ2 J1 H4)
    {x : V} (rd : Dd K G x d) : liftG K wl is g x (L2.wipe σb vs) H fun σ2 H2 => L2.wipe σ2 vs = L2.wipe σb vs ∧ liftT K wl mg E0 tt σ2 H2 fun b H3 => if b = true then lift K wl mg E0 (fun _ G ds J => SrcOk K J G ds) src1 σ2 H3 (Inn σ2) else Nx H3 := by
  refine ⟨F, rs, ⟨sl, ce⟩, G, .dat d, m, rd, ?_⟩
  unfold preC at es
  rw [M.bind_run] at es
  cases eg : g (.dat d) ⟨sl, ce⟩ with
  | exc _ _ => rw [eg] at es; cases es
  | bad => rw [eg] at es; cases es
  | ok q =>
    rw [eg] at es
    simp only [R.bind] at es
    intro σ2 H2 G4 rs4 u4 m5 off
    refine ⟨wipe_off off his, ?_⟩
    rw [M.bind_run] at es
    cases et : tt q.2 with
    | exc _ _ => rw [et] at es; cases es
    | bad => rw [et] at es; cases es
    | ok q2 =>
      rw [et] at es
      simp only [R.bind] at es
      refine ⟨F, rs4, q.2, G4, m5, Post.okE (E' := E0) (Q' := fun _ _ => True) et fun b H3 G5 rs5 u5 m6 eb => ?_⟩
      have hb : q2.1 = b := eb
      subst hb
      have upA : Up rs G rs5 G5 := u4.trans u5
      cases hq2 : q2.1 with
      | false =>
        rw [hq2] at es
        simp only [Bool.false_eq_true, if_false] at es ⊢
        have es' : (none, q2.2) = (o, S') := R.ok.inj es
        cases es'
        exact fin0 rfl H3 G5 upA.2 (m.cut upA m6)
      | true =>
        rw [hq2] at es
        simp only [if_true] at es ⊢
        rw [M.bind_run] at es
        cases ee : src1 q2.2 with
        | exc _ _ => rw [ee] at es; cases es
        | bad => rw [ee] at es; cases es
        | ok q3 =>
          rw [ee] at es
          have es' : (some q3.1, q3.2) = (o, S') := R.ok.inj es
          cases es'
          exact ⟨F, rs5, q2.2, G5, m6, Post.okE (E' := E0) (Q' := fun _ _ => True) ee fun J1 H4 G6 rs6 u6 m7 rj => fin1 _ rfl σ2 H4 G6 rs6 J1 (upA.trans u6) m7 rj⟩
/-- the second clause's loop -/
theorem loop_ok (ha : AccOk K wl acc Add) (his : ∀ i ∈ is, i ∈ vs) {J : It} {ds : List PyData} (hs : SrcOk K J G ds) (m : Md K wl F rs ⟨sl, ce⟩ (L2.wipe σb vs) H G) {n0 : Nat} {D : Addr} (hD : rs[n0]? = some D) {cf : Ce} (run : goA acc (stepC g tt te) n0 rs.length sl ds ce = some cf) {Nx : Hp → Prop}
    (fin : ∀ H' G', Same G G' → Md K wl F rs ⟨sl, cf⟩ (L2.wipe σb vs) H' G' → Nx H') :
    ∃ W1 : Nat → Nat → Hp → Prop, (∃ m, W1 0 m H) ∧ ∀ j k H, W1 j k H → (J.stop j H ∧ Nx H) ∨ (J.go j H ∧ ∃ Nx1 : Hp → Prop, (∀ H', Nx1 H' → ∃ k', k' < k ∧ W1 (j + 1) k' H') ∧ ∀ x H', J.yld j H x H' → liftG K wl is g x (L2.wipe σb vs) H' fun σ3 H5 => L2.wipe σ3 vs = L2.wipe σb vs ∧
      liftT K wl mg E0 tt σ3 H5 fun b H6 => if b = true then liftE K wl mg E0 te σ3 H6 fun y H7 => Add D y H7 Nx1 else Nx1 H6) := by
  refine ⟨fun j k H' => k = ds.length - j ∧ j ≤ ds.length ∧ ∃ ce2 G2, Same G G2 ∧ Md K wl F rs ⟨sl, ce2⟩ (L2.wipe σb vs) H' G2 ∧ goA acc (stepC g tt te) n0 rs.length sl (ds.drop j) ce2 = some cf, ⟨ds.length, by simp, by simp, ce, G, L2.Same.refl _, m, by simpa using run⟩, ?_⟩
  rintro j k H' ⟨rfl, hj, ce2, G2, s2, m2, r2⟩
  by_cases hlt : j < ds.length
  · refine .inr ⟨hs.go j H' G2 hlt s2 m2.sub, fun H'' => ∃ ce3 G3, Same G G3 ∧ Md K wl F rs ⟨sl, ce3⟩ (L2.wipe σb vs) H'' G3 ∧ goA acc (stepC g tt te) n0 rs.length sl (ds.drop (j + 1)) ce3 = some cf, fun H'' ⟨ce3, G3, s3, m3, p3⟩ => ⟨ds.length - (j + 1), by omega, rfl, hlt, ce3, G3, s3, m3, p3⟩, fun x H'' y => ?_⟩
    obtain ⟨d, hd, hy⟩ := hs.yld j H' G2 x H'' hlt s2 m2.sub y
    have hdrop : ds.drop j = d :: ds.drop (j + 1) := by
      rw [List.drop_eq_getElem_cons hlt]; congr 1
      have := List.getElem?_eq_getElem hlt
      rw [hd] at this; exact (Option.some.inj this).symm
    rw [hdrop] at r2
    unfold goA at r2
    cases es : stepC g tt te d ⟨sl, ce2⟩ with
    | exc _ _ => rw [es] at r2; cases r2
    | bad => rw [es] at r2; cases r2
    | ok w =>
      obtain ⟨o, S'⟩ := w
      rw [es] at r2
      dsimp only at r2
      cases ea : S'.ce[n0]? with
      | none => rw [ea] at r2; cases r2
      | some c =>
        rw [ea] at r2
        dsimp only at r2
        have step : ∀ G3, Same G G3 → Md K wl F rs ⟨sl, ce2⟩ (L2.wipe σb vs) H'' G3 → Dd K G3 x d → _ := fun G3 s3 m3 rd => turn_ok (mg := mg) (Nx := fun H'' => ∃ ce3 G3, Same G G3 ∧ Md K wl F rs ⟨sl, ce3⟩ (L2.wipe σb vs) H'' G3 ∧ goA acc (stepC g tt te) n0 rs.length sl (ds.drop (j + 1)) ce3 = some cf) ha his m3 hD es ea (fun e he => by
          subst he
          dsimp only at r2
          cases hacc : acc c e with
          | none => rw [hacc] at r2; cases r2
          | some c' => exact ⟨c', rfl⟩) (fun H9 G9 ce9 sg9 m9 he => by
          refine ⟨ce9, G9, L2.Same.trans s3 sg9, m9, ?_⟩
          cases o with
          | none =>
            dsimp only at he r2
            subst he
            exact r2
          | some e =>
            dsimp only at he r2
            obtain ⟨c', hc', rfl⟩ := he
            rw [hc'] at r2
            exact r2) rd
        rcases hy with ⟨rfl, rd⟩ | ⟨T, oo, hT, rfl, nt, rd⟩
        · exact step G2 s2 m2 rd
        · have gT := L2.Same.free m2.sub hT
          exact step (upd G2 T oo) (L2.Same.trans s2 (same_upd gT)) (m2.new hT nt) rd
  · have e : j = ds.length := by omega
    subst e
    rw [List.drop_length] at r2
    cases r2
    exact .inl ⟨hs.stop H' G2 s2 m2.sub, fin H' G2 s2 m2⟩
end
end DL
/-! DM3: [.. for .. for ..] and {.. for .. for ..} read over data. -/
namespace DL
open PySem PySem.Spec L2
variable [TabT]
section
variable {X : Cx} {E : XK} {elt tg iter tg1 iter1 : Expr} {ifs ifs1 : List Expr} {scope : Scope} {own : List (Str × Nat)} {pos : Pos} {src src1 : M (List PyData)} {g g1 : VD → M Unit} {tt tt1 : M Bool} {te : M VD} {is js vs1 : List Nat} {c0 : Cl} {acc : Cl → PyData → Option Cl} {Add : Addr → V → Hp → (Hp → Prop) → Prop} {start : Addr → HO}
theorem c2_lift (ha : AccOk X.K X.wd acc Add) (hst : ∀ {F : Hp} {rs : List Addr} {S : DS} {σ : L2.St} {H G : Hp} (m : Md X.K X.wd F rs S σ H G) {D : Addr}, H D = none → Md X.K X.wd F (rs ++ [D]) ⟨S.sl, S.ce ++ [c0]⟩ σ (upd H D (start D)) G)
    {vs : List Nat} (his : ∀ i ∈ is, i ∈ vs) (hjs : ∀ i ∈ js, i ∈ vs1) {σ : L2.St} {H : Hp} {Q : VK} (q : liftE X.K X.wd X.mg E (eC2 c0 acc vs vs1 src (preC g tt src1) (stepC g1 tt1 te)) σ H Q) :
    SC.tC2 start Add (lift X.K X.wd X.mg E (fun _ G ds J => SrcOk X.K J G ds) src) (liftG X.K X.wd is g) (liftT X.K X.wd X.mg E0 tt) (lift X.K X.wd X.mg E0 (fun _ G ds J => SrcOk X.K J G ds) src1) (liftG X.K X.wd js g1) (liftT X.K X.wd X.mg E0 tt1) (liftE X.K X.wd X.mg E0 te) vs vs1 σ H Q := by
  obtain ⟨F, rs, S, G, m, p⟩ := q
  refine ⟨F, rs, S, G, m, (Post.seq p).mono fun J H1 ⟨rs1, S1, G1, ds, u1, m1, r1, p1⟩ => fun D hD => ?_⟩
  have m2 := hst m1 hD
  have hn0 : rs1.length = S1.ce.length := m1.rl
  have hDn : ∀ more : List Addr, ((rs1 ++ [D]) ++ more)[S1.ce.length]? = some D := fun more => by
    rw [List.append_assoc, List.getElem?_append_right (by omega)]; simp [hn0]
  refine ⟨fun i n H' => n = ds.length - i ∧ i ≤ ds.length ∧ ∃ ce2 G2, Same G1 G2 ∧ Md X.K X.wd F (rs1 ++ [D]) ⟨S1.sl, ce2⟩ σ H' G2 ∧
      Post X.K X.wd X.mg E F σ (RdV X.K X.wd) rs1 G1 (match go2 acc (preC g tt src1) (stepC g1 tt1 te) S1.ce.length (wipeD S1.sl vs) vs1 (ds.drop i) ce2 with
        | some ce => .ok (.rf S1.ce.length, ⟨S1.sl, ce⟩)
        | none => .bad) Q, ⟨ds.length, by simp, by simp, _, G1, L2.Same.refl _, m2, by rw [List.drop_zero]; exact p1⟩, ?_⟩
  rintro i n H' ⟨rfl, hi, ce2, G2, s2, m3, p2⟩
  by_cases hlt : i < ds.length
  · refine .inr ⟨r1.go i H' G2 hlt s2 m3.sub, fun H'' => ∃ ce3 G3, Same G1 G3 ∧ Md X.K X.wd F (rs1 ++ [D]) ⟨S1.sl, ce3⟩ σ H'' G3 ∧
      Post X.K X.wd X.mg E F σ (RdV X.K X.wd) rs1 G1 (match go2 acc (preC g tt src1) (stepC g1 tt1 te) S1.ce.length (wipeD S1.sl vs) vs1 (ds.drop (i + 1)) ce3 with
        | some ce => .ok (.rf S1.ce.length, ⟨S1.sl, ce⟩)
        | none => .bad) Q, fun H'' ⟨ce3, G3, s3, m4, p3⟩ => ⟨ds.length - (i + 1), by omega, rfl, hlt, ce3, G3, s3, m4, p3⟩, fun x H'' y => ?_⟩
    obtain ⟨d, hd, hy⟩ := r1.yld i H' G2 x H'' hlt s2 m3.sub y
    have hdrop : ds.drop i = d :: ds.drop (i + 1) := by
      rw [List.drop_eq_getElem_cons hlt]; congr 1
      have := List.getElem?_eq_getElem hlt
      rw [hd] at this; exact (Option.some.inj this).symm
    rw [hdrop] at p2
    unfold go2 at p2
    cases es : preC g tt src1 d ⟨wipeD S1.sl vs, ce2⟩ with
    | exc _ _ => rw [es] at p2; exact p2.elim
    | bad => rw [es] at p2; exact p2.elim
    | ok w =>
      obtain ⟨o, S'⟩ := w
      rw [es] at p2
      dsimp only at p2
      have hl1 : (rs1 ++ [D]).length = S1.ce.length + 1 := by simp [hn0]
      have step : ∀ G3, Same G1 G3 → Md X.K X.wd F (rs1 ++ [D]) ⟨S1.sl, ce2⟩ σ H'' G3 → Dd X.K G3 x d → _ := fun G3 s3 m4 rd =>
        pre_ok (mg := X.mg) (sl := wipeD S1.sl vs) (Nx := fun H'' => ∃ ce3 G3, Same G1 G3 ∧ Md X.K X.wd F (rs1 ++ [D]) ⟨S1.sl, ce3⟩ σ H'' G3 ∧
          Post X.K X.wd X.mg E F σ (RdV X.K X.wd) rs1 G1 (match go2 acc (preC g tt src1) (stepC g1 tt1 te) S1.ce.length (wipeD S1.sl vs) vs1 (ds.drop (i + 1)) ce3 with
            | some ce => .ok (.rf S1.ce.length, ⟨S1.sl, ce⟩)
            | none => .bad) Q)
          (Inn := fun σ2 J1 H4 => ∃ W1 : Nat → Nat → Hp → Prop, (∃ m, W1 0 m H4) ∧ ∀ j k H, W1 j k H → (J1.stop j H ∧ (∃ ce3 G3, Same G1 G3 ∧ Md X.K X.wd F (rs1 ++ [D]) ⟨S1.sl, ce3⟩ σ H G3 ∧
            Post X.K X.wd X.mg E F σ (RdV X.K X.wd) rs1 G1 (match go2 acc (preC g tt src1) (stepC g1 tt1 te) S1.ce.length (wipeD S1.sl vs) vs1 (ds.drop (i + 1)) ce3 with
              | some ce => .ok (.rf S1.ce.length, ⟨S1.sl, ce⟩)
              | none => .bad) Q)) ∨ (J1.go j H ∧ ∃ Nx1 : Hp → Prop, (∀ H', Nx1 H' → ∃ k', k' < k ∧ W1 (j + 1) k' H') ∧ ∀ x H', J1.yld j H x H' → liftG X.K X.wd js g1 x (L2.wipe σ2 vs1) H' fun σ3 H5 => L2.wipe σ3 vs1 = L2.wipe σ2 vs1 ∧
              liftT X.K X.wd X.mg E0 tt1 σ3 H5 fun b H6 => if b = true then liftE X.K X.wd X.mg E0 te σ3 H6 fun y H7 => Add D y H7 Nx1 else Nx1 H6))
          his (m4.wipe vs) es
          (fun he H9 G9 sg9 m9 => by
            subst he
            dsimp only at p2
            rw [← hl1] at p2
            have mb := m4.cut (S9 := ⟨wipeD S1.sl vs, S'.ce.take (rs1 ++ [D]).length⟩) ⟨⟨[], by simp⟩, sg9⟩ m9
            simp only [List.take_take, Nat.min_self] at mb
            exact ⟨_, G9, L2.Same.trans s3 sg9, mb, p2⟩)
          (fun ds1 he σ2 H4 G' rs' J1 u' m' rj => by
            subst he
            dsimp only at p2
            have hl' : rs'.length = S'.ce.length := m'.rl
            rw [← hl'] at p2
            cases eg : goA acc (stepC g1 tt1 te) S1.ce.length rs'.length (wipeD S'.sl vs1) ds1 S'.ce with
            | none => rw [eg] at p2; exact p2.elim
            | some cf =>
              rw [eg] at p2
              dsimp only at p2
              obtain ⟨⟨more, er⟩, sg⟩ := id u'
              refine loop_ok (mg := X.mg) (sl := wipeD S'.sl vs1) ha hjs rj (m'.wipe vs1) (n0 := S1.ce.length) (by rw [er]; exact hDn more) eg fun H9 G9 sg9 m9 => ?_
              have mb := m4.cut (u'.trans ⟨⟨[], by simp⟩, sg9⟩) m9
              rw [hl1] at mb
              exact ⟨_, G9, L2.Same.trans s3 (L2.Same.trans sg sg9), mb, p2⟩) rd
      rcases hy with ⟨rfl, rd⟩ | ⟨T, oo, hT, rfl, nt, rd⟩
      · exact step G2 s2 m3 rd
      · have gT := L2.Same.free m3.sub hT
        exact step (upd G2 T oo) (L2.Same.trans s2 (same_upd gT)) (m3.new hT nt) rd
  · have e : i = ds.length := by omega
    subst e
    refine .inl ⟨r1.stop H' G2 s2 m3.sub, ?_⟩
    rw [List.drop_length] at p2
    exact p2 (.ref D) H' G2 (rs1 ++ [D]) ⟨⟨[D], rfl⟩, s2⟩ m3 ⟨D, by have := hDn []; rwa [List.append_nil] at this, rfl⟩
theorem d_lc2 (hc : X.calm = true) (hN : X.N.Nodup) (ok : BlkOk X.N X.env.scope scope own) (his : ∀ i ∈ is, i ∈ own.map (·.2)) (hjs : ∀ i ∈ js, i ∈ vs1) (hv : ∀ i ∈ vs1, i ∈ own.map (·.2)) (hi : PDI X E tg iter src)
    (hg : ∀ (s : Shared) (H : Hp) (C : Addr) (cl : List (Str × Addr)) (fp : List Addr), PDG (X.blk s H scope (compEnvC scope cl C X.env) fp) is tg g)
    (ht : ∀ (s : Shared) (H : Hp) (C : Addr) (cl : List (Str × Addr)) (fp : List Addr), PTs (X.blk s H scope (compEnvC scope cl C X.env) fp) ifs (liftT X.K X.wd X.mg E0 tt))
    (hi1 : ∀ (s : Shared) (H : Hp) (C : Addr) (cl : List (Str × Addr)) (fp : List Addr), PDI (X.blk s H scope (compEnvC scope cl C X.env) fp) E0 tg1 iter1 src1)
    (hg1 : ∀ (s : Shared) (H : Hp) (C : Addr) (cl : List (Str × Addr)) (fp : List Addr), PDG (X.blk s H scope (compEnvC scope cl C X.env) fp) js tg1 g1)
    (ht1 : ∀ (s : Shared) (H : Hp) (C : Addr) (cl : List (Str × Addr)) (fp : List Addr), PTs (X.blk s H scope (compEnvC scope cl C X.env) fp) ifs1 (liftT X.K X.wd X.mg E0 tt1))
    (he : ∀ (s : Shared) (H : Hp) (C : Addr) (cl : List (Str × Addr)) (fp : List Addr), PD (X.blk s H scope (compEnvC scope cl C X.env) fp) E0 elt te) (hs : ∀ x, foldedSetIterable iter X.env x = pure x := by intro _; rfl) (hs1 : ∀ env x, foldedSetIterable iter1 env x = pure x := by intro _ _; rfl) :
    PD X E (.ListComp elt [⟨tg, iter, ifs, 0⟩, ⟨tg1, iter1, ifs1, 0⟩] scope pos) (eC2 (.ls true []) accL (own.map (·.2)) vs1 src (preC g tt src1) (stepC g1 tt1 te)) :=
  PE.weak (pe_lc2 (g := liftG X.K X.wd is g) (tt := liftT X.K X.wd X.mg E0 tt) (g1 := liftG X.K X.wd js g1) (tt1 := liftT X.K X.wd X.mg E0 tt1) (te := liftE X.K X.wd X.mg E0 te) hc hN hi ok hv hg ht hi1 hg1 ht1 he hs hs1) fun σ H Q q =>
    c2_lift (start := fun _ => .lst []) accL_ok (fun {_ _ _ _ _ _} m {D} hD => m.cell hD .nil) his hjs q
theorem d_sc2 (hc : X.calm = true) (hN : X.N.Nodup) (ok : BlkOk X.N X.env.scope scope own) (his : ∀ i ∈ is, i ∈ own.map (·.2)) (hjs : ∀ i ∈ js, i ∈ vs1) (hv : ∀ i ∈ vs1, i ∈ own.map (·.2)) (hi : PDI X E tg iter src)
    (hg : ∀ (s : Shared) (H : Hp) (C : Addr) (cl : List (Str × Addr)) (fp : List Addr), PDG (X.blk s H scope (compEnvC scope cl C X.env) fp) is tg g)
    (ht : ∀ (s : Shared) (H : Hp) (C : Addr) (cl : List (Str × Addr)) (fp : List Addr), PTs (X.blk s H scope (compEnvC scope cl C X.env) fp) ifs (liftT X.K X.wd X.mg E0 tt))
    (hi1 : ∀ (s : Shared) (H : Hp) (C : Addr) (cl : List (Str × Addr)) (fp : List Addr), PDI (X.blk s H scope (compEnvC scope cl C X.env) fp) E0 tg1 iter1 src1)
    (hg1 : ∀ (s : Shared) (H : Hp) (C : Addr) (cl : List (Str × Addr)) (fp : List Addr), PDG (X.blk s H scope (compEnvC scope cl C X.env) fp) js tg1 g1)
    (ht1 : ∀ (s : Shared) (H : Hp) (C : Addr) (cl : List (Str × Addr)) (fp : List Addr), PTs (X.blk s H scope (compEnvC scope cl C X.env) fp) ifs1 (liftT X.K X.wd X.mg E0 tt1))
    (he : ∀ (s : Shared) (H : Hp) (C : Addr) (cl : List (Str × Addr)) (fp : List Addr), PD (X.blk s H scope (compEnvC scope cl C X.env) fp) E0 elt te) (hs : ∀ x, foldedSetIterable iter X.env x = pure x := by intro _; rfl) (hs1 : ∀ env x, foldedSetIterable iter1 env x = pure x := by intro _ _; rfl) :
    PD X E (.SetComp elt [⟨tg, iter, ifs, 0⟩, ⟨tg1, iter1, ifs1, 0⟩] scope pos) (eC2 (.si []) accS (own.map (·.2)) vs1 src (preC g tt src1) (stepC g1 tt1 te)) :=
  PE.weak (SC.pe_sc2 (g := liftG X.K X.wd is g) (tt := liftT X.K X.wd X.mg E0 tt) (g1 := liftG X.K X.wd js g1) (tt1 := liftT X.K X.wd X.mg E0 tt1) (te := liftE X.K X.wd X.mg E0 te) hc hN hi ok hv hg ht hi1 hg1 ht1 he hs hs1) fun σ H Q q =>
    c2_lift (start := fun D => SetO X.w D (fun _ => false) 0) accS_ok (fun {_ _ _ _ _ _} m {D} hD => by
      have e : (fun _ : Int => false) = fun k => decide (k ∈ ([] : List Int)) := by funext k; simp
      rw [e]
      exact m.cellS hD List.nodup_nil) his hjs q
end
end DL
/-! DM4: xs.extend(t), t a list or a tuple; type(x) is not T. -/
namespace DL
open L2 PyProof.Rows PySem PySem.Spec
variable [TabT]
/-- a tuple goes behind a list -/
theorem ext_tup (l b : Addr) (od : Option Addr) (xs ys : Array Value) (k j : Nat) (os : Array (Option Value)) (few : ¬(!xs.isEmpty && Builtin.List.listTooLong (xs.size + ys.size)) = true) (h1 : xs.size ≤ sizeLine) (h2 : xs.size + ys.size ≤ sizeLine + 1) :
    Meets (Builtin.«list.extend» ⟨[.ref l, .ref b], []⟩) (fun _ R s => s.heap.get? l = some { cls := .type "list", dict := none, data := .seq xs k, slots := #[] } ∧ s.heap.get? b = some { cls := .type "tuple", dict := od, data := .seq ys j, slots := os } ∧ R (.ok (.ret Value.none)) { s with heap := s.heap.update l (Obj.mapSeq fun x => x ++ ys), toks := s.toks }) := .of_wp fun prog w A R s h => by
    obtain ⟨hp, g, d, tk, os'⟩ := s
    obtain ⟨hl, hb, h⟩ := h
    have f1 := AutoSeq1.idx_int; have f2 := AutoSeq1.sub_tuple_tuple; have f3 := AutoSeq1.sub_list_list
    have f4 := AutoSeq1.sub_tuple_list
    have f5 := AutoSeq1.sub_list_tuple
    have hz' : (xs ++ ys).size ≤ sizeLine + 1 := by rw [Array.size_append]; exact h2
    wp_walk using (wpAny_updateSeq hl rfl (hz := h1) (_hz' := hz')), wpAny_loadPart' hl, wpAny_loadPart' hb
    exact ⟨_, rfl, h⟩
section
variable {X : Cx} {E : XK} {a e : Expr} {pos apos p p1 : Pos}
def rExtT (K : PySem.W.Frag) : V → List V → Hp → VK → Prop := fun x vs H Q => ∃ l b xs zs, x = .ref l ∧ vs = [.ref b] ∧ H l = some (.lst xs) ∧ SqT K H b zs ∧ xs.length + zs.length ≤ sizeLine ∧ Q .non (upd H l (.lst (xs ++ zs)))
theorem mt_extT : MtM X "list.extend" (rExtT X.K) := by
  intro pins s σ H x vs v us Q I rx rv h; obtain ⟨l, b, xs, zs, rfl, rfl, hH, hB, hz, q⟩ := h
  cases rx
  obtain ⟨u, rfl, ru⟩ := rv.one
  cases ru; obtain ⟨z, its, n, r, hl, e⟩ := I.lstM hH
  obtain ⟨its2, r2, ⟨⟨oc, od, odt, os⟩, ho, hc, j, hd⟩, _⟩ := I.tuple hB
  dsimp only at hc hd
  subst hc hd
  have l1 := r.length
  have l2 := r2.length
  have sz : its.toArray.size + its2.toArray.size ≤ sizeLine := by rw [List.size_toArray, List.size_toArray]; omega
  have few : ¬ (!its.toArray.isEmpty && Builtin.List.listTooLong (its.toArray.size + its2.toArray.size)) = true := by
    rw [notLongL sz, Bool.and_false]
    exact Bool.false_ne_true
  refine call_meets F.slot_list_extend ⟨_, e, rfl⟩ F.entry_list_extend (F.args_list_extend_2 _ _) (ext_tup l b od its.toArray its2.toArray n j os few (by rw [List.size_toArray]; omega) (by omega)) ⟨e, ho, ?_⟩
  exact ⟨.non, _, I.lset (its' := its ++ its2) hH e (by simp) (r.append r2) (by rw [List.length_append]; omega), rfl, q⟩
theorem mt_extA : MtM X "list.extend" (fun x vs H Q => rExtend x vs H Q ∨ rExtT X.K x vs H Q) := fun pins s σ H x vs v us Q I rx rv h =>
  h.elim (fun h => mt_extend pins s σ H x vs v us Q I rx rv h) fun h => mt_extT pins s σ H x vs v us Q I rx rv h
def extA (x y : VD) : M VD := match x, y with
  | .rf j, .rf k => fun S => match S.ce[j]?, S.ce[k]? with
    | some (.ls true ds), some (.ls _ es) => if ds.length + es.length ≤ 16777216 then .ok (.dat .none, { S with ce := S.ce.set j (.ls true (ds ++ es)) }) else .bad
    | _, _ => .bad
  | .rf j, .dat (.tuple es) => fun S => match S.ce[j]? with
    | some (.ls true ds) => if ds.length + es.length ≤ 16777216 then .ok (.dat .none, { S with ce := S.ce.set j (.ls true (ds ++ es)) }) else .bad
    | _ => .bad
  | _, _ => M.bad
def eExtA (to te : M VD) : M VD := do let x ← to; isRf x; let y ← te; extA x y
theorem d_extA {o : Expr} {to te : M VD} (ho : PD X E o to) (he : PD X E e te) (hs : starEach [e] X.env = (false, eval e X.env) :: starEach [] X.env := by rfl)
    (hbase : attributeBase o "extend" X.env (eval o X.env) = eval o X.env := by rfl)
    (hfew : ((backTo pos (starEach [e] X.env)).all (fun x => !x.1) && (backToKw pos (keywordEach [] X.env)).all (fun x => x.1.isSome)
      && decide ([e].length + ([] : List Keyword).length + (if ([] : List Keyword).isEmpty then 0 else 1) < 30)) = true := by rfl)
    (hline : (apos.endLine == pos.line) = true := by rfl) (hplain : (backTo pos (starEach [] X.env)).any (·.1) = false := by rfl) : PD X E (.Call (.Attribute o "extend" apos) [e] [] pos) (eExtA to te) :=
  PE.weak (pe_bm PySem.F.plainAttrs_list PySem.F.slot_list_extend PySem.F.type_list_extend mt_extA ho (pa_cons he pa_nil hs) hbase hfew hline hs hplain) fun σ H Q q => by
  obtain ⟨F, rs, S, G, m, p⟩ := q
  refine ⟨F, rs, S, G, m, (Post.seq p).mono fun v H1 ⟨rs1, S1, G1, x, u1, m1, r1, p1⟩ => ?_⟩
  cases x with
  | rf j =>
    obtain ⟨a, ha, rfl⟩ := r1
    obtain ⟨⟨bl, dl, ec⟩, p1⟩ := Post.isRf p1
    refine ⟨.inl ⟨rfl, ?_⟩, ?_⟩
    · obtain ⟨vs, h1, _⟩ := CellOk.list m1.sub (m1.cel j a _ ha ec)
      exact ⟨vs, .inl h1⟩
    · refine ⟨F, rs1, S1, G1, m1, (Post.seq p1).mono fun w H2 ⟨rs2, S2, G2, y, u2, m2, r2, p2⟩ => ?_⟩
      have ha2 : rs2[j]? = some a := by
        obtain ⟨⟨more, rfl⟩, _⟩ := u2
        rw [List.getElem?_append_left (List.getElem?_eq_some_iff.mp ha).1]
        exact ha
      have live : ∀ (ds : List PyData), S2.ce[j]? = some (.ls true ds) → ∃ vs, H2 a = some (.lst vs) ∧ DdAll X.K G2 vs ds := fun ds e => Rd.lst_tracked m2 ha2 e
      cases y with
      | rf k =>
        obtain ⟨b, hb, rfl⟩ := r2
        unfold extA at p2
        dsimp only at p2
        split at p2
        · rename_i ds l2 es e e2
          split at p2
          · rename_i hz
            obtain ⟨vs, hv, hd⟩ := live ds e
            obtain ⟨ws, hw, hdw⟩ : ∃ ws, H2 b = some (.lst ws) ∧ DdAll X.K G2 ws es := by
              have k2 := m2.cel k b _ hb e2
              cases l2 with
              | true => obtain ⟨_, _, ws, h1, h2⟩ := k2; exact ⟨ws, h1, h2⟩
              | false => obtain ⟨ws, h1, h2⟩ := k2; exact ⟨ws, m2.sub _ _ h1, h2⟩
            exact .inl ⟨a, b, vs, ws, rfl, rfl, hv, hw, by rw [DdAll.length hd, DdAll.length hdw, sizeLine_eq]; exact hz, p2 .non _ G2 rs2 Up.refl (m2.write ha2 e (DdAll.append hd hdw)) .non⟩
          · exact p2.elim
        · exact p2.elim
      | dat d =>
        cases d with
        | tuple es =>
          unfold extA at p2
          dsimp only at p2
          split at p2
          · rename_i ds e
            split at p2
            · rename_i hz
              obtain ⟨vs, hv, hd⟩ := live ds e
              cases (show Dd X.K G2 w (.tuple es) from r2) with
              | @tup b ws _ hw hdw =>
                exact .inr ⟨a, b, vs, ws, rfl, rfl, hv, (TN.SqN.same m2.sub hw).sqt, by rw [DdAll.length hd, DdAll.length hdw, sizeLine_eq]; exact hz, p2 .non _ G2 rs2 Up.refl (m2.write ha2 e (DdAll.append hd hdw)) .non⟩
            · exact p2.elim
          · exact p2.elim
        | _ => exact p2.elim
      | _ => exact p2.elim
  | _ => exact p1.elim
/-! ### x = [.. for ..] -/
theorem s_setOf (i : Nat) {t : M VD} {T : TE} {st : Stmt} (h : PS X st (tAsg T (gName i))) (k : ∀ σ H Q, liftE X.K X.wd X.mg E t σ H Q → T σ H Q) : PDS X E st (sSet i t) := PS.weak h fun D σ H q => by
  obtain ⟨F, rs, S, G, m, p⟩ := q
  refine k σ H _ ⟨F, rs, S, G, m, (PostS.expr p).mono fun v H1 ⟨rs1, S1, G1, y, u1, m1, r1, p1⟩ => ?_⟩
  exact p1 _ H1 G1 rs1 Up.refl (m1.store r1)
section
variable {elt tg iter tg1 iter1 : Expr} {ifs ifs1 : List Expr} {scope : Scope} {own : List (Str × Nat)} {spos py : Pos} {y : Str} {src src1 : M (List PyData)} {g g1 : VD → M Unit} {tt tt1 : M Bool} {te : M VD} {is js vs1 : List Nat}
theorem s_setLc (i : Nat) (hc : X.calm = true) (hN : X.N.Nodup) (ok : BlkOk X.N X.env.scope scope own) (his : ∀ i ∈ is, i ∈ own.map (·.2)) (hi : PDI X E tg iter src)
    (hg : ∀ (s : Shared) (H : Hp) (C : Addr) (cl : List (Str × Addr)) (fp : List Addr), PDG (X.blk s H scope (compEnvC scope cl C X.env) fp) is tg g)
    (ht : ∀ (s : Shared) (H : Hp) (C : Addr) (cl : List (Str × Addr)) (fp : List Addr), PTs (X.blk s H scope (compEnvC scope cl C X.env) fp) ifs (liftT X.K X.wd X.mg E0 tt))
    (he : ∀ (s : Shared) (H : Hp) (C : Addr) (cl : List (Str × Addr)) (fp : List Addr), PD (X.blk s H scope (compEnvC scope cl C X.env) fp) E0 elt te)
    (hy : X.N[i]? = some y := by rfl) (hyl : X.env.scope.names.lookup y = some .local := by rfl) (hsw : swapsWith (.ListComp elt [⟨tg, iter, ifs, 0⟩] scope pos) (some (.Name y py)) spos.line X.env = pure true := by exact sw_true rfl rfl rfl rfl) (hs : ∀ x, foldedSetIterable iter X.env x = pure x := by intro _; rfl) :
    PDS X E (.Assign [.Name y py] (.ListComp elt [⟨tg, iter, ifs, 0⟩] scope pos) spos) (sSet i (eLc (own.map (·.2)) src (stepC g tt te))) :=
  s_setOf i (ps_setLc (g := liftG X.K X.wd is g) (tt := liftT X.K X.wd X.mg E0 tt) (te := liftE X.K X.wd X.mg E0 te) hc hN hy hyl hsw hi ok hg ht he hs) fun σ H Q q => lc_lift (fun _ _ _ _ h => h) his q
theorem s_setLc2 (i : Nat) (hc : X.calm = true) (hN : X.N.Nodup) (ok : BlkOk X.N X.env.scope scope own) (his : ∀ i ∈ is, i ∈ own.map (·.2)) (hjs : ∀ i ∈ js, i ∈ vs1) (hv : ∀ i ∈ vs1, i ∈ own.map (·.2)) (hi : PDI X E tg iter src)
    (hg : ∀ (s : Shared) (H : Hp) (C : Addr) (cl : List (Str × Addr)) (fp : List Addr), PDG (X.blk s H scope (compEnvC scope cl C X.env) fp) is tg g)
    (ht : ∀ (s : Shared) (H : Hp) (C : Addr) (cl : List (Str × Addr)) (fp : List Addr), PTs (X.blk s H scope (compEnvC scope cl C X.env) fp) ifs (liftT X.K X.wd X.mg E0 tt))
    (hi1 : ∀ (s : Shared) (H : Hp) (C : Addr) (cl : List (Str × Addr)) (fp : List Addr), PDI (X.blk s H scope (compEnvC scope cl C X.env) fp) E0 tg1 iter1 src1)
    (hg1 : ∀ (s : Shared) (H : Hp) (C : Addr) (cl : List (Str × Addr)) (fp : List Addr), PDG (X.blk s H scope (compEnvC scope cl C X.env) fp) js tg1 g1)
    (ht1 : ∀ (s : Shared) (H : Hp) (C : Addr) (cl : List (Str × Addr)) (fp : List Addr), PTs (X.blk s H scope (compEnvC scope cl C X.env) fp) ifs1 (liftT X.K X.wd X.mg E0 tt1))
    (he : ∀ (s : Shared) (H : Hp) (C : Addr) (cl : List (Str × Addr)) (fp : List Addr), PD (X.blk s H scope (compEnvC scope cl C X.env) fp) E0 elt te)
    (hy : X.N[i]? = some y := by rfl) (hyl : X.env.scope.names.lookup y = some .local := by rfl) (hsw : swapsWith (.ListComp elt [⟨tg, iter, ifs, 0⟩, ⟨tg1, iter1, ifs1, 0⟩] scope pos) (some (.Name y py)) spos.line X.env = pure true := by exact sw_true rfl rfl rfl rfl) (hs : ∀ x, foldedSetIterable iter X.env x = pure x := by intro _; rfl) (hs1 : ∀ env x, foldedSetIterable iter1 env x = pure x := by intro _ _; rfl) :
    PDS X E (.Assign [.Name y py] (.ListComp elt [⟨tg, iter, ifs, 0⟩, ⟨tg1, iter1, ifs1, 0⟩] scope pos) spos) (sSet i (eC2 (.ls true []) accL (own.map (·.2)) vs1 src (preC g tt src1) (stepC g1 tt1 te))) :=
  s_setOf i (ps_setLc2 (g := liftG X.K X.wd is g) (tt := liftT X.K X.wd X.mg E0 tt) (g1 := liftG X.K X.wd js g1) (tt1 := liftT X.K X.wd X.mg E0 tt1) (te := liftE X.K X.wd X.mg E0 te) hc hN hy hyl hsw hi ok hv hg ht hi1 hg1 ht1 he hs hs1) fun σ H Q q =>
    c2_lift (start := fun _ => .lst []) accL_ok (fun {_ _ _ _ _ _} m {D} hD => m.cell hD .nil) his hjs q
end
/-! ### type(x) is not T -/
def eTyNot (T : String) (ta : M VD) : M VD := do let x ← ta; let d ← peek x; pure (.dat (.bool (!decide (tyName d = T))))
theorem d_tyNot {T : String} {t : Expr} {ta : M VD} (ha : PD X E a ta) (ht : PE X t (tC (.ty T))) (hm : X.mg "type" = none) (hg : Gl X "type" := by rfl) (na : starEach [a] X.env = (false, eval a X.env) :: starEach [] X.env := by rfl) (hpl : (backTo p1 (starEach [] X.env)).any (·.1) = false := by rfl) (hb : behindInMarks .IsNot t = false := by rfl) :
    PD X E (.Compare (.Call (.Name "type" p) [a] [] p1) [.IsNot] [t] pos) (eTyNot T ta) := PE.weak (pe_cmpR op_isNotTy (pe_callTy c_type hg hm (by decide +kernel) (pa_cons ha pa_nil na) (he := na) (hpl := hpl)) ht hb) fun σ H Q q => by
  obtain ⟨F, rs, S, G, m, p⟩ := q
  refine ⟨F, rs, S, G, m, (Post.seq p).mono fun v H1 ⟨rs1, S1, G1, x, u1, m1, r1, p1⟩ => ?_⟩
  obtain ⟨d, hd, p2⟩ := Post.peek p1
  exact ⟨v, d, rfl, m1.peek r1 hd, _, _, rfl, rfl, Post.ret m1 p2 (.bl _)⟩
theorem dt_tyNot {T : String} {t : Expr} {ta : M VD} (ha : PD X E a ta) (ht : PE X t (tC (.ty T))) (hm : X.mg "type" = none) (hg : Gl X "type" := by rfl) (na : starEach [a] X.env = (false, eval a X.env) :: starEach [] X.env := by rfl) (hpl : (backTo p1 (starEach [] X.env)).any (·.1) = false := by rfl) (hb : behindInMarks .IsNot t = false := by rfl) :
    PDT X E (.Compare (.Call (.Name "type" p) [a] [] p1) [.IsNot] [t] pos) (tOf (eTyNot T ta)) := PT.weak (pt_cmpR op_isNotTy (pe_callTy c_type hg hm (by decide +kernel) (pa_cons ha pa_nil na) (he := na) (hpl := hpl)) ht hb) fun σ H Q q => by
  obtain ⟨F, rs, S, G, m, p⟩ := tOf_lift q
  refine ⟨F, rs, S, G, m, (Post.seq p).mono fun v H1 ⟨rs1, S1, G1, x, u1, m1, r1, p1⟩ => ?_⟩
  obtain ⟨d, hd, p2⟩ := Post.peek p1
  exact ⟨v, d, rfl, m1.peek r1 hd, _, _, rfl, rfl, Post.ret m1 p2 (.bl _)⟩
end
end DL
/-! ZN1: zip of two lists or tuples (also one of each), the pairs plain. -/
namespace ZN
open PySem PySem.Spec PyProof.Rows L2 TN
def IterK (k : Bool) (h : Heap) (it a : Addr) (i : Nat) : Prop := match k with | true => h.IsListIter it a i | false => h.IsTupleIter it a i
def SeqK (k : Bool) (h : Heap) (a : Addr) (xs : Array Value) : Prop := match k with | true => h.IsList a xs | false => h.IsTuple a xs
def SqK (K : PySem.W.Frag) (k : Bool) (H : Hp) (a : Addr) (xs : List V) : Prop := match k with | true => SqL K H a xs | false => SqT K H a xs
def objK (k : Bool) (a : Addr) : Obj := match k with | true => { cls := .type "list_iterator", data := .fields #[.ref a, .int 0 0] } | false => { cls := .type "tuple_iterator", data := .fields #[.ref a, .int 0 0] }
theorem drawsK (k : Bool) {prog : Program} {w : World} {A : Around} (hh : A.handled = none) (it a : Addr) (hne : a ≠ it) (xs : Array Value) : Draws prog w A it [it, a] xs.size (fun i v => xs[i]? = some v) (fun i h => IterK k h it a i ∧ SeqK k h a xs) := by
  cases k
  · exact Draws.tuple hh it a hne xs
  · exact Draws.list hh it a hne xs
theorem beginsK (k : Bool) (a : Addr) (xs : Array Value) : Begins (.ref a) (objK k a) fun h => SeqK k h a xs := by
  cases k
  · exact begins_tuple a xs
  · exact begins_list a xs
theorem IterK.at {k : Bool} {h h' : Heap} {it a : Addr} {i : Nat} (x : IterK k h it a i) (q : ∀ o, h.get? it = some o → h'.get? it = some o) : IterK k h' it a i := by
  cases k
  · exact Heap.IsTupleIter.at x q
  · exact Heap.IsListIter.at x q
theorem IterK.obj {k : Bool} {h : Heap} {it a : Addr} {i : Nat} (x : IterK k h it a i) : ∃ o, h.get? it = some o ∧ ∀ v, o.data ≠ .cell v := by
  cases k
  · obtain ⟨o, e, _, d⟩ := x; exact ⟨o, e, fun v q => by rw [d] at q; cases q⟩
  · obtain ⟨o, e, _, d⟩ := x; exact ⟨o, e, fun v q => by rw [d] at q; cases q⟩
theorem IterK.new {k : Bool} {h : Heap} {it a : Addr} (x : h.get? it = some (objK k a)) : IterK k h it a 0 := by
  cases k
  · exact ⟨_, x, rfl, rfl⟩
  · exact ⟨_, x, rfl, rfl⟩
section
variable {s : Shared} {X : Cx} {pins : List (Addr × Obj)} {σ : L2.St} {H : Hp}
theorem seqK {k : Bool} {a : Addr} {xs : List V} (I : Inv X pins σ H s) (h : SqK X.K k H a xs) : ∃ its, Vals xs its ∧ SeqK k s.heap a its.toArray ∧ a < s.heap.objs.size ∧ xs.length ≤ sizeLine := by
  cases k
  · obtain ⟨its, r, p, z⟩ := I.tuple h
    obtain ⟨o, ho, _⟩ := id p
    exact ⟨its, r, p, Heap.lt_size ho, z⟩
  · obtain ⟨its, r, p, z⟩ := I.list h
    exact ⟨its, r, p.isList, p.lt, z⟩
theorem injK {k : Bool} {a : Addr} {xs ys : List V} (I : Inv X pins σ H s) (h : SqK X.K k H a xs) (h' : SqK X.K k H a ys) : xs = ys := by
  cases k
  · exact I.tuple_inj h h'
  · exact I.list_inj h h'
end
theorem zsep {z TI TO i1 i2 a b : Addr} (D : ZipApart z TI TO i1 i2 a b) : ZipSep2 z TI TO i1 i2 [i1, a] [i2, b] where
  TIz := D.TIz
  TOz := D.TOz
  TITO := D.TITO
  TIi1 := D.TIi1
  mem1 := by simp
  zf1 := by simp [D.i1z.symm, D.l1z.symm]
  Tf1 := by simp [D.TOi1, D.l1TO.symm]
  TIi2 := D.TIi2
  mem2 := by simp
  zf2 := by simp [D.i2z.symm, D.l2z.symm]
  Tf2 := by simp [D.TOi2, D.l2TO.symm]
  sep1_2 := by simp [D.i12, D.l2i1.symm]
  sep2_1 := by simp [D.i12.symm, D.l1i2.symm]
/-- the things at a and b as they stand at each turn, the items in new pairs -/
def ItzN (K : PySem.W.Frag) (k1 k2 : Bool) (a b : Addr) : It :=
  ⟨fun i H => ∃ (xs ys : List V) (x y : V), SqK K k1 H a xs ∧ SqK K k2 H b ys ∧ xs[i]? = some x ∧ ys[i]? = some y,
    fun i H v H' => ∃ T x y its, v = .ref T ∧ H T = none ∧ H' = upd H T (hT its [x, y]) ∧ (∀ xs, SqK K k1 H a xs → xs[i]? = some x) ∧ ∀ ys, SqK K k2 H b ys → ys[i]? = some y,
    fun i H => ∃ xs ys : List V, SqK K k1 H a xs ∧ SqK K k2 H b ys ∧ i ≤ xs.length ∧ i ≤ ys.length ∧ (i = xs.length ∨ i = ys.length)⟩
def ZipAt (k1 k2 : Bool) (z TI TO i1 i2 a b : Addr) (i : Nat) (h : Heap) : Prop := IsZip h z TI TO .none ∧ IsTupOf2 h TI (.ref i1) (.ref i2) ∧ (∃ x y, IsTupOf2 h TO x y) ∧ IterK k1 h i1 a i ∧ IterK k2 h i2 b i
theorem mem5 {c z TI TO i1 i2 : Addr} (hc : c ∈ [z, TI, TO, i1, i2]) : c = z ∨ c = TI ∨ c = TO ∨ c = i1 ∨ c = i2 := by simpa using hc
theorem ZipAt.obj {k1 k2 : Bool} {z TI TO i1 i2 a b : Addr} {i : Nat} {h : Heap} (st : ZipAt k1 k2 z TI TO i1 i2 a b i h) : ∀ c ∈ [z, TI, TO, i1, i2], ∃ o, h.get? c = some o ∧ ∀ v, o.data ≠ .cell v := fun c hc => by
  obtain ⟨hz, hTI, ⟨x, y, hTO⟩, h1, h2⟩ := st; rcases mem5 hc with q | q | q | q | q <;> rw [q]
  · exact ⟨_, hz, fun v q => nomatch q⟩
  · exact ⟨_, hTI, fun v q => nomatch q⟩
  · exact ⟨_, hTO, fun v q => nomatch q⟩
  · exact h1.obj
  · exact h2.obj
theorem ZipAt.lt {k1 k2 : Bool} {z TI TO i1 i2 a b : Addr} {i : Nat} {h : Heap} (st : ZipAt k1 k2 z TI TO i1 i2 a b i h) : ∀ c ∈ [z, TI, TO, i1, i2], c < h.objs.size := fun c hc => let ⟨_, e, _⟩ := st.obj c hc; Heap.lt_size e
theorem ZipAt.keep {k1 k2 : Bool} {z TI TO i1 i2 a b : Addr} {i : Nat} {h h' : Heap} (st : ZipAt k1 k2 z TI TO i1 i2 a b i h) (k : ∀ c ∈ [z, TI, TO, i1, i2], ∀ o, h.get? c = some o → h'.get? c = some o) : ZipAt k1 k2 z TI TO i1 i2 a b i h' := by
  obtain ⟨hz, hTI, ⟨x, y, hTO⟩, h1, h2⟩ := st; exact ⟨k z (by simp) _ hz, k TI (by simp) _ hTI, ⟨x, y, k TO (by simp) _ hTO⟩, h1.at fun o q => k i1 (by simp) o q, h2.at fun o q => k i2 (by simp) o q⟩
section
variable {s : Shared} {X : Cx} {pins : List (Addr × Obj)} {σ : L2.St} {H : Hp}
/-- one pair -/
theorem zip_item {k1 k2 : Bool} {z TI TO i1 i2 a b : Addr} (D : ZipApart z TI TO i1 i2 a b) (hc : X.calm = true) {i : Nat} {xs ys : List V} {x y : V} {E : Value → Shared → Prop} {Q : Option Value → Shared → Prop} (I : Inv X pins σ H s) (st : ZipAt k1 k2 z TI TO i1 i2 a b i s.heap)
    (hqx : SqK X.K k1 H a xs) (hqy : SqK X.K k2 H b ys) (hx : xs[i]? = some x) (hy : ys[i]? = some y)
    (fin : ∀ u v h' tk, RelV x u → RelV y v → h'.get? s.heap.objs.size = some (oT [u, v]) → IsZip h' z TI TO (rawInt s.heap.objs.size) → (∀ h'', Heap.SameBut z h' h'' → IsZip h'' z TI TO .none → ZipAt k1 k2 z TI TO i1 i2 a b (i + 1) h'') →
      (∀ c o, c ∉ [z, TI, TO, i1, i2] → s.heap.get? c = some o → h'.get? c = some o) → Q (some (.ref s.heap.objs.size)) { s with heap := h', toks := tk }) :
    wpAny (model X.prog X.w) X.A (pyNext (.ref z)) Q E s := by
  obtain ⟨hz, hTI, ⟨x0, y0, hTO⟩, h1, h2⟩ := id st
  obtain ⟨its, rv, p, _⟩ := seqK I hqx
  obtain ⟨its2, rv2, p2, _⟩ := seqK I hqy; obtain ⟨u, hu, ru⟩ := rv.get hx; obtain ⟨u2, hu2, ru2⟩ := rv2.get hy
  have hn : X.A.in1.handled = none := I.ok.hd hc
  have l1 : i < its.toArray.size := by rw [List.size_toArray]; exact (List.getElem?_eq_some_iff.mp hu).1
  have l2 : i < its2.toArray.size := by rw [List.size_toArray]; exact (List.getElem?_eq_some_iff.mp hu2).1
  refine wpAny_pyNext_zipD2_item (zsep D) (drawsK k1 hn i1 a D.l1i1 its.toArray) (drawsK k2 hn i2 b D.l2i2 its2.toArray) hz hTI hTO ⟨h1, p⟩ ⟨h2, p2⟩ l1 l2 fun x1 x2 h' tk q1 q2 z' TO' st1 st2 hT hsz hk => ?_
  have e1 : x1 = u := by have q : its.toArray[i]? = some u := by simpa using hu
                         rw [q] at q1; exact (Option.some.inj q1).symm
  have e2 : x2 = u2 := by have q : its2.toArray[i]? = some u2 := by simpa using hu2
                          rw [q] at q2; exact (Option.some.inj q2).symm
  subst e1 e2
  have up : ∀ {c : Addr} {o : Obj}, c ∉ [z, TI, TO, i1, i2] → s.heap.get? c = some o → h'.get? c = some o := fun {c o} hb q => hk c o (fun e => hb (by simp [e])) (fun e => hb (by simp [e])) (fun e => hb (by simp [e])) (fun e => hb (by simp [e])) q
  exact fin x1 x2 h' tk ru ru2 hT z' (fun h'' sb z'' => ⟨z'', (sb.2 _ D.TIz).trans (hk _ _ D.TIz D.TITO D.TIi1 D.TIi2 hTI), ⟨_, _, (sb.2 _ D.TOz).trans TO'⟩, st1.1.at fun o q => (sb.2 _ D.i1z).trans q, st2.1.at fun o q => (sb.2 _ D.i2z).trans q⟩) fun c o hb q => up hb q
theorem zip_end {k1 k2 : Bool} {z TI TO i1 i2 a b : Addr} (D : ZipApart z TI TO i1 i2 a b) (hc : X.calm = true) {i : Nat} {xs ys : List V} {E : Value → Shared → Prop} {Q : Option Value → Shared → Prop} (I : Inv X pins σ H s) (st : ZipAt k1 k2 z TI TO i1 i2 a b i s.heap)
    (hqx : SqK X.K k1 H a xs) (hqy : SqK X.K k2 H b ys) (lx : i ≤ xs.length) (ly : i ≤ ys.length) (hend : i = xs.length ∨ i = ys.length)
    (fin : ∀ h' tk, (∀ c o, c ∉ [z, TI, TO, i1, i2] → s.heap.get? c = some o → h'.get? c = some o) → Q none { s with heap := h', toks := tk }) : wpAny (model X.prog X.w) X.A (pyNext (.ref z)) Q E s := by
  obtain ⟨hz, hTI, ⟨x0, y0, hTO⟩, h1, h2⟩ := st; obtain ⟨its, rv, p, _⟩ := seqK I hqx
  obtain ⟨its2, rv2, p2, _⟩ := seqK I hqy
  have hn : X.A.in1.handled = none := I.ok.hd hc
  have l1 : its.toArray.size = xs.length := by rw [List.size_toArray]; exact rv.length.symm
  have l2 : its2.toArray.size = ys.length := by rw [List.size_toArray]; exact rv2.length.symm
  exact wpAny_pyNext_zipD2_end (zsep D) (drawsK k1 hn i1 a D.l1i1 its.toArray) (drawsK k2 hn i2 b D.l2i2 its2.toArray) hz hTI hTO ⟨h1, p⟩ ⟨h2, p2⟩ (by omega) (by omega) (by omega) fun h' tk hk => fin h' tk fun c o hb q =>
    hk c o (fun e => hb (by simp [e])) (fun e => hb (by simp [e])) (fun e => hb (by simp [e])) (fun e => hb (by simp [e])) q
end
theorem turnN {P : Program} {w : World} {K : PySem.W.Frag} {elts : List Expr} {kk : Nat} {tpos : Pos} {k1 k2 : Bool} {a b z TI TO i1 i2 : Addr} (D : ZipApart z TI TO i1 i2 a b) :
    Turn P w K (.Tuple elts kk tpos) (ItzN K k1 k2 a b) [z, TI, TO, i1, i2] z (ZipAt k1 k2 z TI TO i1 i2 a b) where
  mem := by simp
  obj := fun i h st => st.obj
  keep := fun i h h' st k => st.keep k
  item := by
    intro X hP hw hK hc i pins s σ H E I hf st hg; subst hP hw hK; obtain ⟨xs, ys, x, y, hqx, hqy, hx, hy⟩ := hg
    refine zip_item D hc I st hqx hqy hx hy fun u v h' tk ru rv hT z' nxt up => ⟨_, rfl, wpAny_letOwnedTupleGo_zip (s := { s with heap := h', toks := tk }) z' fun h'' z'' sb => ?_⟩
    have zl : z < s.heap.objs.size := st.lt z (by simp)
    have hT2 : h''.get? s.heap.objs.size = some (oT [u, v]) := (sb.2 _ (Nat.ne_of_gt zl)).trans hT
    have new : ObjOk X.prog X.w (upd H s.heap.objs.size (TN.hT [u, v] [x, y])) h'' s.heap.objs.size (TN.hT [u, v] [x, y]) := ⟨hT2, by show 2 ≤ sizeLine; decide, [u, v], .cons ru (.cons rv .nil), ⟨_, hT2, rfl, _, rfl⟩⟩
    have I1 : Inv X pins σ (upd H s.heap.objs.size (TN.hT [u, v] [x, y])) { s with heap := h'', toks := tk } :=
      I.turnedNew (ch := [z, TI, TO, i1, i2]) (fun c o hb q => (sb.2 c (fun e => hb (by simp [e]))).trans (up c o hb q)) hf (Nat.le_refl _) new
    refine ⟨.ref s.heap.objs.size, _, I1, rfl, ⟨_, x, y, _, rfl, I.hok.fresh (Nat.le_refl _), rfl, fun l hl => by rw [injK I hl hqx]; exact hx, fun l hl => by rw [injK I hl hqy]; exact hy⟩, nxt h'' sb z'', fun c hcm => ?_⟩
    rw [upd_ne (Nat.ne_of_lt (st.lt c hcm))]
    exact (hf c hcm).1
  done := by
    intro X hP hw hK hc i pins s σ H E I hf st hg; subst hP hw hK
    obtain ⟨xs, ys, hqx, hqy, lx, ly, he⟩ := hg
    exact zip_end D hc I st hqx hqy lx ly he fun h' tk up => ⟨rfl, I.turnedL (ch := [z, TI, TO, i1, i2]) up hf⟩
  self := (fun A i s Q E st h => wpAny_pyIter_zip st.1 h)
def iZipN (K : PySem.W.Frag) (ta : TA) : TI := fun σ H R => ta σ H fun vs H1 => ∃ k1 k2 a b xs ys, vs = [.ref a, .ref b] ∧ SqK K k1 H1 a xs ∧ SqK K k2 H1 b ys ∧ R (ItzN K k1 k2 a b) H1
section
variable {X : Cx} {pins : List (Addr × Obj)} {σ : L2.St} {H : Hp} {s : Shared} {E : Value → Shared → Prop} {Q : Value → Shared → Prop}
/-- zip(x, y) begins -/
theorem zip_call {k1 k2 : Bool} {a b : Addr} {xs ys : List V} (I : Inv X pins σ H s) (hqx : SqK X.K k1 H a xs) (hqy : SqK X.K k2 H b ys)
    (fin : ∀ z TI TO i1 i2 h', ZipApart z TI TO i1 i2 a b → ZipAt k1 k2 z TI TO i1 i2 a b 0 h' → Inv X pins σ H { s with heap := h' } → (∀ c ∈ [z, TI, TO, i1, i2], FpOk X pins H c) → Q (.ref z) { s with heap := h' }) : wpAny (model X.prog X.w) X.A (call (.type "zip") [.ref a, .ref b]) Q E s := by
  obtain ⟨its, rv, p, la, _⟩ := seqK I hqx
  obtain ⟨its2, rv2, p2, lb, _⟩ := seqK I hqy
  refine zip_begins2 (beginsK k1 a its.toArray) (beginsK k2 b its2.toArray) p p2 fun h' hz hTI hTO h1 h2 hsz hk => ?_
  refine fin _ _ _ _ _ h' (PySem.W.ktu_apart s.heap.objs.size a b la lb) ⟨hz, hTI, ⟨_, _, hTO⟩, IterK.new h1, IterK.new h2⟩ (I.kept (t' := s.toks) hk) fun c hcm => ?_
  have hle : s.heap.objs.size ≤ c := by rcases mem5 hcm with e | e | e | e | e <;> rw [e] <;> first | exact Nat.le_refl _ | exact Nat.le_add_right _ _
  exact I.fpOk hle (I.hok.fresh hle)
theorem pi_zipN {e e2 : Expr} {ta : TA} {p pos tpos : Pos} {elts : List Expr} {kk : Nat} (hg : Gl X "zip") (hm : X.mg "zip" = none) (ha : PA X [e, e2] ta) (hs : starEach [e, e2] X.env = (false, eval e X.env) :: starEach [e2] X.env := by rfl) (hpl : (backTo pos (starEach [e2] X.env)).any (·.1) = false := by rfl) :
    PI X (.Tuple elts kk tpos) (.Call (.Name "zip" p) [e, e2] [] pos) (iZipN X.K ta) := by
  refine ⟨fun pins s σ H R I h => ?_⟩; refine Call_ (ld_blt I hg hm PyProof.Rows.boot_zip (PyProof.Rows.callWith_type1 (thn (ha.run pos pins s σ H _ I h) fun us s1 ⟨vs, H1, I1, r1, k1, k2, a, b, xs, ys, ev, hqx, hqy, q⟩ => ?_) hs hpl))
  subst ev
  cases r1 with
  | cons r rr =>
    cases rr with
    | cons r' rr =>
      cases rr
      cases r
      cases r'
      exact zip_call I1 hqx hqy fun z TI TO i1 i2 h' D st I2 f => wpAny_pyIter_zip st.1 ⟨z, _, _, _, H1, rfl, I2, turnN D, st, f, q⟩
end
end ZN
/-! DM5: for a, b in zip(x, y); (x, y) = (.., ..) where a name is a cell. -/
namespace DL
open PySem PySem.Spec L2
variable [TabT]
/-- the pairs of zip -/
def zipD : List PyData → List PyData → List PyData
  | d :: ds, e :: es => .tuple [d, e] :: zipD ds es
  | _, _ => []
theorem zipD_len : ∀ {ds es : List PyData}, (zipD ds es).length = min ds.length es.length
  | [], _ => by simp [zipD]
  | _ :: _, [] => by simp [zipD]
  | _ :: ds, _ :: es => by simp [zipD, zipD_len (ds := ds) (es := es), Nat.add_min_add_right]
theorem zipD_get : ∀ {ds es : List PyData} {i : Nat} {d e : PyData}, ds[i]? = some d → es[i]? = some e → (zipD ds es)[i]? = some (.tuple [d, e])
  | [], _, _, _, _, h, _ => (by simp at h)
  | _ :: _, [], _, _, _, _, h => (by simp at h)
  | a :: ds, b :: es, 0, d, e, h1, h2 => by simp at h1 h2; subst h1 h2; simp [zipD]
  | a :: ds, b :: es, i + 1, d, e, h1, h2 => by
    simp only [List.getElem?_cons_succ] at h1 h2
    simp only [zipD, List.getElem?_cons_succ]
    exact zipD_get h1 h2
def pairSeq (d e : PyData) : Option (List PyData) := match asSeq d, asSeq e with
  | some ds, some es => some (zipD ds es)
  | _, _ => none
def srcZip (ta tb : M VD) : M (List PyData) := do
  let xs ← aCons ta (aCons tb (pure []))
  let ds ← toDs xs
  match ds with
  | [d, e] => ofO (pairSeq d e)
  | _ => M.bad
section
variable {X : Cx} {E : XK} {a b : Expr} {p pos tpos : Pos} {elts : List Expr} {kk : Nat}
/-- a list or a tuple as data is one in the heap -/
theorem seq_at {K : PySem.W.Frag} {H : Hp} {v : V} {d : PyData} {ds : List PyData} (r : Dd K H v d) (h : asSeq d = some ds) : ∃ k a vs, v = .ref a ∧ (∀ H', Same H H' → ZN.SqK K k H' a vs) ∧ DdAll K H vs ds := by
  cases d with
  | list es =>
    cases h
    cases r with
    | @lst a vs _ h1 h2 => exact ⟨true, a, vs, rfl, fun H' s => .inl (Same.rd s h1), h2⟩
  | tuple es =>
    cases h
    cases r with
    | @tup a vs _ h1 h2 => exact ⟨false, a, vs, rfl, fun H' s => (TN.SqN.same s h1).sqt, h2⟩
  | _ => cases h
theorem i_zip {ta tb : M VD} (hg : Gl X "zip" := by rfl) (hm : X.mg "zip" = none) (ha : PD X E a ta) (hb : PD X E b tb) (hs : starEach [a, b] X.env = (false, eval a X.env) :: starEach [b] X.env := by rfl) (hs1 : starEach [b] X.env = (false, eval b X.env) :: starEach [] X.env := by rfl) (hpl : (backTo pos (starEach [b] X.env)).any (·.1) = false := by rfl) :
    PDI X E (.Tuple elts kk tpos) (.Call (.Name "zip" p) [a, b] [] pos) (srcZip ta tb) :=
  PI.weak (ZN.pi_zipN hg hm (d_cons ha (d_cons hb d_nil hs1) hs) hs hpl) fun σ H R q => by
  obtain ⟨F, rs, S, G, m, p⟩ := q
  refine ⟨F, rs, S, G, m, (Post.seq p).mono fun vs H1 ⟨rs1, S1, G1, xs, u1, m1, r1, p1⟩ => ?_⟩
  obtain ⟨ds, S2, G2, s2, m2, d2, p2⟩ := m1.toDs r1 p1
  match ds, d2, p2 with
  | [d, e], d2, p2 =>
    cases d2 with
    | cons rd rest =>
      cases rest with
      | cons re rest =>
        cases rest
        obtain ⟨L, hL, p3⟩ := Post.ofO' p2
        unfold pairSeq at hL
        split at hL
        · rename_i xs' ys' e1 e2
          cases hL
          obtain ⟨k1, a1, vs1, rfl, h1, q1⟩ := seq_at rd e1
          obtain ⟨k2, b1, ws1, rfl, h2, q2⟩ := seq_at re e2
          have l1 := DdAll.length q1
          have l2 := DdAll.length q2
          refine ⟨k1, k2, a1, b1, vs1, ws1, rfl, h1 _ m2.sub, h2 _ m2.sub, p3 (ZN.ItzN X.K k1 k2 a1 b1) H1 G2 rs1 Up.refl m2 ⟨fun H G s1 s2 => ⟨vs1, ws1, h1 _ (L2.Same.trans s1 s2), h2 _ (L2.Same.trans s1 s2), ?_⟩, fun i H G hi s1 s2 => ?_, fun i H G x H' hi s1 s2 y => ?_⟩⟩
          · rw [zipD_len]; omega
          · rw [zipD_len] at hi
            exact ⟨vs1, ws1, vs1[i]'(by omega), ws1[i]'(by omega), h1 _ (L2.Same.trans s1 s2), h2 _ (L2.Same.trans s1 s2), List.getElem?_eq_getElem _, List.getElem?_eq_getElem _⟩
          · obtain ⟨T, x1, y1, its, rfl, hT, rfl, g1, g2⟩ := y
            obtain ⟨d1, e1, r1'⟩ := DdAll.get q1 (g1 vs1 (h1 _ (L2.Same.trans s1 s2)))
            obtain ⟨d2', e2, r2'⟩ := DdAll.get q2 (g2 ws1 (h2 _ (L2.Same.trans s1 s2)))
            have gT := L2.Same.free s2 hT
            have sg := L2.Same.trans s1 (same_upd (o := TN.hT its [x1, y1]) gT)
            exact ⟨_, zipD_get e1 e2, .inr ⟨T, _, hT, rfl, (fun ps z => by cases z), .tup (TN.SqN.of upd_same) (.cons (Dd.same sg _ _ r1') (.cons (Dd.same sg _ _ r2') .nil))⟩⟩
        · cases hL
  | [], _, p2 => exact p2.elim
  | [_], _, p2 => exact p2.elim
  | _ :: _ :: _ :: _, _, p2 => exact p2.elim

/-! ### (x, ..) = (.., ..), the values kept as they are -/
def PVGs (X : Cx) (is : List Nat) (tgs : List Expr) (g : List VD → M Unit) : Prop := PGs X tgs (fun vs σ H Q => ∃ (F : Hp) (rs : List Addr) (S : DS) (G : Hp) (xs : List VD), Md X.K X.wd F rs S σ H G ∧ RdVs X.K X.wd rs G xs vs ∧ PostU X.K X.wd F rs G is σ (g xs S) Q)
def gNilV : List VD → M Unit
  | [] => pure ()
  | _ => M.bad
def gConsV (g : VD → M Unit) (gs : List VD → M Unit) : List VD → M Unit
  | x :: xs => do g x; gs xs
  | [] => M.bad
theorem v_nil : PVGs X [] [] gNilV := PGs.weak pgs_nil fun v σ H Q q => by
  obtain ⟨F, rs, S, G, xs, m, r, p⟩ := q
  match xs, v, r, p with
  | [], [], _, p => exact ⟨rfl, p σ H G rs Up.refl m Off.refl⟩
  | _ :: _, _, _, p => exact p.elim
  | [], _ :: _, r, _ => exact r.elim
theorem v_cons {es : List Expr} {e : Expr} {g : VD → M Unit} {gs : List VD → M Unit} {is js : List Nat} (h1 : PDG X is e g) (h2 : PVGs X js es gs) (hs : (assignEach (e :: es) X.env).map (·.2) = assign e X.env :: (assignEach es X.env).map (·.2) := by rfl) : PVGs X (is ++ js) (e :: es) (gConsV g gs) := PGs.weak (pgs_cons h1 h2 hs) fun v σ H Q q => by
  obtain ⟨F, rs, S, G, xs, m, r, p⟩ := q
  match xs, v, r, p with
  | [], _, _, p => exact p.elim
  | _ :: _, [], r, _ => exact r.elim
  | x :: xs, v0 :: vs, r, p =>
    refine ⟨v0, vs, rfl, F, rs, S, G, x, m, r.1, ?_⟩
    unfold gConsV at p
    dsimp only at p
    rw [M.bind_run] at p
    cases e : g x S with
    | ok q =>
      rw [e] at p
      exact fun σ' H' G' rs' u' m' o' => ⟨F, rs', q.2, G', xs, m', RdVs.up u' r.2, by
        have p' : PostU X.K X.wd F rs G (is ++ js) σ (gs xs q.2) Q := p
        revert p'
        cases gs xs q.2 with
        | ok w => exact fun p' σ'' H'' G'' rs'' u'' m'' o'' => p' σ'' H'' G'' rs'' (u'.trans u'') m'' (o'.trans o'')
        | exc _ _ => exact fun p' => p'
        | bad => exact fun p' => p'⟩
    | exc _ _ => rw [e] at p; exact p.elim
    | bad => rw [e] at p; exact p.elim
def sParV (n : Nat) (ta : M (List VD)) (gs : List VD → M Unit) : MS := do
  let xs ← ta
  fun S => if xs.length = n ∧ n ≤ 1000 then (match gs xs S with
    | .ok p => .ok (.nx, p.2)
    | _ => .bad) else .bad
theorem s_parV {n : Nat} {is : List Nat} {tgs es : List Expr} {ta : M (List VD)} {gs : List VD → M Unit} {kt k2 : Nat} {pt pt2 : Pos} (hc : X.calm = true) (ha : PDA X E es ta) (hg : PVGs X is tgs gs) (hn : (assignEach tgs X.env).length = n := by rfl) (hst : (assignEach tgs X.env).findIdx? (·.1) = none := by rfl)
    (hs : swapsWithSole [.Tuple tgs kt pt] (.Tuple es k2 pt2) pos.line X.env = pure false := by rfl) (hw : swappedStores [.Tuple tgs kt pt] (.Tuple es k2 pt2) X.env = pure none := by rfl) (h1 : (assignEach [.Tuple tgs kt pt] X.env).map (·.2) = [assign (.Tuple tgs kt pt) X.env] := by rfl) :
    PDS X E (.Assign [.Tuple tgs kt pt] (.Tuple es k2 pt2) pos) (sParV n ta gs) := PS.weak (ps_asg (pe_tup ha) (pg_tup hc hg hn hst) hs hw h1) fun D σ H q => by
  obtain ⟨F, rs, S, G, m, p⟩ := q
  refine ⟨F, rs, S, G, m, (PostS.expr p).mono fun vs H1 ⟨rs1, S1, G1, xs, u1, m1, r1, p1⟩ => ?_⟩
  have hl := RdVs.length r1
  split at p1
  · rename_i hz
    obtain ⟨hn', hz⟩ := hz
    refine ⟨sz1000 (by omega), fun p hp => ⟨p, vs, rfl, SqT.of upd_same, by omega, F, rs1, S1, upd G1 p (.tup vs), xs, m1.new hp, RdVs.up ⟨⟨[], by simp⟩, same_upd (L2.Same.free m1.sub hp)⟩ r1, ?_⟩⟩
    cases e : gs xs S1 with
    | ok q =>
      rw [e] at p1
      exact fun σ' H' G' rs' u' m' _ => p1 σ' H' G' rs' (Up.trans ⟨⟨[], by simp⟩, same_upd (L2.Same.free m1.sub hp)⟩ u') m'
    | exc _ _ => rw [e] at p1; exact p1.elim
    | bad => rw [e] at p1; exact p1.elim
  · exact p1.elim
end
end DL
/-! DD1: dicts of whole numbers as cells. -/
namespace DL
open PySem PySem.Spec L2
variable [TabT]
def dkHas (kvs : List (Int × Int)) (k : Int) : Bool := kvs.any fun p => decide (p.1 = k)
def dkGet : List (Int × Int) → Int → Option Int
  | [], _ => none
  | p :: r, k => if p.1 = k then some p.2 else dkGet r k
def dkPut (kvs : List (Int × Int)) (k v : Int) : List (Int × Int) := if dkHas kvs k then kvs.map fun p => if p.1 = k then (p.1, v) else p else kvs ++ [(k, v)]
theorem kvV_get (k : Int) : ∀ kvs : List (Int × Int), valV (kvV kvs) (.inl k : Key) = (dkGet kvs k).map V.int
  | [] => rfl
  | p :: r => by
    by_cases h : p.1 = k
    · rw [dkGet, if_pos h]
      exact valV_pos (p := ((.inl p.1 : Key), V.int p.2)) (by rw [h])
    · rw [dkGet, if_neg h, ← kvV_get k r]
      exact valV_neg (p := ((.inl p.1 : Key), V.int p.2)) (fun e => h (Sum.inl.inj e))
theorem kvV_has (k : Int) (kvs : List (Int × Int)) : ((kvV kvs).any fun kv => decide (kv.1 = (.inl k : Key))) = dkHas kvs k := by
  unfold kvV dkHas
  rw [List.any_map]
  congr 1
  funext p
  simp
theorem kvV_put (kvs : List (Int × Int)) (k v : Int) : putK (kvV kvs) (.inl k : Key) (.int v) = kvV (dkPut kvs k v) := by
  unfold putK dkPut
  rw [kvV_has]
  cases dkHas kvs k with
  | true =>
    simp only [if_true]
    unfold kvV; rw [List.map_map, List.map_map]
    congr 1
    funext p
    simp only [Function.comp]
    by_cases h : p.1 = k
    · simp [h]
    · simp [h]
  | false => simp [kvV]
theorem dkPut_len (kvs : List (Int × Int)) (k v : Int) : (dkPut kvs k v).length ≤ kvs.length + 1 := by
  unfold dkPut
  split <;> simp
def dkMerge (kvs more : List (Int × Int)) : List (Int × Int) := more.foldl (fun acc p => dkPut acc p.1 p.2) kvs
theorem kvV_merge : ∀ (more kvs : List (Int × Int)), mergeK (kvV kvs) (kvV more) = kvV (dkMerge kvs more)
  | [], kvs => rfl
  | p :: r, kvs => by
    show mergeK (putK (kvV kvs) (.inl p.1 : Key) (.int p.2)) (kvV r) = _
    rw [kvV_put, kvV_merge r]; rfl
/-- the dict that a value is -/
def dkOf (x : VD) : M (List (Int × Int)) := match x with
  | .rf j => fun S => match S.ce[j]? with
    | some (.dk kvs) => .ok (kvs, S)
    | _ => .bad
  | _ => M.bad
def intV (x : VD) : M Int := match x with
  | .dat (.int i) => pure i
  | _ => M.bad
def newK (kvs : List (Int × Int)) : M VD := fun S => .ok (.rf S.ce.length, { S with ce := S.ce ++ [.dk kvs] })
def putDk (x : VD) (k v : Int) : M Unit := match x with
  | .rf j => fun S => match S.ce[j]? with
    | some (.dk kvs) => if kvs.length < 16777216 then .ok ((), { S with ce := S.ce.set j (.dk (dkPut kvs k v)) }) else .bad
    | _ => .bad
  | _ => M.bad
section
variable {K : PySem.W.Frag} {wl : Wd} {mg : Str → Option Value} {E : XK} {F : Hp} {rs : List Addr} {S : DS} {σ : L2.St} {H G : Hp} {α β : Type} {Rel : List Addr → Hp → α → β → Prop}
theorem Post.dkOf {x : VD} {g : List (Int × Int) → M α} {Q : β → Hp → Prop} (h : Post K wl mg E F σ Rel rs G ((DL.dkOf x >>= g) S) Q) : ∃ j kvs, x = .rf j ∧ S.ce[j]? = some (.dk kvs) ∧ Post K wl mg E F σ Rel rs G (g kvs S) Q := by
  rw [M.bind_run] at h
  cases x with
  | rf j =>
    unfold DL.dkOf at h
    dsimp only at h
    cases e : S.ce[j]? with
    | none => rw [e] at h; exact h.elim
    | some c =>
      cases c with
      | dk kvs => rw [e] at h; exact ⟨j, kvs, rfl, e, h⟩
      | si _ => rw [e] at h; exact h.elim
      | ls _ _ => rw [e] at h; exact h.elim
  | _ => exact h.elim
theorem Post.intV {x : VD} {g : Int → M α} {Q : β → Hp → Prop} (h : Post K wl mg E F σ Rel rs G ((DL.intV x >>= g) S) Q) : ∃ i, x = .dat (.int i) ∧ Post K wl mg E F σ Rel rs G (g i S) Q := by
  rw [M.bind_run] at h
  cases x with
  | dat d =>
    cases d with
    | int i => exact ⟨i, rfl, h⟩
    | _ => exact h.elim
  | _ => exact h.elim
/-- the object of a dict's cell -/
theorem Md.dk (m : Md K wl F rs S σ H G) {j : Nat} {a : Addr} {kvs : List (Int × Int)} (ha : rs[j]? = some a) (e : S.ce[j]? = some (.dk kvs)) : H a = some (.dK (kvV kvs)) := (m.cel j a _ ha e).2.2
theorem Md.isD (m : Md K wl F rs S σ H G) {j : Nat} {v : V} {kvs : List (Int × Int)} (r : RdV K wl rs G (.rf j) v) (e : S.ce[j]? = some (.dk kvs)) : ∃ a, v = .ref a ∧ rs[j]? = some a ∧ IsD H a := by
  obtain ⟨a, ha, rfl⟩ := r
  exact ⟨a, rfl, ha, .inl ⟨_, .inl (m.dk ha e)⟩⟩
theorem Md.dget (m : Md K wl F rs S σ H G) {j : Nat} {a : Addr} {kvs : List (Int × Int)} (ha : rs[j]? = some a) (e : S.ce[j]? = some (.dk kvs)) (k : Int) : DGet H a (.int k) ((dkGet kvs k).map V.int) := by
  have z := DGet.k (k := (.inl k : Key)) (m.dk ha e)
  rw [kvV_get] at z
  exact z
theorem up_at {rs rs' : List Addr} {G G' : Hp} (u : Up rs G rs' G') {j : Nat} {a : Addr} (h : rs[j]? = some a) : rs'[j]? = some a := by
  obtain ⟨⟨more, rfl⟩, _⟩ := u
  rw [List.getElem?_append_left (List.getElem?_eq_some_iff.mp h).1]
  exact h
end
section
variable {X : Cx} {E : XK} {a b e o f i value : Expr} {pos pos' p apos cpos : Pos}
/-! ### {} -/
def eD0 : M VD := newK []
theorem d_d0 : PD X E (.Dict [] [] pos) eD0 := PE.weak pe_dnewK fun σ H Q q => by
  obtain ⟨F, rs, S, G, m, p⟩ := q
  intro a ha
  exact p (.ref a) _ G (rs ++ [a]) ⟨⟨[a], rfl⟩, L2.Same.refl G⟩ (m.cellD (kvs := []) ha) ⟨a, by rw [← m.rl]; simp, rfl⟩
/-! ### d.get(k, x) -/
def eDGet2 (td ti tx : M VD) : M VD := do let x ← td; let _ ← dkOf x; let y ← ti; let z ← tx; let k ← intV y; let kvs ← dkOf x; pure (match dkGet kvs k with | some v => .dat (.int v) | none => z)
theorem d_dget2 {td ti tx : M VD} (hu : X.A.units + 200 < cLine) (ho : PD X E o td) (he : PD X E e ti) (hf : PD X E f tx) (m : M2 X o "get" apos e f cpos) : PD X E (.Call (.Attribute o "get" apos) [e, f] [] cpos) (eDGet2 td ti tx) :=
  PE.weak (pe_dget2 (by omega) ho he hf m) fun σ H Q q => by
  obtain ⟨F, rs, S, G, m, p⟩ := q
  refine ⟨F, rs, S, G, m, (Post.seq p).mono fun v H1 ⟨rs1, S1, G1, x, u1, m1, r1, p1⟩ => ?_⟩
  obtain ⟨j, kv0, rfl, e0, p2⟩ := Post.dkOf p1
  obtain ⟨a, rfl, ha, isd⟩ := m1.isD r1 e0
  refine ⟨a, rfl, isd, F, rs1, S1, G1, m1, (Post.seq p2).mono fun v2 H2 ⟨rs2, S2, G2, y, u2, m2, r2, p3⟩ => ?_⟩
  refine ⟨F, rs2, S2, G2, m2, (Post.seq p3).mono fun v3 H3 ⟨rs3, S3, G3, z, u3, m3, r3, p4⟩ => ?_⟩
  obtain ⟨k, rfl, p5⟩ := Post.intV p4
  obtain ⟨j', kvs, ej, e1, p6⟩ := Post.dkOf p5
  cases ej
  cases (show Dd X.K G2 v2 (.int k) from r2)
  refine ⟨_, m3.dget (up_at u3 (up_at u2 ha)) e1 k, ?_⟩
  cases hk : dkGet kvs k with
  | some v =>
    rw [hk] at p6
    exact Post.ret m3 p6 (.int v)
  | none =>
    rw [hk] at p6
    exact Post.ret m3 p6 r3
/-! ### d[k] -/
def eDIdx (td ti : M VD) : M VD := do let x ← td; let y ← ti; let k ← intV y; let kvs ← dkOf x; let v ← ofO (dkGet kvs k); pure (.dat (.int v))
theorem d_didx {td ti : M VD} (hu : X.A.units + 200 < cLine) (ho : PD X E o td) (hi : PD X E i ti) (hs : L2.NoSl i := by intro _ _; rfl) : PD X E (.Subscript o i pos) (eDIdx td ti) := PE.weak (pe_dget (by omega) ho hi hs) fun σ H Q q => by
  obtain ⟨F, rs, S, G, m, p⟩ := q
  refine ⟨F, rs, S, G, m, (Post.seq p).mono fun v H1 ⟨rs1, S1, G1, x, u1, m1, r1, p1⟩ => ?_⟩
  refine ⟨F, rs1, S1, G1, m1, (Post.seq p1).mono fun v2 H2 ⟨rs2, S2, G2, y, u2, m2, r2, p2⟩ => ?_⟩
  obtain ⟨k, rfl, p3⟩ := Post.intV p2
  obtain ⟨j, kvs, rfl, e1, p4⟩ := Post.dkOf p3
  obtain ⟨v', hv, p5⟩ := Post.ofO p4
  obtain ⟨a, ha, rfl⟩ := r1
  cases (show Dd X.K G2 v2 (.int k) from r2)
  have g := m2.dget (up_at u2 ha) e1 k
  rw [hv] at g
  exact ⟨a, _, rfl, g, Post.ret m2 p5 (.int v')⟩
/-! ### k in d -/
def eDIn (f : Bool → Bool) (ti td : M VD) : M VD := do let y ← ti; let x ← td; let k ← intV y; let kvs ← dkOf x; pure (.dat (.bool (f (dkGet kvs k).isSome)))
theorem din_lift {ti td : M VD} {fb : Bool → Bool} {σ : L2.St} {H : Hp} {Q : VK} {R : VK} (q : liftE X.K X.wd X.mg E (eDIn fb ti td) σ H Q) (k : ∀ b H', Q (.bl (fb b)) H' → R (.bl (fb b)) H') :
    liftE X.K X.wd X.mg E ti σ H fun y H1 => liftE X.K X.wd X.mg E td σ H1 fun x H2 => ∃ a o, x = .ref a ∧ DGet H2 a y o ∧ R (.bl (fb o.isSome)) H2 := by
  obtain ⟨F, rs, S, G, m, p⟩ := q
  refine ⟨F, rs, S, G, m, (Post.seq p).mono fun v H1 ⟨rs1, S1, G1, x, u1, m1, r1, p1⟩ => ?_⟩
  refine ⟨F, rs1, S1, G1, m1, (Post.seq p1).mono fun v2 H2 ⟨rs2, S2, G2, y, u2, m2, r2, p2⟩ => ?_⟩
  obtain ⟨k', rfl, p3⟩ := Post.intV p2
  obtain ⟨j, kvs, rfl, e1, p4⟩ := Post.dkOf p3
  obtain ⟨a, ha, rfl⟩ := r2
  cases (show Dd X.K G1 v (.int k') from r1)
  refine ⟨a, _, rfl, m2.dget ha e1 k', k _ _ ?_⟩
  have e2 : ((dkGet kvs k').map V.int).isSome = (dkGet kvs k').isSome := by cases dkGet kvs k' <;> rfl
  rw [e2]
  exact Post.ret m2 p4 (.bl _)
theorem d_din {ti td : M VD} (hu : X.A.units + 200 < cLine) (hi : PD X E i ti) (ho : PD X E o td) (hm : behindInMarks .In o = false) : PD X E (.Compare i [.In] [o] pos) (eDIn id ti td) :=
  PE.weak (pe_cmp (pc_din (by omega) hi ho) hm) fun σ H Q q => din_lift q fun _ _ h => h
theorem d_dnin {ti td : M VD} (hu : X.A.units + 200 < cLine) (hi : PD X E i ti) (ho : PD X E o td) (hm : behindInMarks .NotIn o = false) : PD X E (.Compare i [.NotIn] [o] pos) (eDIn not ti td) :=
  PE.weak (pe_cmp (pc_dnotin (by omega) hi ho) hm) fun σ H Q q => din_lift q fun _ _ h => h
theorem dt_din {ti td : M VD} (hu : X.A.units + 200 < cLine) (hi : PD X E i ti) (ho : PD X E o td) (hm : behindInMarks .In o = false) : PDT X E (.Compare i [.In] [o] pos) (tOf (eDIn id ti td)) :=
  PT.weak (pt_cmp (pc_din (by omega) hi ho) hm) fun σ H Q q => din_lift (R := fun x H2 => ∃ d, x = V.bl d ∧ Q d H2) (tOf_lift q) fun _ _ h => h
theorem dt_dnin {ti td : M VD} (hu : X.A.units + 200 < cLine) (hi : PD X E i ti) (ho : PD X E o td) (hm : behindInMarks .NotIn o = false) : PDT X E (.Compare i [.NotIn] [o] pos) (tOf (eDIn not ti td)) :=
  PT.weak (pt_cmp (pc_dnotin (by omega) hi ho) hm) fun σ H Q q => din_lift (R := fun x H2 => ∃ d, x = V.bl d ∧ Q d H2) (tOf_lift q) fun _ _ h => h
/-! ### d[k] = v -/
def sDSet (td ti tv : M VD) : MS := do let v ← tv; let x ← td; let y ← ti; let n ← intV v; let k ← intV y; putDk x k n; pure .nx
theorem PostS.intV {K : PySem.W.Frag} {wl : Wd} {mg : Str → Option Value} {F : Hp} {rs : List Addr} {S : DS} {G : Hp} {D : Ends} {x : VD} {g : Int → MS} (h : PostS K wl mg E F rs G ((DL.intV x >>= g) S) D) : ∃ i, x = .dat (.int i) ∧ PostS K wl mg E F rs G (g i S) D := by
  rw [M.bind_run] at h
  cases x with
  | dat d =>
    cases d with
    | int i => exact ⟨i, rfl, h⟩
    | _ => exact h.elim
  | _ => exact h.elim
theorem PostS.putDk {K : PySem.W.Frag} {wl : Wd} {mg : Str → Option Value} {F : Hp} {rs : List Addr} {S : DS} {G : Hp} {D : Ends} {x : VD} {k v : Int} {g : Unit → MS} (h : PostS K wl mg E F rs G ((DL.putDk x k v >>= g) S) D) :
    ∃ j kvs, x = .rf j ∧ S.ce[j]? = some (.dk kvs) ∧ kvs.length < 16777216 ∧ PostS K wl mg E F rs G (g () { S with ce := S.ce.set j (.dk (dkPut kvs k v)) }) D := by
  rw [M.bind_run] at h
  cases x with
  | rf j =>
    unfold DL.putDk at h
    dsimp only at h
    cases e : S.ce[j]? with
    | none => rw [e] at h; exact h.elim
    | some c =>
      cases c with
      | dk kvs =>
        rw [e] at h
        dsimp only at h
        split at h
        · rename_i hz; exact ⟨j, kvs, rfl, e, hz, h⟩
        · exact h.elim
      | si _ => rw [e] at h; exact h.elim
      | ls _ _ => rw [e] at h; exact h.elim
  | _ => exact h.elim
theorem s_dset {td ti tv : M VD} (hu : X.A.units + 200 < cLine) (ho : PD X E o td) (hi : PD X E i ti) (hv : PD X E value tv) (hs : swapsWith value (some (.Subscript o i pos')) pos.line X.env = pure false := by rfl) :
    PDS X E (.Assign [.Subscript o i pos'] value pos) (sDSet td ti tv) := PS.weak (ps_dput (by omega) ho hi hv hs) fun D σ H q => by
  obtain ⟨F, rs, S, G, m, p⟩ := q
  refine ⟨F, rs, S, G, m, (PostS.expr p).mono fun v1 H1 ⟨rs1, S1, G1, x1, u1, m1, r1, p1⟩ => ?_⟩
  refine ⟨F, rs1, S1, G1, m1, (PostS.expr p1).mono fun v2 H2 ⟨rs2, S2, G2, x2, u2, m2, r2, p2⟩ => ?_⟩
  refine ⟨F, rs2, S2, G2, m2, (PostS.expr p2).mono fun v3 H3 ⟨rs3, S3, G3, x3, u3, m3, r3, p3⟩ => ?_⟩
  obtain ⟨n, rfl, p4⟩ := PostS.intV p3
  obtain ⟨k, rfl, p5⟩ := PostS.intV p4
  obtain ⟨j, kvs, rfl, e, hz, p6⟩ := PostS.putDk p5
  obtain ⟨a, ha, rfl⟩ := r2
  cases (show Dd X.K G1 v1 (.int n) from r1)
  cases (show Dd X.K G3 v3 (.int k) from r3)
  have ha3 := up_at u3 ha
  have w := DPut.k (k := (.inl k : Key)) (v := V.int n) (m3.dk ha3 e) (by unfold kvV; rw [List.length_map, sizeLine_eq]; exact hz)
  rw [kvV_put] at w
  exact ⟨a, _, rfl, w, p6 _ _ G3 rs3 Up.refl (m3.writeD ha3 e)⟩
/-! ### dict(list of pairs) -/
def pairI : PyData → Option (Int × Int)
  | .tuple [.int k, .int v] => some (k, v)
  | _ => none
def pairsI : List PyData → Option (List (Int × Int))
  | [] => some []
  | d :: ds => match pairI d, pairsI ds with
    | some p, some r => some (p :: r)
    | _, _ => none
def eDictOf (ta : M VD) : M VD := do
  let x ← ta
  let d ← peek x
  match d with
  | .list ds => do let kvs ← ofO (pairsI ds); newK (dkMerge [] kvs)
  | _ => M.bad
theorem pairI_eq {d : PyData} {p : Int × Int} (h : pairI d = some p) : d = .tuple [.int p.1, .int p.2] := by
  unfold pairI at h
  split at h
  · cases h; rfl
  · cases h
theorem pairs_at {K : PySem.W.Frag} {H : Hp} : ∀ {vs : List V} {ds : List PyData} {kvs : List (Int × Int)}, DdAll K H vs ds → pairsI ds = some kvs → ∃ ps : List Addr, vs = ps.map V.ref ∧ Paired (fun p (kv : Key × V) => SqT K H p [kV kv.1, kv.2]) ps (kvV kvs)
  | _, _, kvs, .nil, e => by cases e; exact ⟨[], rfl, .nil⟩
  | _, _, kvs, .cons (v := v) (d := d) (ds := ds) h t, e => by
    rw [pairsI] at e
    cases h1 : pairI d with
    | none => rw [h1] at e; cases e
    | some p =>
      cases h2 : pairsI ds with
      | none => rw [h1, h2] at e; cases e
      | some r =>
        rw [h1, h2] at e
        cases e
        obtain ⟨ps, rfl, hp⟩ := pairs_at t h2
        cases pairI_eq h1
        cases h with
        | @tup a xs _ hs ha =>
          cases ha with
          | cons q1 q2 =>
            cases q1
            cases q2 with
            | cons q3 q4 =>
              cases q3
              cases q4
              exact ⟨a :: ps, rfl, .cons hs.sqt hp⟩
theorem d_dictOf {ta : M VD} (hc : X.calm = true) (ha : PD X E a ta) (hm : X.mg "dict" = none) (hg : Gl X "dict" := by rfl) (na : starEach [a] X.env = (false, eval a X.env) :: starEach [] X.env := by rfl) : PD X E (.Call (.Name "dict" p) [a] [] pos) (eDictOf ta) :=
  PE.weak (pe_callTy (call_dictP hc) hg hm (by decide +kernel) (pa_cons ha pa_nil na) (he := na)) fun σ H Q q => by
  obtain ⟨F, rs, S, G, m, p⟩ := q
  refine ⟨F, rs, S, G, m, (Post.seq p).mono fun v H1 ⟨rs1, S1, G1, x, u1, m1, r1, p1⟩ => ?_⟩
  obtain ⟨d, hd, p2⟩ := Post.peek p1
  cases d with
  | list ds =>
    obtain ⟨kvs, hk, p3⟩ := Post.ofO p2
    obtain ⟨a, vs, rfl, hl, hda⟩ := m1.peekL r1 hd
    obtain ⟨ps, rfl, hp⟩ := pairs_at (DdAll.same m1.sub _ _ hda) hk
    refine ⟨a, ps, _, rfl, .inl hl, hp, fun q hq => ?_⟩
    have em := kvV_merge kvs []
    rw [show kvV ([] : List (Int × Int)) = [] from rfl] at em
    rw [em]
    exact p3 (.ref q) _ G1 (rs1 ++ [q]) ⟨⟨[q], rfl⟩, L2.Same.refl G1⟩ (m1.cellD hq) ⟨q, by rw [← m1.rl]; simp, rfl⟩
  | _ => exact p2.elim
/-! ### continue -/
def sCt : MS := pure .ct
end
end DL
/-! DD2: displays with stars; t.index(n); continue. -/
namespace DL
open PySem PySem.Spec L2
variable [TabT]
theorem rdvs_of {K : PySem.W.Frag} {wl : Wd} {rs : List Addr} {G : Hp} : ∀ {ds : List PyData} {vs : List V}, DdAll K G vs ds → RdVs K wl rs G (ds.map .dat) vs
  | [], _, .nil => trivial
  | _ :: _, _, .cons h t => ⟨h, rdvs_of t⟩
theorem rdvs_append {K : PySem.W.Frag} {wl : Wd} {rs : List Addr} {G : Hp} : ∀ {xs ys : List VD} {vs ws : List V}, RdVs K wl rs G xs vs → RdVs K wl rs G ys ws → RdVs K wl rs G (xs ++ ys) (vs ++ ws)
  | [], _, [], _, _, h => h
  | _ :: _, _, _ :: _, _, h, k => ⟨h.1, rdvs_append h.2 k⟩
  | [], _, _ :: _, _, h, _ => h.elim
  | _ :: _, _, [], _, h, _ => h.elim
section
variable {X : Cx} {E : XK} {e o : Expr} {es : List Expr} {p pos apos : Pos}
/-! ### *x in a display -/
def aStar (a : M VD) (t : M (List VD)) : M (List VD) := do let x ← a; let c ← peek x; let ds ← ofO (asSeq c); let xs ← t; pure (ds.map .dat ++ xs)
theorem d_star {a : M VD} {t : M (List VD)} (ha : PD X E e a) (ht : PDA X E es t) (hs : starEach (.Starred e p :: es) X.env = (true, eval e X.env) :: starEach es X.env := by rfl) : PDA X E (.Starred e p :: es) (aStar a t) :=
  PA.weak (StX.pa_star ha ht hs) fun σ H Q q => by
  obtain ⟨F, rs, S, G, m, p⟩ := q
  refine ⟨F, rs, S, G, m, (Post.seq p).mono fun v H1 ⟨rs1, S1, G1, x, u1, m1, r1, p1⟩ => ?_⟩
  obtain ⟨d, hd, p2⟩ := Post.peek p1
  obtain ⟨ds, hs, p3⟩ := Post.ofO p2
  obtain ⟨a, vs, rfl, hda, hk⟩ := m1.seq r1 hd hs
  refine ⟨a, vs, rfl, hk.elim (fun y => .inr (.inl y.2)) (fun y => .inl y.2.1.sqt), F, rs1, S1, G1, m1, (Post.seq p3).mono fun ys H2 ⟨rs2, S2, G2, xs, u2, m2, r2, p4⟩ => ?_⟩
  exact Post.ret m2 p4 (rdvs_append (rdvs_of (DdAll.same u2.2 _ _ hda)) r2)
theorem star_star {env : Env} : starEach (.Starred e p :: es) env = (true, eval e env) :: starEach es env := rfl
/-! ### t.index(n) -/
def tupOf (x : VD) : M (List PyData) := match x with
  | .dat (.tuple ds) => pure ds
  | _ => M.bad
theorem Post.tupOf {K : PySem.W.Frag} {wl : Wd} {mg : Str → Option Value} {F : Hp} {rs : List Addr} {S : DS} {σ : L2.St} {G : Hp} {α β : Type} {Rel : List Addr → Hp → α → β → Prop} {x : VD} {g : List PyData → M α} {Q : β → Hp → Prop} (h : Post K wl mg E F σ Rel rs G ((DL.tupOf x >>= g) S) Q) : ∃ ds, x = .dat (.tuple ds) ∧ Post K wl mg E F σ Rel rs G (g ds S) Q := by
  rw [M.bind_run] at h
  cases x with
  | dat d =>
    cases d with
    | tuple ds => exact ⟨ds, rfl, h⟩
    | _ => exact h.elim
  | _ => exact h.elim
def eIndex (ta tb : M VD) : M VD := do let x ← ta; let ds ← tupOf x; let y ← tb; let k ← intV y; let ns ← ofO (intsOf ds); chk (decide (k ∈ ns)); pure (.dat (.int (ns.idxOf k : Nat)))
theorem d_index {ta tb : M VD} (ho : PD X E o ta) (he : PD X E e tb) (hs : starEach [e] X.env = (false, eval e X.env) :: starEach [] X.env := by rfl)
    (hbase : attributeBase o "index" X.env (eval o X.env) = eval o X.env := by rfl)
    (hfew : ((backTo pos (starEach [e] X.env)).all (fun x => !x.1) && (backToKw pos (keywordEach [] X.env)).all (fun x => x.1.isSome) && decide ([e].length + ([] : List Keyword).length + (if ([] : List Keyword).isEmpty then 0 else 1) < 30)) = true := by rfl)
    (hline : (apos.endLine == pos.line) = true := by rfl) (hplain : (backTo pos (starEach [] X.env)).any (·.1) = false := by rfl) : PD X E (.Call (.Attribute o "index" apos) [e] [] pos) (eIndex ta tb) :=
  PE.weak (TN.pe_index ho (pa_cons he pa_nil hs) hbase hfew hline hs hplain) fun σ H Q q => by
  obtain ⟨F, rs, S, G, m, p⟩ := q
  refine ⟨F, rs, S, G, m, (Post.seq p).mono fun v H1 ⟨rs1, S1, G1, x, u1, m1, r1, p1⟩ => ?_⟩
  obtain ⟨ds, rfl, p2⟩ := Post.tupOf p1
  cases (show Dd X.K G1 v (.tuple ds) from r1) with
  | @tup a xs _ ht hda =>
    refine ⟨⟨a, xs, rfl, TN.SqN.same m1.sub ht⟩, F, rs1, S1, G1, m1, (Post.seq p2).mono fun w H2 ⟨rs2, S2, G2, y, u2, m2, r2, p3⟩ => ?_⟩
    obtain ⟨k, rfl, p4⟩ := Post.intV p3
    obtain ⟨ns, hn, p5⟩ := Post.ofO p4
    obtain ⟨hk, p6⟩ := Post.chk p5
    cases (show Dd X.K G2 w (.int k) from r2)
    obtain ⟨rfl, _⟩ := intsOf_vs hn hda
    exact ⟨a, ns, k, rfl, rfl, TN.SqN.same m2.sub (TN.SqN.same u2.2 ht), of_decide_eq_true hk, Post.ret m2 p6 (.int _)⟩
/-! ### continue -/
theorem s_ct : PDS X E (.Continue pos) sCt := PS.weak ps_continue fun D σ H q => by
  obtain ⟨F, rs, S, G, m, p⟩ := q
  exact p σ H G rs Up.refl m
end
end DL
/-! ZN2: tuple(zip(x, y)), list(zip(x, y)). -/
namespace ZN
open PySem PySem.Spec PyProof.Rows L2 TN
section
variable {prog : Program} {w : World} {A : Around} {E : Value → Shared → Prop} {s : Shared} {z TI TO T i1 i2 : Addr} {fp1 fp2 : List Addr} {n1 n2 i : Nat} {P1 P2 : Nat → Value → Prop} {St1 St2 : Nat → Heap → Prop} {f : Bool} {o0 : Obj}
/-- the next pair, the one before still out -/
theorem held_item {Q : Value → Shared → Prop} (S : ZipSep2 z TI TO i1 i2 fp1 fp2) (D1 : Draws prog w A i1 fp1 n1 P1 St1) (D2 : Draws prog w A i2 fp2 n2 P2 St2)
    (hz : IsZipHeld s.heap z TI TO T f) (hT : s.heap.get? T = some o0) (hTI : IsTupOf2 s.heap TI (.ref i1) (.ref i2)) (st1 : St1 i s.heap) (st2 : St2 i s.heap) (lt1 : i < n1) (lt2 : i < n2)
    (hQ : ∀ x y h' tk, P1 i x → P2 i y → IsZipHeld h' z TI TO T true → St1 (i + 1) h' → St2 (i + 1) h' → IsTupOf2 h' s.heap.objs.size x y → h'.objs.size = s.heap.objs.size + 1 →
      (∀ c o, c ≠ z → c ≠ i1 → c ≠ i2 → s.heap.get? c = some o → h'.get? c = some o) → Q (.ref s.heap.objs.size) { s with heap := h', toks := tk }) : wpAny (model prog w) A (Builtin.«zip.__next__» ⟨[.ref z], []⟩) (fun fin s' => ∃ v, fin = .done (.ret v) ∧ Q v s') E s := by
  obtain ⟨hp, g, d, tk0, os⟩ := s; show wpAny _ _ (field (.ref z) 2 >>= _) _ _ _; refine wpAny_bind (wpAny_field hz rfl (x := .bool false) rfl ?_); show wpAny _ _ (field (.ref z) 3 >>= _) _ _ _
  refine wpAny_bind (wpAny_field hz rfl (x := .ref TI) rfl (wpAny_bind (wpAny_seqItems hTI rfl ?_))); show wpAny _ _ (Builtin.SmallTypes.ownedTupleIsFree (.ref z) >>= _) _ _ _
  refine wpAny_bind (wpAny_tupleHeld_zip hz hT fun g0 hz0 hs0 => ?_)
  replace hs0 : (Heap.SameBut z hp g0) := hs0
  simp only [Bool.false_eq_true, if_false]; refine wpAny_bind ?_
  rw [← Array.forIn_toList]; simp only [List.forIn_cons, List.forIn_nil]; refine wpAny_bind (wpAny_bind (wpAny_holding ?_)); show wpAny _ _ (Builtin.SmallTypes.nextOf (.ref i1) >>= _) _ _ ⟨g0, g, d, tk0, os⟩
  refine wpAny_bind (D1.item i _ _ _ lt1 (D1.over st1 hs0 S.zf1) fun x1 p1 tk1 hx1 sn1 hp1 => wpAny_pure (wpAny_pure ?_))
  replace hp1 : (Heap.SameBut i1 g0 p1) := hp1
  refine wpAny_bind (wpAny_bind (wpAny_holding ?_)); show wpAny _ _ (Builtin.SmallTypes.nextOf (.ref i2) >>= _) _ _ ⟨p1, g, d, tk1, os⟩
  refine wpAny_bind (D2.item i _ _ _ lt2 (D2.over (D2.over st2 hs0 S.zf2) hp1 S.sep1_2) fun x2 p2 tk2 hx2 sn2 hp2 => wpAny_pure (wpAny_pure (wpAny_pure ?_)))
  replace hp2 : Heap.SameBut i2 p1 p2 := hp2
  show wpAny _ _ (newTuple [x1, x2] >>= _) _ _ ⟨p2, g, d, tk2, os⟩
  refine wpAny_bind (wpAny_newTuple (wpAny_pure ⟨_, rfl, ?_⟩))
  have hsz : p2.objs.size = hp.objs.size := by rw [hp2.1, hp1.1, hs0.1]
  have hk : ∀ c o, c ≠ z → c ≠ i1 → c ≠ i2 → hp.get? c = some o → p2.get? c = some o := fun c o c1 c2 c3 e => hp2.extBut _ _ c3 (hp1.extBut _ _ c2 (hs0.extBut _ _ c1 e))
  have hn : IsTupOf2 (p2.push { cls := .type "tuple", data := .seq #[x1, x2] }) p2.objs.size x1 x2 := Heap.get?_push_size _ rfl
  have hl : (p2.push { cls := .type "tuple", data := .seq #[x1, x2] }).objs.size = p2.objs.size + 1 := Heap.size_push ..
  show Q (.ref p2.objs.size) ⟨_, g, d, tk2, os⟩
  have e1 : St1 (i + 1) p2 := D1.over sn1 hp2 S.sep2_1
  rw [hsz] at hn hl ⊢
  exact hQ x1 x2 _ tk2 hx1 hx2 (Heap.get?_push_of_some _ (hp2.extBut _ _ S.zi2 (hp1.extBut _ _ S.zi1 hz0))) (D1.frame _ _ _ e1 fun b hb o e => Heap.get?_push_of_some _ e) (D2.frame _ _ _ sn2 fun b hb o e => Heap.get?_push_of_some _ e) hn hl fun c o c1 c2 c3 e => Heap.get?_push_of_some _ (hk c o c1 c2 c3 e)
theorem held_end {Q : Fin → Shared → Prop} (S : ZipSep2 z TI TO i1 i2 fp1 fp2) (D1 : Draws prog w A i1 fp1 n1 P1 St1) (D2 : Draws prog w A i2 fp2 n2 P2 St2)
    (hz : IsZipHeld s.heap z TI TO T f) (hT : s.heap.get? T = some o0) (hTI : IsTupOf2 s.heap TI (.ref i1) (.ref i2)) (st1 : St1 i s.heap) (st2 : St2 i s.heap) (le1 : i ≤ n1) (le2 : i ≤ n2) (hend : i = n1 ∨ i = n2)
    (hE : ∀ h' tk e, (∀ c o, c ≠ z → c ≠ i1 → c ≠ i2 → s.heap.get? c = some o → h'.get? c = some o) → (∃ o, h'.get? e = some o ∧ o.cls = .type "StopIteration") → E (.ref e) { s with heap := h', toks := tk }) : wpAny (model prog w) A (Builtin.«zip.__next__» ⟨[.ref z], []⟩) Q E s := by
  obtain ⟨hp, g, d, tk0, os⟩ := s; show wpAny _ _ (field (.ref z) 2 >>= _) _ _ _; refine wpAny_bind (wpAny_field hz rfl (x := .bool false) rfl ?_); show wpAny _ _ (field (.ref z) 3 >>= _) _ _ _
  refine wpAny_bind (wpAny_field hz rfl (x := .ref TI) rfl (wpAny_bind (wpAny_seqItems hTI rfl ?_))); show wpAny _ _ (Builtin.SmallTypes.ownedTupleIsFree (.ref z) >>= _) _ _ _
  refine wpAny_bind (wpAny_tupleHeld_zip hz hT fun g0 hz0 hs0 => ?_)
  replace hs0 : (Heap.SameBut z hp g0) := hs0
  simp only [Bool.false_eq_true, if_false]; refine wpAny_bind ?_
  rw [← Array.forIn_toList]; simp only [List.forIn_cons, List.forIn_nil]; refine wpAny_bind (wpAny_bind (wpAny_holding ?_)); show wpAny _ _ (Builtin.SmallTypes.nextOf (.ref i1) >>= _) _ _ ⟨g0, g, d, tk0, os⟩
  by_cases hlt1 : i < n1
  · refine wpAny_bind (D1.item i _ _ _ hlt1 (D1.over st1 hs0 S.zf1) fun x1 p1 tk1 hx1 sn1 hp1 => wpAny_pure (wpAny_pure ?_))
    replace hp1 : (Heap.SameBut i1 g0 p1) := hp1
    have hi2 : i = n2 := by omega
    refine wpAny_bind (wpAny_bind (wpAny_holding ?_)); show wpAny _ _ (Builtin.SmallTypes.nextOf (.ref i2) >>= _) _ _ ⟨p1, g, d, tk1, os⟩
    refine wpAny_bind (D2.done ⟨p1, g, d, tk1, os⟩ _ _ (by rw [← hi2]; exact D2.over (D2.over st2 hs0 S.zf2) hp1 S.sep1_2) fun q e hq he => ?_)
    replace hq : Heap.ExtBut i2 p1 q := hq
    exact hE q tk1 e (fun c o c1 c2 c3 x => hq _ _ c3 (hp1.extBut _ _ c2 (hs0.extBut _ _ c1 x))) he
  · (have hi1 : i = n1 := by omega)
    refine wpAny_bind (D1.done ⟨g0, g, d, tk0, os⟩ _ _ (by rw [← hi1]; exact D1.over st1 hs0 S.zf1) fun q e hq he => ?_)
    replace hq : (Heap.ExtBut i1 g0 q) := hq
    exact hE q tk0 e (fun c o c1 c2 _ x => hq _ _ c2 (hs0.extBut _ _ c1 x)) he
theorem next_held_item {Q : Option Value → Shared → Prop} (S : ZipSep2 z TI TO i1 i2 fp1 fp2) (D1 : Draws prog w A.in1 i1 fp1 n1 P1 St1) (D2 : Draws prog w A.in1 i2 fp2 n2 P2 St2)
    (hz : IsZipHeld s.heap z TI TO T f) (hT : s.heap.get? T = some o0) (hTI : IsTupOf2 s.heap TI (.ref i1) (.ref i2)) (st1 : St1 i s.heap) (st2 : St2 i s.heap) (lt1 : i < n1) (lt2 : i < n2)
    (hQ : ∀ x y h' tk, P1 i x → P2 i y → IsZipHeld h' z TI TO T true → St1 (i + 1) h' → St2 (i + 1) h' → IsTupOf2 h' s.heap.objs.size x y → h'.objs.size = s.heap.objs.size + 1 →
      (∀ c o, c ≠ z → c ≠ i1 → c ≠ i2 → s.heap.get? c = some o → h'.get? c = some o) → Q (some (.ref s.heap.objs.size)) { s with heap := h', toks := tk }) : wpAny (model prog w) A (pyNext (.ref z)) Q E s := by
  have hTy : s.TypeIs (.ref z) "zip" := ⟨_, hz, rfl⟩; unfold pyNext
  exact wpAny_bind (wpAny_attempt (wpAny_callSpecial?_slot (name := Str.ofString "__next__") hTy F.slot_zip_next (wpAny_call_entry F.slot_zip_next hTy F.entry_zip_next
      (held_item S D1 D2 hz hT hTI st1 st2 lt1 lt2 fun x y h' tk y1 y2 b1 b2 b3 b4 b5 b6 => wpAny_pure (hQ x y h' tk y1 y2 b1 b2 b3 b4 b5 b6)) (F.args_zip_next_1 _))))
theorem next_held_end {Q : Option Value → Shared → Prop} (S : ZipSep2 z TI TO i1 i2 fp1 fp2) (D1 : Draws prog w A.in1 i1 fp1 n1 P1 St1) (D2 : Draws prog w A.in1 i2 fp2 n2 P2 St2)
    (hz : IsZipHeld s.heap z TI TO T f) (hT : s.heap.get? T = some o0) (hTI : IsTupOf2 s.heap TI (.ref i1) (.ref i2)) (st1 : St1 i s.heap) (st2 : St2 i s.heap) (le1 : i ≤ n1) (le2 : i ≤ n2) (hend : i = n1 ∨ i = n2)
    (hQ : ∀ h' tk, (∀ c o, c ≠ z → c ≠ i1 → c ≠ i2 → s.heap.get? c = some o → h'.get? c = some o) → Q none { s with heap := h', toks := tk }) : wpAny (model prog w) A (pyNext (.ref z)) Q E s := by
  have hTy : s.TypeIs (.ref z) "zip" := ⟨_, hz, rfl⟩; unfold pyNext
  refine wpAny_bind (wpAny_attempt (wpAny_callSpecial?_slot (name := Str.ofString "__next__") hTy F.slot_zip_next (wpAny_call_entry F.slot_zip_next hTy F.entry_zip_next (held_end S D1 D2 hz hT hTI st1 st2 le1 le2 hend fun h' tk e hk he => ?_) (F.args_zip_next_1 _))))
  obtain ⟨o, ho, hc⟩ := he
  exact wpAny_bind (wpAny_isInstance (T := "StopIteration") (b := true) ⟨o, ho, hc⟩ isSubtype_stop (wpAny_pure (hQ _ _ hk)))
end
end ZN
/-! ZN3: the pairs of zip gathered. -/
namespace ZN
open PySem PySem.Spec PyProof.Rows L2 TN
/-- the state of a zip that is gathered -/
def Gath (k1 k2 : Bool) (z TI TO i1 i2 a b : Addr) (i : Nat) (h : Heap) : Prop :=
  ((IsZip h z TI TO .none ∧ ∃ x y, IsTupOf2 h TO x y) ∨ ∃ T f o, IsZipHeld h z TI TO T f ∧ h.get? T = some o ∧ T ∉ [z, TI, TO, i1, i2]) ∧ IsTupOf2 h TI (.ref i1) (.ref i2) ∧ (∃ o, h.get? TO = some o ∧ ∀ v, o.data ≠ .cell v) ∧ IterK k1 h i1 a i ∧ IterK k2 h i2 b i
theorem ZipAt.gath {k1 k2 : Bool} {z TI TO i1 i2 a b : Addr} {i : Nat} {h : Heap} (st : ZipAt k1 k2 z TI TO i1 i2 a b i h) : Gath k1 k2 z TI TO i1 i2 a b i h := by
  obtain ⟨hz, hTI, ⟨x, y, hTO⟩, h1, h2⟩ := st; exact ⟨.inl ⟨hz, x, y, hTO⟩, hTI, ⟨_, hTO, fun v q => nomatch q⟩, h1, h2⟩
theorem Gath.typ {k1 k2 : Bool} {z TI TO i1 i2 a b : Addr} {i : Nat} {s : Shared} (st : Gath k1 k2 z TI TO i1 i2 a b i s.heap) : s.TypeIs (.ref z) "zip" := by
  obtain ⟨⟨hz, _⟩ | ⟨T, f, o, hz, _⟩, _⟩ := st
  · exact ⟨_, hz, rfl⟩
  · exact ⟨_, hz, rfl⟩
theorem Gath.lt {k1 k2 : Bool} {z TI TO i1 i2 a b : Addr} {i : Nat} {h : Heap} (st : Gath k1 k2 z TI TO i1 i2 a b i h) : ∀ c ∈ [z, TI, TO, i1, i2], c < h.objs.size := fun c hc => by
  obtain ⟨hz, hTI, ⟨o, hTO, _⟩, h1, h2⟩ := st
  rcases mem5 hc with q | q | q | q | q <;> rw [q]
  · rcases hz with ⟨hz, _⟩ | ⟨T, f, o, hz, _⟩ <;> exact Heap.lt_size hz
  · exact Heap.lt_size hTI
  · exact Heap.lt_size hTO
  · obtain ⟨_, e, _⟩ := h1.obj; exact Heap.lt_size e
  · obtain ⟨_, e, _⟩ := h2.obj; exact Heap.lt_size e
theorem Gath.keep {k1 k2 : Bool} {z TI TO i1 i2 a b : Addr} {i : Nat} {h h' : Heap} (st : Gath k1 k2 z TI TO i1 i2 a b i h) {S : Addr} (hS : S ∉ [z, TI, TO, i1, i2]) (hT : ∀ T o, T = S → h.get? T = some o → ∃ o', h'.get? T = some o') (k : ∀ c, c ≠ S → ∀ o, h.get? c = some o → h'.get? c = some o) : Gath k1 k2 z TI TO i1 i2 a b i h' := by
  obtain ⟨hz, hTI, ⟨o, hTO, ho⟩, h1, h2⟩ := st
  have ne : ∀ c ∈ [z, TI, TO, i1, i2], c ≠ S := fun c hc e => hS (e ▸ hc)
  refine ⟨?_, k _ (ne _ (by simp)) _ hTI, ⟨o, k _ (ne _ (by simp)) _ hTO, ho⟩, h1.at fun o q => k _ (ne _ (by simp)) o q, h2.at fun o q => k _ (ne _ (by simp)) o q⟩
  rcases hz with ⟨hz, x, y, hTO'⟩ | ⟨T, f, o', hz, hT', hn⟩
  · exact .inl ⟨k _ (ne _ (by simp)) _ hz, x, y, k _ (ne _ (by simp)) _ hTO'⟩
  · by_cases e : T = S
    · obtain ⟨o2, e2⟩ := hT T o' e hT'
      exact .inr ⟨T, f, o2, k _ (ne _ (by simp)) _ hz, e2, hn⟩
    · exact .inr ⟨T, f, o', k _ (ne _ (by simp)) _ hz, k _ e _ hT', hn⟩
section
variable {X : Cx} {pins : List (Addr × Obj)} {σ : L2.St} {H : Hp} {s : Shared} {k1 k2 : Bool} {z TI TO i1 i2 a b : Addr} {i : Nat} {xs ys : List V} {E : Value → Shared → Prop} {Q : Option Value → Shared → Prop}
theorem gath_item {A : Around} {x y : V} (D : ZipApart z TI TO i1 i2 a b) (hn0 : A.handled = none) (I : Inv X pins σ H s) (st : Gath k1 k2 z TI TO i1 i2 a b i s.heap) (hqx : SqK X.K k1 H a xs) (hqy : SqK X.K k2 H b ys) (hx : xs[i]? = some x) (hy : ys[i]? = some y)
    (fin : ∀ u v h' tk, RelV x u → RelV y v → h'.get? s.heap.objs.size = some (oT [u, v]) → Gath k1 k2 z TI TO i1 i2 a b (i + 1) h' → (∀ c o, c ∉ [z, TI, TO, i1, i2] → s.heap.get? c = some o → h'.get? c = some o) → Q (some (.ref s.heap.objs.size)) { s with heap := h', toks := tk }) :
    wpAny (model X.prog X.w) A (pyNext (.ref z)) Q E s := by
  have lts := st.lt
  obtain ⟨hz, hTI, hTO0, h1, h2⟩ := st
  obtain ⟨its, rv, p, _⟩ := seqK I hqx
  obtain ⟨its2, rv2, p2, _⟩ := seqK I hqy; obtain ⟨u, hu, ru⟩ := rv.get hx; obtain ⟨u2, hu2, ru2⟩ := rv2.get hy
  have hn : A.in1.handled = none := hn0
  have l1 : i < its.toArray.size := by rw [List.size_toArray]; exact (List.getElem?_eq_some_iff.mp hu).1
  have l2 : i < its2.toArray.size := by rw [List.size_toArray]; exact (List.getElem?_eq_some_iff.mp hu2).1
  have eq1 : ∀ {x1 : Value}, its.toArray[i]? = some x1 → x1 = u := fun {x1} q1 => by
    have q : its.toArray[i]? = some u := by simpa using hu
    rw [q] at q1; exact (Option.some.inj q1).symm
  have eq2 : ∀ {x1 : Value}, its2.toArray[i]? = some x1 → x1 = u2 := fun {x1} q1 => by
    have q : its2.toArray[i]? = some u2 := by simpa using hu2
    rw [q] at q1; exact (Option.some.inj q1).symm
  have nsz : s.heap.objs.size ∉ [z, TI, TO, i1, i2] := fun hm => Nat.lt_irrefl _ (lts _ hm)
  rcases hz with ⟨hz, x0, y0, hTO⟩ | ⟨T, f, o, hz, hT, hTn⟩
  · refine wpAny_pyNext_zipD2_item (zsep D) (drawsK k1 hn i1 a D.l1i1 its.toArray) (drawsK k2 hn i2 b D.l2i2 its2.toArray) hz hTI hTO ⟨h1, p⟩ ⟨h2, p2⟩ l1 l2 fun x1 x2 h' tk q1 q2 z' TO' st1 st2 hT hsz hk => ?_
    cases eq1 q1
    cases eq2 q2
    exact fin u u2 h' tk ru ru2 hT ⟨.inr ⟨s.heap.objs.size, false, _, z', hT, nsz⟩, hk _ _ D.TIz D.TITO D.TIi1 D.TIi2 hTI, ⟨_, TO', fun v q => nomatch q⟩, st1.1, st2.1⟩ fun c o hb q => hk c o (fun e => hb (by simp [e])) (fun e => hb (by simp [e])) (fun e => hb (by simp [e])) (fun e => hb (by simp [e])) q
  · refine next_held_item (zsep D) (drawsK k1 hn i1 a D.l1i1 its.toArray) (drawsK k2 hn i2 b D.l2i2 its2.toArray) hz hT hTI ⟨h1, p⟩ ⟨h2, p2⟩ l1 l2 fun x1 x2 h' tk q1 q2 z' st1 st2 hN hsz hk => ?_
    cases eq1 q1
    cases eq2 q2
    obtain ⟨oO, hO, hOc⟩ := hTO0
    have T1 : T ≠ z ∧ T ≠ i1 ∧ T ≠ i2 := ⟨fun e => hTn (by simp [e]), fun e => hTn (by simp [e]), fun e => hTn (by simp [e])⟩
    exact fin u u2 h' tk ru ru2 hN ⟨.inr ⟨T, true, o, z', hk _ _ T1.1 T1.2.1 T1.2.2 hT, hTn⟩, hk _ _ D.TIz D.TIi1 D.TIi2 hTI, ⟨oO, hk _ _ D.TOz D.TOi1 D.TOi2 hO, hOc⟩, st1.1, st2.1⟩ fun c o hb q => hk c o (fun e => hb (by simp [e])) (fun e => hb (by simp [e])) (fun e => hb (by simp [e])) q
theorem gath_end {A : Around} (D : ZipApart z TI TO i1 i2 a b) (hn0 : A.handled = none) (I : Inv X pins σ H s) (st : Gath k1 k2 z TI TO i1 i2 a b i s.heap) (hqx : SqK X.K k1 H a xs) (hqy : SqK X.K k2 H b ys) (lx : i ≤ xs.length) (ly : i ≤ ys.length) (hend : i = xs.length ∨ i = ys.length)
    (fin : ∀ h' tk, (∀ c o, c ∉ [z, TI, TO, i1, i2] → s.heap.get? c = some o → h'.get? c = some o) → Q none { s with heap := h', toks := tk }) : wpAny (model X.prog X.w) A (pyNext (.ref z)) Q E s := by
  obtain ⟨hz, hTI, hTO0, h1, h2⟩ := st
  obtain ⟨its, rv, p, _⟩ := seqK I hqx
  obtain ⟨its2, rv2, p2, _⟩ := seqK I hqy
  have hn : A.in1.handled = none := hn0
  have l1 : its.toArray.size = xs.length := by rw [List.size_toArray]; exact rv.length.symm
  have l2 : its2.toArray.size = ys.length := by rw [List.size_toArray]; exact rv2.length.symm
  rcases hz with ⟨hz, x0, y0, hTO⟩ | ⟨T, f, o, hz, hT, hTn⟩
  · exact wpAny_pyNext_zipD2_end (zsep D) (drawsK k1 hn i1 a D.l1i1 its.toArray) (drawsK k2 hn i2 b D.l2i2 its2.toArray) hz hTI hTO ⟨h1, p⟩ ⟨h2, p2⟩ (by omega) (by omega) (by omega) fun h' tk hk => fin h' tk fun c o hb q =>
      hk c o (fun e => hb (by simp [e])) (fun e => hb (by simp [e])) (fun e => hb (by simp [e])) (fun e => hb (by simp [e])) q
  · exact next_held_end (zsep D) (drawsK k1 hn i1 a D.l1i1 its.toArray) (drawsK k2 hn i2 b D.l2i2 its2.toArray) hz hT hTI ⟨h1, p⟩ ⟨h2, p2⟩ (by omega) (by omega) (by omega) fun h' tk hk => fin h' tk fun c o hb q =>
      hk c o (fun e => hb (by simp [e])) (fun e => hb (by simp [e])) (fun e => hb (by simp [e])) q
/-- the pairs so far -/
def Prs (H : Hp) (xs ys : List V) (ps : List Addr) : Prop := ∀ (j : Nat) (p : Addr), ps[j]? = some p → ∃ x y, xs[j]? = some x ∧ ys[j]? = some y ∧ SqN H p [x, y]
theorem Prs.same {H H' : Hp} {xs ys : List V} {ps : List Addr} (e : L2.Same H H') (h : Prs H xs ys ps) : Prs H' xs ys ps := fun j p hp => let ⟨x, y, h1, h2, h3⟩ := h j p hp; ⟨x, y, h1, h2, SqN.same e h3⟩
theorem gath_loop {A : Around} (D : ZipApart z TI TO i1 i2 a b) (hn0 : A.handled = none) {S : Addr} {res : Value} {R : Result → Shared → Prop} (hS : S ∉ [z, TI, TO, i1, i2]) (hz : min xs.length ys.length ≤ 100000) (H0 : Hp) (hS0 : H0 S = none) (hqx : ∀ H', Same H0 H' → SqK X.K k1 H' a xs) (hqy : ∀ H', Same H0 H' → SqK X.K k2 H' b ys)
    (hR : ∀ s' H' ps, Inv X pins σ H' s' → Same H0 H' → Prs H' xs ys ps → ps.length = min xs.length ys.length → H' S = some (.lst (ps.map V.ref)) → R (.ok (.ret res)) s') :
    ∀ (k i : Nat) (s : Shared) (H : Hp) (ps : List Addr), min xs.length ys.length - i = k → i ≤ min xs.length ys.length → Inv X pins σ H s → Same H0 H → (∀ c ∈ [z, TI, TO, i1, i2], FpOk X pins H c) → Gath k1 k2 z TI TO i1 i2 a b i s.heap → H S = some (.lst (ps.map V.ref)) → Prs H xs ys ps → ps.length = i →
      codeAny (model X.prog X.w) A (.builtin "list.extend.loop" ⟨[.ref S, .ref z, res], []⟩) R s := by
  intro k
  have hn1 : A.in1.handled = none := hn0
  have zl : sizeLine = 16777216 := sizeLine_eq
  induction k with
  | zero =>
    intro i s H ps hk hi I e0 hf st hSl hp hl; refine codeAny_builtin F.entry_extend_loop ?_; rw [Around.under_plainId F.plain_extend_loop _]
    show wpAny _ A.in1 (pyNext (.ref z) >>= _) _ _ s
    refine wpAny_bind (gath_end D hn1 I st (hqx H e0) (hqy H e0) (by omega) (by omega) (by omega) fun h' tk up => ?_)
    exact wpAny_pure (hR _ H ps (I.turnedL (ch := [z, TI, TO, i1, i2]) up hf) e0 hp (by omega) hSl)
  | succ k ih =>
    intro i s H ps hk hi I e0 hf st hSl hp hl
    have hx : xs[i]? = some (xs[i]'(by omega)) := List.getElem?_eq_getElem _
    have hy : ys[i]? = some (ys[i]'(by omega)) := List.getElem?_eq_getElem _
    generalize xs[i]'(by omega) = x at hx
    generalize ys[i]'(by omega) = y at hy; refine codeAny_builtin F.entry_extend_loop ?_; rw [Around.under_plainId F.plain_extend_loop _]
    show wpAny _ A.in1 (pyNext (.ref z) >>= _) _ _ s
    refine wpAny_bind (gath_item D hn1 I st (hqx H e0) (hqy H e0) hx hy fun u v h' tk ru rv hT st' up => ?_)
    have hTn : H s.heap.objs.size = none := I.hok.fresh (Nat.le_refl _)
    have new : ObjOk X.prog X.w (upd H s.heap.objs.size (TN.hT [u, v] [x, y])) h' s.heap.objs.size (TN.hT [u, v] [x, y]) := ⟨hT, by show 2 ≤ sizeLine; decide, [u, v], .cons ru (.cons rv .nil), ⟨_, hT, rfl, _, rfl⟩⟩
    have I1 : Inv X pins σ (upd H s.heap.objs.size (TN.hT [u, v] [x, y])) { s with heap := h', toks := tk } := I.turnedNew (ch := [z, TI, TO, i1, i2]) up hf (Nat.le_refl _) new
    have hST : S ≠ s.heap.objs.size := fun e => by rw [e, hTn] at hSl; cases hSl
    have hS1 : upd H s.heap.objs.size (TN.hT [u, v] [x, y]) S = some (.lst (ps.map V.ref)) := by rw [upd_ne hST]; exact hSl
    obtain ⟨_, itsL, n, rL, hlL, eL⟩ := I1.lstM hS1
    have lenL : itsL.length = i := by rw [← hlL, List.length_map, hl]
    have I2 : Inv X pins σ (upd (upd H s.heap.objs.size (TN.hT [u, v] [x, y])) S (.lst ((ps ++ [s.heap.objs.size]).map V.ref))) { s with heap := h'.update S (Obj.mapSeq (·.push (.ref s.heap.objs.size))), toks := tk } :=
      I1.lset (its' := itsL ++ [.ref s.heap.objs.size]) (t' := tk) hS1 eL (by simp) (by rw [List.map_append]; exact rL.append (.cons rfl .nil)) (by rw [List.length_map, List.length_append, List.length_singleton]; omega)
    show wpAny _ A.in1 (updateSeq S (·.push (.ref s.heap.objs.size)) >>= _) _ _ _
    refine wpAny_bind (wpAny_updateSeq eL rfl (wpAny_pure ⟨plainId_quiet F.plain_extend_loop _, ih (i + 1) _ _ (ps ++ [s.heap.objs.size]) (by omega) (by omega) I2 ?_ ?_ ?_ upd_same ?_ (by rw [List.length_append, List.length_singleton, hl])⟩) (by rw [List.size_toArray]; omega) (by rw [Array.size_push, List.size_toArray]; omega))
    · intro c o hc
      have c1 : c ≠ S := ne_of_none hc hS0
      have c2 : c ≠ s.heap.objs.size := ne_of_none (e0 c o hc) hTn
      rw [upd_ne c1, upd_ne c2]
      exact e0 c o hc
    · intro c hc
      refine ⟨?_, (hf c hc).2⟩
      have c1 : c ≠ S := fun e => hS (by rw [← e]; exact hc)
      rw [upd_ne c1, upd_ne (Nat.ne_of_lt (st.lt c hc))]
      exact (hf c hc).1
    · refine st'.keep hS (fun T o e h => ?_) fun c hne o e => (Heap.get?_update_other _ _ (Ne.symm hne)).trans e
      obtain ⟨_, its9, n9, _, _, e9⟩ := I2.lstM upd_same
      exact ⟨_, by rw [e]; exact e9⟩
    · intro j p hj
      rw [List.getElem?_append] at hj
      split at hj
      · obtain ⟨x', y', q1, q2, its', q3⟩ := hp j p hj
        have p1 : p ≠ S := fun e => by rw [e, hSl] at q3; cases q3
        have p2 : p ≠ s.heap.objs.size := ne_of_none q3 hTn
        exact ⟨x', y', q1, q2, its', by rw [upd_ne p1, upd_ne p2]; exact q3⟩
      · rename_i hj2
        have ej : j = i := by
          have := (List.getElem?_eq_some_iff.mp hj).1
          simp at this
          omega
        subst ej
        rw [hl, Nat.sub_self] at hj
        have ep : s.heap.objs.size = p := by simpa using hj
        subst ep
        exact ⟨x, y, hx, hy, [u, v], by rw [upd_ne hST.symm]; exact upd_same⟩
end
end ZN
/-! ZN4: tuple(zip(x, y)), list(zip(x, y)) as values. -/
namespace ZN
open PySem PySem.Spec PyProof.Rows L2 TN
theorem zip_no_len : typeLookup (.type "zip") "__len__" = pure none := by rw [typeLookup_type, builtinLookup_eq_fast]; kernel_rfl
theorem zip_no_hint : typeLookup (.type "zip") "__length_hint__" = pure none := by rw [typeLookup_type, builtinLookup_eq_fast]; kernel_rfl
section
variable {X : Cx} {pins : List (Addr × Obj)} {σ : L2.St} {H : Hp} {s : Shared} {k1 k2 : Bool} {z TI TO i1 i2 a b : Addr} {xs ys : List V}
/-- what is there when all pairs are gathered at S -/
def Done (X : Cx) (pins : List (Addr × Obj)) (σ : L2.St) (H0 : Hp) (xs ys : List V) (S : Addr) (s' : Shared) : Prop :=
  ∃ H' ps, Inv X pins σ H' s' ∧ Same H0 H' ∧ Prs H' xs ys ps ∧ ps.length = min xs.length ys.length ∧ H' S = some (.lst (ps.map V.ref))
theorem extend_zip {A : Around} (D : ZipApart z TI TO i1 i2 a b) (hn0 : A.handled = none) {S : Addr} {res : Value} {R : Result → Shared → Prop} (hS : S ∉ [z, TI, TO, i1, i2]) (hz : min xs.length ys.length ≤ 100000) {H0 : Hp} (hS0 : H0 S = none) (hqx : ∀ H', Same H0 H' → SqK X.K k1 H' a xs) (hqy : ∀ H', Same H0 H' → SqK X.K k2 H' b ys)
    (I : Inv X pins σ H s) (e0 : Same H0 H) (hf : ∀ c ∈ [z, TI, TO, i1, i2], FpOk X pins H c) (st : ZipAt k1 k2 z TI TO i1 i2 a b 0 s.heap) (hSl : H S = some (.lst []))
    (hR : ∀ s', Done X pins σ H0 xs ys S s' → R (.ok (.ret res)) s') :
    wpAny (model X.prog X.w) A.in1 (Builtin.List.listExtendWith (.ref S) (.ref z) res)
      (fun fin s' => match fin with | .done f => R (.ok f) s' | .again c' => c'.quiet = true ∧ codeAny (model X.prog X.w) A c' R s') (fun e s' => R (.error e) s') s := by
  have hSz : S ≠ z := fun e => hS (by simp [e])
  have hT := st.gath.typ
  obtain ⟨_, its0, n0, r0, _, e1⟩ := I.lstM hSl
  cases r0; unfold Builtin.List.listExtendWith; refine wpAny_bind (wpAny_typeOf hT ?_)
  have h1 : Builtin.List.listSameRef (.ref S) (.ref z) = false := by simp [Builtin.List.listSameRef, hSz]
  have h2 : (Value.type "zip" == Value.type "list") = false := by decide
  have h3 : (Value.type "zip" == Value.type "tuple") = false := by decide
  simp only [h1, h2, h3, Bool.or_false, Bool.false_eq_true, if_false]; refine wpAny_bind (wpAny_pyIter_zip st.1 (wpAny_bind (wpAny_holding ?_))); unfold Builtin.List.listLengthHint
  refine wpAny_bind (wpAny_specialOf hT zip_no_len ?_)
  show wpAny _ A.in1 (specialOf (Value.ref z) (Str.ofString "__length_hint__") >>= _) _ _ _
  refine wpAny_bind (wpAny_specialOf hT zip_no_hint (wpAny_pure ?_))
  show wpAny _ A.in1 (rule "list.extend.makes-room" >>= fun _ => Builtin.List.listTouch (.ref S) >>= fun _ => again (.builtin "list.extend.loop" ⟨[.ref S, .ref z, res], []⟩)) _ _ _; refine wpAny_bind (wpAny_rule (wpAny_bind ?_)); show wpAny _ A.in1 (updateSeq S (·.push .none) >>= fun _ => updateSeq S (·.pop)) _ _ _
  have I1 : Inv X pins σ (upd H S (.lst [.non])) { s with heap := s.heap.update S (Obj.mapSeq (·.push .none)) } := I.lset (its' := [.none]) (t' := s.toks) hSl e1 (by simp) (.cons rfl .nil) (by decide)
  refine wpAny_bind (wpAny_updateSeq e1 rfl ?_ (by decide) (by decide))
  obtain ⟨_, its1, n1, r1, l1, e2⟩ := I1.lstM upd_same
  have ei : its1 = [.none] := by
    cases r1 with
    | cons q t => cases q; cases t; rfl
  subst ei
  have I2 : Inv X pins σ (upd (upd H S (.lst [.non])) S (.lst [])) { s with heap := (s.heap.update S (Obj.mapSeq (·.push .none))).update S (Obj.mapSeq (·.pop)) } := I1.lset (its' := []) (t' := s.toks) upd_same e2 (by simp) .nil (Nat.zero_le _)
  rw [upd_upd] at I2
  refine wpAny_updateSeq e2 rfl ?_ (by decide) (by decide)
  have eH : upd H S (.lst []) = H := by
    funext c
    by_cases hc : c = S
    · rw [hc, upd_same, hSl]
    · rw [upd_ne hc]
  rw [eH] at I2
  have oth : ∀ c, c ≠ S → ∀ o, s.heap.get? c = some o → ((s.heap.update S (Obj.mapSeq (·.push .none))).update S (Obj.mapSeq (·.pop))).get? c = some o :=
    fun c hc o e => (Heap.get?_update_other _ _ (Ne.symm hc)).trans ((Heap.get?_update_other _ _ (Ne.symm hc)).trans e)
  refine wpAny_pure ⟨plainId_quiet F.plain_extend_loop _, gath_loop D hn0 hS hz H0 hS0 hqx hqy (fun s' H' ps J e p l hl => hR s' ⟨H', ps, J, e, p, l, hl⟩) _ 0 _ H [] rfl (Nat.zero_le _) I2 e0 hf (st.gath.keep hS (fun T o e h => ?_) oth) hSl (fun j p h => by simp at h) rfl⟩
  obtain ⟨_, its9, n9, _, _, e9⟩ := I2.lstM hSl
  exact ⟨_, by rw [e]; exact e9⟩
theorem iadd_zip {A : Around} (D : ZipApart z TI TO i1 i2 a b) (hn0 : A.handled = none) {S : Addr} {R : Result → Shared → Prop} (hS : S ∉ [z, TI, TO, i1, i2]) (hz : min xs.length ys.length ≤ 100000) {H0 : Hp} (hS0 : H0 S = none) (hqx : ∀ H', Same H0 H' → SqK X.K k1 H' a xs) (hqy : ∀ H', Same H0 H' → SqK X.K k2 H' b ys)
    (I : Inv X pins σ H s) (e0 : Same H0 H) (hf : ∀ c ∈ [z, TI, TO, i1, i2], FpOk X pins H c) (st : ZipAt k1 k2 z TI TO i1 i2 a b 0 s.heap) (hSl : H S = some (.lst []))
    (hR : ∀ s', Done X pins σ H0 xs ys S s' → R (.ok (.ret (.ref S))) s') : codeAny (model X.prog X.w) A (.builtin "list.__iadd__" ⟨[.ref S, .ref z], []⟩) R s := by
  refine codeAny_builtin F.entry_list_iadd ?_; rw [Around.under_plainId F.plain_list_iadd _]
  exact extend_zip D hn0 hS hz hS0 hqx hqy I e0 hf st hSl hR
theorem fp_new {o : HO} {S : Addr} (hf : ∀ c ∈ [z, TI, TO, i1, i2], FpOk X pins H c) (hS : S ∉ [z, TI, TO, i1, i2]) : ∀ c ∈ [z, TI, TO, i1, i2], FpOk X pins (upd H S o) c := fun c hc => by
  have c1 : c ≠ S := fun e => hS (by rw [← e]; exact hc)
  exact ⟨by rw [upd_ne c1]; exact (hf c hc).1, (hf c hc).2⟩
theorem collect_zip {A : Around} {E : Value → Shared → Prop} {Q : List Value → Shared → Prop} (D : ZipApart z TI TO i1 i2 a b) (hn0 : A.handled = none) (hz : min xs.length ys.length ≤ 100000) (hqx : ∀ H', Same H H' → SqK X.K k1 H' a xs) (hqy : ∀ H', Same H H' → SqK X.K k2 H' b ys)
    (I : Inv X pins σ H s) (hf : ∀ c ∈ [z, TI, TO, i1, i2], FpOk X pins H c) (st : ZipAt k1 k2 z TI TO i1 i2 a b 0 s.heap)
    (hQ : ∀ s' H' ps its, Inv X pins σ H' s' → Same H H' → Prs H' xs ys ps → ps.length = min xs.length ys.length → Vals (ps.map V.ref) its → Q its s') : wpAny (model X.prog X.w) A (collect (.ref z)) Q E s := by
  have hS : s.heap.objs.size ∉ [z, TI, TO, i1, i2] := fun hm => Nat.lt_irrefl _ (st.lt _ hm)
  have hS0 : H s.heap.objs.size = none := I.fresh
  have I1 := I.lnew (t' := s.toks) (its := []) (ys := []) .nil (Nat.zero_le _)
  unfold collect; refine wpAny_bind (wpAny_runValue (codeAny_builtin F.entry_proto_collect ?_)); rw [Around.under_plainId F.plain_proto_collect _]
  show wpAny _ A.in1 (newList [] >>= fun l => again (.builtin "list.__iadd__" ⟨[l, .ref z], []⟩)) _ _ s
  refine wpAny_bind (wpAny_newObj_type (wpAny_pure ⟨plainId_quiet F.plain_list_iadd _, iadd_zip D hn0 hS hz hS0 hqx hqy I1 (fun c o q => by rw [upd_ne (ne_of_none q hS0)]; exact q) (fp_new hf hS) (st.keep fun c hc o e => Heap.get?_push_of_some _ e) upd_same fun s' ⟨H', ps, J, e, p, l, hl⟩ => ?_⟩))
  obtain ⟨_, its, n, r, _, eS⟩ := J.lstM hl; show wpAny _ A (load s.heap.objs.size >>= _) _ _ s'
  refine wpAny_bind (wpAny_load eS (wpAny_pure ?_))
  exact hQ s' H' ps _ J e p l (by simpa using r)
end
end ZN
/-! ZN5: the calls tuple(zip(x, y)), list(zip(x, y)). -/
namespace ZN
open PySem PySem.Spec PyProof.Rows L2 TN
section
variable {X : Cx} {pins : List (Addr × Obj)} {σ : L2.St} {H : Hp} {s : Shared} {k1 k2 : Bool} {z TI TO i1 i2 a b : Addr} {xs ys : List V}
theorem code_tupZip {A : Around} {E Q1 : Value → Shared → Prop} (D : ZipApart z TI TO i1 i2 a b) (hn0 : A.handled = none) (hz : min xs.length ys.length ≤ 100000) (hqx : ∀ H', Same H H' → SqK X.K k1 H' a xs) (hqy : ∀ H', Same H H' → SqK X.K k2 H' b ys)
    (I : Inv X pins σ H s) (hf : ∀ c ∈ [z, TI, TO, i1, i2], FpOk X pins H c) (st : ZipAt k1 k2 z TI TO i1 i2 a b 0 s.heap)
    (h : ∀ s' H' ps its, Inv X pins σ H' s' → Same H H' → Prs H' xs ys ps → ps.length = min xs.length ys.length → Vals (ps.map V.ref) its → Q1 (.ref s'.heap.objs.size) { s' with heap := s'.heap.push (oT its) }) :
    codeAny (model X.prog X.w) A (.call (.builtin "tuple.__new__") ⟨[.type "tuple", .ref z], []⟩) (wants Q1 E) s := by
  refine codeAny_of_tree ?_
  show wpAny _ A.in1 (do checkBuiltinCall "tuple.__new__" ⟨[.type "tuple", .ref z], []⟩; again (.builtin "tuple.__new__" ⟨[.type "tuple", .ref z], []⟩)) _ _ s; refine wpAny_bind (wpAny_of_eq (F.newCall_tuple_1 _) (wpAny_pure ⟨plainId_quiet F.plain_tuple_new _, codeAny_builtin F.entry_tuple_new ?_⟩)); rw [Around.under_plainId F.plain_tuple_new _]
  have hsub := sub_tuple_self; have hinit := init_tuple_lookup
  have hmh := madeHere_tuple
  have hTI := st.gath.typ
  have hn1 : A.in1.handled = none := hn0
  wp_walk using wpAny_typeOf hTI, collect_zip D hn1 hz hqx hqy I hf st
  intro s' H' ps its J e p l r
  show wpAny _ _ (Builtin.Tuple.tupleExact its.toArray >>= fun v => ret v) _ _ _; unfold Builtin.Tuple.tupleExact
  have zl : sizeLine = 16777216 := sizeLine_eq
  have hl := r.length
  rw [List.length_map] at hl
  refine wpAny_bind (wpAny_newObj_type (wpAny_pure ?_) (by show its.toArray.size ≤ sizeLine; rw [List.size_toArray]; omega))
  exact h s' H' ps its J e p l r
theorem call_tupZip {A : Around} {E Q : Value → Shared → Prop} (D : ZipApart z TI TO i1 i2 a b) (hn0 : A.handled = none) (hz : min xs.length ys.length ≤ 100000) (hqx : ∀ H', Same H H' → SqK X.K k1 H' a xs) (hqy : ∀ H', Same H H' → SqK X.K k2 H' b ys)
    (I : Inv X pins σ H s) (hf : ∀ c ∈ [z, TI, TO, i1, i2], FpOk X pins H c) (st : ZipAt k1 k2 z TI TO i1 i2 a b 0 s.heap)
    (h : ∀ s' H' ps its, Inv X pins σ H' s' → Same H H' → Prs H' xs ys ps → ps.length = min xs.length ys.length → Vals (ps.map V.ref) its → Q (.ref s'.heap.objs.size) { s' with heap := s'.heap.push (oT its) }) :
    wpAny (model X.prog X.w) A (call (.type "tuple") [.ref z]) Q E s := by
  refine callType_codes (Q₁ := fun obj s₁ => s₁.TypeIs obj "tuple" ∧ Q obj s₁) F.called_tuple (F.typeCall_tuple_1 _) F.entry_object_init (code_tupZip D (by exact hn0) hz hqx hqy I hf st fun s' H' ps its J e p l r => ⟨⟨_, Heap.get?_push_size _ rfl, rfl⟩, h s' H' ps its J e p l r⟩) fun obj s₁ h₁ => ?_
  exact ⟨h₁.1, F.args_object_init_2 obj _, object_init_meets F.called_tuple.init.lookup F.called_tuple.made (by decide) X.prog X.w A.in1 _ s₁ ⟨h₁.1, rfl, h₁.2⟩⟩
theorem init_zip {A : Around} (D : ZipApart z TI TO i1 i2 a b) (hn0 : A.handled = none) {S : Addr} {R : Result → Shared → Prop} (hS : S ∉ [z, TI, TO, i1, i2]) (hz : min xs.length ys.length ≤ 100000) {H0 : Hp} (hS0 : H0 S = none) (hqx : ∀ H', Same H0 H' → SqK X.K k1 H' a xs) (hqy : ∀ H', Same H0 H' → SqK X.K k2 H' b ys)
    (I : Inv X pins σ H s) (e0 : Same H0 H) (hf : ∀ c ∈ [z, TI, TO, i1, i2], FpOk X pins H c) (st : ZipAt k1 k2 z TI TO i1 i2 a b 0 s.heap) (hSl : H S = some (.lst []))
    (hR : ∀ s', Done X pins σ H0 xs ys S s' → R (.ok (.ret .none)) s') :
    wpAny (model X.prog X.w) A.in1 (Builtin.«list.__init__» ⟨[.ref S, .ref z], []⟩)
      (fun fin s' => match fin with | .done f => R (.ok f) s' | .again c' => c'.quiet = true ∧ codeAny (model X.prog X.w) A c' R s') (fun e s' => R (.error e) s') s := by
  obtain ⟨_, its0, n0, r0, _, e1⟩ := I.lstM hSl
  cases r0
  show wpAny _ A.in1 (do let old ← Builtin.List.listItems (.ref S); Builtin.List.listUpdate (.ref S) (fun _ => #[]); letGo old.toList.reverse; Builtin.List.listExtendWith (.ref S) (.ref z) .none) _ _ s
  refine wpAny_bind ?_
  unfold Builtin.List.listItems
  refine wpAny_bind (wpAny_seqItems e1 rfl (wpAny_pure ?_))
  show wpAny _ A.in1 (updateSeq S (fun _ => #[]) >>= fun _ => letGo (#[] : Array Value).toList.reverse >>= fun _ => Builtin.List.listExtendWith (.ref S) (.ref z) .none) _ _ s
  have I2 : Inv X pins σ (upd H S (.lst [])) { s with heap := s.heap.update S (Obj.mapSeq fun _ => #[]) } := I.lset (its' := []) (t' := s.toks) hSl e1 (by simp) .nil (Nat.zero_le _)
  have eH : upd H S (.lst []) = H := by
    funext c
    by_cases hc : c = S
    · rw [hc, upd_same, hSl]
    · rw [upd_ne hc]
  rw [eH] at I2
  refine wpAny_bind (wpAny_updateSeq e1 rfl (wpAny_bind (wpAny_letGo ?_)) (by decide) (by decide))
  exact extend_zip D hn0 hS hz hS0 hqx hqy I2 e0 hf (st.keep fun c hc o e => (Heap.get?_update_other _ _ (fun q : S = c => hS (by rw [q]; exact hc))).trans e) hSl hR
theorem call_lstZip {A : Around} {E Q : Value → Shared → Prop} (D : ZipApart z TI TO i1 i2 a b) (hn0 : A.handled = none) (hz : min xs.length ys.length ≤ 100000) (hqx : ∀ H', Same H H' → SqK X.K k1 H' a xs) (hqy : ∀ H', Same H H' → SqK X.K k2 H' b ys)
    (I : Inv X pins σ H s) (hf : ∀ c ∈ [z, TI, TO, i1, i2], FpOk X pins H c) (st : ZipAt k1 k2 z TI TO i1 i2 a b 0 s.heap)
    (h : ∀ S s', H S = none → Done X pins σ H xs ys S s' → Q (.ref S) s') : wpAny (model X.prog X.w) A (call (.type "list") [.ref z]) Q E s := by
  have hS : s.heap.objs.size ∉ [z, TI, TO, i1, i2] := fun hm => Nat.lt_irrefl _ (st.lt _ hm)
  have hS0 : H s.heap.objs.size = none := I.fresh
  have I1 := I.lnew (t' := s.toks) (its := []) (ys := []) .nil (Nat.zero_le _)
  refine callType_codes (Q₁ := fun obj s₁ => obj = .ref s.heap.objs.size ∧ s₁ = { s with heap := s.heap.push { cls := .type "list", data := .seq #[] } }) F.called_list (F.typeCall_list_1 _) F.entry_list_init (code_list_new _ ⟨rfl, rfl⟩) fun obj s₁ h₁ => ?_
  obtain ⟨rfl, rfl⟩ := h₁
  have hg : (s.heap.push { cls := .type "list", data := .seq #[] }).get? s.heap.objs.size = some { cls := .type "list", data := .seq #[] } := Heap.get?_push_size _ rfl
  refine ⟨⟨_, hg, rfl⟩, F.args_list_init_2 _ _, init_zip D (by exact hn0) hS hz hS0 hqx hqy I1 (fun c o q => by rw [upd_ne (ne_of_none q hS0)]; exact q) (fp_new hf hS) (st.keep fun c hc o e => Heap.get?_push_of_some _ e) upd_same fun s' hd => ?_⟩
  exact ⟨rfl, h _ s' hS0 hd⟩
end
end ZN
/-! DD3: tuple(zip(x, y)), list(zip(x, y)) over data. -/
namespace ZN
open PySem PySem.Spec PyProof.Rows L2 TN
def tTupZip (K : PySem.W.Frag) (ta : TA) : TE := fun σ H Q => ta σ H fun vs H1 => ∃ k1 k2 a b xs ys, vs = [.ref a, .ref b] ∧ (∀ H', Same H1 H' → SqK K k1 H' a xs) ∧ (∀ H', Same H1 H' → SqK K k2 H' b ys) ∧ min xs.length ys.length ≤ 100000 ∧
  ∀ H' ps its p, Same H1 H' → Prs H' xs ys ps → ps.length = min xs.length ys.length → H' p = none → Q (.ref p) (upd H' p (hT its (ps.map V.ref)))
def tLstZip (K : PySem.W.Frag) (ta : TA) : TE := fun σ H Q => ta σ H fun vs H1 => ∃ k1 k2 a b xs ys, vs = [.ref a, .ref b] ∧ (∀ H', Same H1 H' → SqK K k1 H' a xs) ∧ (∀ H', Same H1 H' → SqK K k2 H' b ys) ∧ min xs.length ys.length ≤ 100000 ∧
  ∀ H' ps S, Same H1 H' → Prs H' xs ys ps → ps.length = min xs.length ys.length → H1 S = none → H' S = some (.lst (ps.map V.ref)) → Q (.ref S) H'
section
variable {X : Cx} {e e2 : Expr} {ta : TA} {p p2 pos pos2 : Pos}
theorem two_refs {a b : Addr} {us : List Value} (r : Vals [V.ref a, V.ref b] us) : us = [.ref a, .ref b] := by
  cases r with
  | cons r rr =>
    cases rr with
    | cons r' rr => cases rr; cases r; cases r'; rfl
theorem pe_tupZip (hc : X.calm = true) (hg : Gl X "tuple") (hm : X.mg "tuple" = none) (hg2 : Gl X "zip") (hm2 : X.mg "zip" = none) (ha : PA X [e, e2] ta)
    (hs : starEach [e, e2] X.env = (false, eval e X.env) :: starEach [e2] X.env := by rfl) (hpl : (backTo pos2 (starEach [e2] X.env)).any (·.1) = false := by rfl)
    (hs2 : starEach [.Call (.Name "zip" p2) [e, e2] [] pos2] X.env = (false, eval (.Call (.Name "zip" p2) [e, e2] [] pos2) X.env) :: starEach [] X.env := by rfl) :
    PE X (.Call (.Name "tuple" p) [.Call (.Name "zip" p2) [e, e2] [] pos2] [] pos) (tTupZip X.K ta) := by
  refine ⟨fun pins s σ H Q I h => ?_⟩; refine Call_ (ld_blt I hg hm boot_tuple (PyProof.Rows.callWith_type1 (args_cons (Call_ (ld_blt I hg2 hm2 PyProof.Rows.boot_zip (PyProof.Rows.callWith_type1 (thn (ha.run pos2 pins s σ H _ I h) fun us s1 ⟨vs, H1, I1, r1, k1, k2, a, b, xs, ys, ev, q1, q2, hz, q⟩ => ?_) hs hpl))) hs2) hs2 rfl))
  subst ev
  cases two_refs r1
  refine zip_call I1 (q1 _ (L2.Same.refl _)) (q2 _ (L2.Same.refl _)) fun z TI TO i1 i2 h' D st I2 f => args_nil ?_
  exact call_tupZip D (I1.ok.hd hc) hz q1 q2 I2 f st fun s' H' ps its J e pr l r => ⟨.ref s'.heap.objs.size, _, newN J r (by rw [List.length_map, l, sizeLine_eq]; omega), rfl, q H' ps its _ e pr l J.fresh⟩
theorem pe_lstZip (hc : X.calm = true) (hg : Gl X "list") (hm : X.mg "list" = none) (hg2 : Gl X "zip") (hm2 : X.mg "zip" = none) (ha : PA X [e, e2] ta)
    (hs : starEach [e, e2] X.env = (false, eval e X.env) :: starEach [e2] X.env := by rfl) (hpl : (backTo pos2 (starEach [e2] X.env)).any (·.1) = false := by rfl)
    (hs2 : starEach [.Call (.Name "zip" p2) [e, e2] [] pos2] X.env = (false, eval (.Call (.Name "zip" p2) [e, e2] [] pos2) X.env) :: starEach [] X.env := by rfl) :
    PE X (.Call (.Name "list" p) [.Call (.Name "zip" p2) [e, e2] [] pos2] [] pos) (tLstZip X.K ta) := by
  refine ⟨fun pins s σ H Q I h => ?_⟩; refine Call_ (ld_blt I hg hm boot_list (PyProof.Rows.callWith_type1 (args_cons (Call_ (ld_blt I hg2 hm2 PyProof.Rows.boot_zip (PyProof.Rows.callWith_type1 (thn (ha.run pos2 pins s σ H _ I h) fun us s1 ⟨vs, H1, I1, r1, k1, k2, a, b, xs, ys, ev, q1, q2, hz, q⟩ => ?_) hs hpl))) hs2) hs2 rfl))
  subst ev
  cases two_refs r1
  refine zip_call I1 (q1 _ (L2.Same.refl _)) (q2 _ (L2.Same.refl _)) fun z TI TO i1 i2 h' D st I2 f => args_nil ?_
  exact call_lstZip D (I1.ok.hd hc) hz q1 q2 I2 f st fun S s' hS ⟨H', ps, J, e, pr, l, hl⟩ => ⟨.ref S, H', J, rfl, q H' ps S e pr l hS hl⟩
end
end ZN
namespace DL
open PySem PySem.Spec L2
variable [TabT]
section
variable {K : PySem.W.Frag} {wl : Wd} {F : Hp} {rs : List Addr} {S : DS} {σ : L2.St} {H H' G : Hp}
open Classical in
/-- the heap grows: the new plain tuples are known -/
theorem Md.grow (m : Md K wl F rs S σ H G) (e : Same H H') : ∃ G', Same G G' ∧ Md K wl F rs S σ H' G' ∧ ∀ p its xs, H' p = some (TN.hT its xs) → G' p = some (TN.hT its xs) := by
  let G' : Hp := fun a => match G a with
    | some u => some u
    | none => match H' a with
      | some (.frz o u) => some (.frz o u)
      | _ => none
  have eG : ∀ a u, G a = some u → G' a = some u := fun a u h => by show (match G a with | some u => some u | none => _) = _; rw [h]
  have nG : ∀ a, G a = none → (∀ o u, H' a ≠ some (.frz o u)) → G' a = none := fun a h1 h2 => by
    show (match G a with | some u => some u | none => match H' a with | some (.frz o u) => some (.frz o u) | _ => none) = none
    rw [h1]
    dsimp only
    split
    · rename_i o u q; exact absurd q (h2 o u)
    · rfl
  have sG : Same G G' := fun a u h => eG a u h
  refine ⟨G', sG, ⟨m.len, fun a u h => ?_, fun a u h => e a u (m.frm a u h), m.rl, m.nd, fun j a c h1 h2 => ?_, fun i x h1 => ?_, fun b ps z => ?_, m.nft, m.tab.ext e⟩, fun p its xs h => ?_⟩
  · cases hg : G a with
    | some u' =>
      have := eG a u' hg
      rw [this] at h
      cases h
      exact e a _ (m.sub a _ hg)
    | none =>
      have h' : (match G a with | some u => some u | none => match H' a with | some (.frz o u) => some (.frz o u) | _ => none) = some u := h
      rw [hg] at h'
      dsimp only at h'
      split at h'
      · rename_i o u' q; rw [q]; exact h'
      · cases h'
  · have k := m.cel j a c h1 h2
    cases c with
    | ls b ds =>
      cases b with
      | true =>
        obtain ⟨f, g, vs, hv, hd⟩ := k
        exact ⟨f, nG a g (fun o u q => by rw [e a _ hv] at q; cases q), vs, e a _ hv, DdAll.same sG _ _ hd⟩
      | false =>
        obtain ⟨vs, hv, hd⟩ := k
        exact ⟨vs, sG _ _ hv, DdAll.same sG _ _ hd⟩
    | dk kvs =>
      obtain ⟨f, g, hv⟩ := k
      exact ⟨f, nG a g (fun o u q => by rw [e a _ hv] at q; cases q), e a _ hv⟩
    | si ns =>
      obtain ⟨f, g, hv, hn⟩ := k
      exact ⟨f, nG a g (fun o u q => by rw [e a _ hv] at q; cases q), e a _ hv, hn⟩
  · obtain ⟨v, h2, h3⟩ := m.slot i x h1
    exact ⟨v, h2, RdV.up ⟨⟨[], by simp⟩, sG⟩ h3⟩
  · cases hg : G b with
    | some u =>
      have := eG b u hg
      rw [this] at z
      cases z
      exact m.ntb b _ hg
    | none =>
      have h' : (match G b with | some u => some u | none => match H' b with | some (.frz o u) => some (.frz o u) | _ => none) = some (.tbl ps) := z
      rw [hg] at h'
      dsimp only at h'
      split at h' <;> cases h'
  · cases hg : G p with
    | some u =>
      have q := e p _ (m.sub p _ hg)
      rw [h] at q
      cases q
      exact eG p _ hg
    | none =>
      show (match G p with | some u => some u | none => match H' p with | some (.frz o u) => some (.frz o u) | _ => none) = _
      rw [hg]
      dsimp only
      rw [h]
theorem prs_dd {G : Hp} (hg : ∀ p its xs, H' p = some (TN.hT its xs) → G p = some (TN.hT its xs)) : ∀ {ps : List Addr} {ds es : List PyData} {xs ys : List V}, DdAll K G xs ds → DdAll K G ys es → ZN.Prs H' xs ys ps → ps.length = min xs.length ys.length → DdAll K G (ps.map V.ref) (zipD ds es)
  | ps, [], _, _, _, .nil, _, _, l => by
    have : ps = [] := List.eq_nil_of_length_eq_zero (by simpa using l)
    subst this; exact .nil
  | ps, _ :: _, [], _, _, .cons _ _, .nil, _, l => by
    have : ps = [] := List.eq_nil_of_length_eq_zero (by simpa using l)
    subst this; exact .nil
  | [], _ :: _, _ :: _, _, _, .cons _ _, .cons _ _, _, l => by simp at l
  | p :: ps, _ :: _, _ :: _, _, _, .cons r1 t1, .cons r2 t2, h, l => by
    obtain ⟨x, y, e1, e2, its, e3⟩ := h 0 p rfl
    simp at e1 e2
    subst e1 e2
    refine .cons (.tup ⟨its, hg _ _ _ e3⟩ (.cons r1 (.cons r2 .nil))) (prs_dd hg t1 t2 (fun j q hq => ?_) (by simpa [Nat.add_min_add_right] using l))
    obtain ⟨x, y, q1, q2, q3⟩ := h (j + 1) q (by simpa using hq)
    exact ⟨x, y, by simpa using q1, by simpa using q2, q3⟩
end
def eZipV (lst : Bool) (ta tb : M VD) : M VD := do
  let xs ← aCons ta (aCons tb (pure []))
  let ds ← toDs xs
  match ds with
  | [d, e] => do
    let L ← ofO (pairSeq d e)
    chk (decide (L.length ≤ 100000))
    if lst then newL L else pure (.dat (.tuple L))
  | _ => M.bad
section
variable {X : Cx} {E : XK} {a b : Expr} {p p2 pos pos2 : Pos}
theorem zipV_at {lst : Bool} {ta tb : M VD} {σ : L2.St} {H : Hp} {Q : VK} (q : liftE X.K X.wd X.mg E (eZipV lst ta tb) σ H Q) :
    liftA X.K X.wd X.mg E (aCons ta (aCons tb (pure []))) σ H fun vs H1 => ∃ k1 k2 a b xs ys, vs = [.ref a, .ref b] ∧ (∀ H', Same H1 H' → ZN.SqK X.K k1 H' a xs) ∧ (∀ H', Same H1 H' → ZN.SqK X.K k2 H' b ys) ∧ min xs.length ys.length ≤ 100000 ∧
      ∃ (F : Hp) (rs : List Addr) (S : DS) (G : Hp) (ds es : List PyData), Md X.K X.wd F rs S σ H1 G ∧ DdAll X.K G xs ds ∧ DdAll X.K G ys es ∧ Post X.K X.wd X.mg E F σ (RdV X.K X.wd) rs G ((if lst then newL (zipD ds es) else pure (.dat (.tuple (zipD ds es)))) S) Q := by
  obtain ⟨F, rs, S, G, m, p⟩ := q
  refine ⟨F, rs, S, G, m, (Post.seq p).mono fun vs H1 ⟨rs1, S1, G1, xs, u1, m1, r1, p1⟩ => ?_⟩
  obtain ⟨ds, S2, G2, s2, m2, d2, p2⟩ := m1.toDs r1 p1
  match ds, d2, p2 with
  | [d, e], d2, p2 =>
    cases d2 with
    | cons rd rest =>
      cases rest with
      | cons re rest =>
        cases rest
        obtain ⟨L, hL, p3⟩ := Post.ofO p2
        obtain ⟨hz, p4⟩ := Post.chk p3
        unfold pairSeq at hL
        split at hL
        · rename_i xs' ys' e1 e2
          cases hL
          obtain ⟨k1, a1, vs1, rfl, h1, q1⟩ := seq_at rd e1
          obtain ⟨k2, b1, ws1, rfl, h2, q2⟩ := seq_at re e2
          have l1 := DdAll.length q1
          have l2 := DdAll.length q2
          have hz' := of_decide_eq_true hz
          rw [zipD_len] at hz'
          exact ⟨k1, k2, a1, b1, vs1, ws1, rfl, fun H' s => h1 _ (L2.Same.trans m2.sub s), fun H' s => h2 _ (L2.Same.trans m2.sub s), by omega, F, rs1, S2, G2, xs', ys', m2, q1, q2, p4⟩
        · cases hL
  | [], _, p2 => exact p2.elim
  | [_], _, p2 => exact p2.elim
  | _ :: _ :: _ :: _, _, p2 => exact p2.elim
theorem d_tupZip {ta tb : M VD} (hc : X.calm = true) (ha : PD X E a ta) (hb : PD X E b tb) (hm : X.mg "tuple" = none) (hm2 : X.mg "zip" = none) (hg : Gl X "tuple" := by rfl) (hg2 : Gl X "zip" := by rfl)
    (hs : starEach [a, b] X.env = (false, eval a X.env) :: starEach [b] X.env := by rfl) (hs1 : starEach [b] X.env = (false, eval b X.env) :: starEach [] X.env := by rfl) (hpl : (backTo pos2 (starEach [b] X.env)).any (·.1) = false := by rfl)
    (hs2 : starEach [.Call (.Name "zip" p2) [a, b] [] pos2] X.env = (false, eval (.Call (.Name "zip" p2) [a, b] [] pos2) X.env) :: starEach [] X.env := by rfl) :
    PD X E (.Call (.Name "tuple" p) [.Call (.Name "zip" p2) [a, b] [] pos2] [] pos) (eZipV false ta tb) :=
  PE.weak (ZN.pe_tupZip hc hg hm hg2 hm2 (d_cons ha (d_cons hb d_nil hs1) hs) hs hpl hs2) fun σ H Q q => by
  obtain ⟨F, rs, S, G, m, pp⟩ := zipV_at q
  refine ⟨F, rs, S, G, m, pp.mono fun vs H1 ⟨k1, k2, a, b, xs, ys, ev, q1, q2, hz, F, rs, S, G, ds, es, m, d1, d2, pp⟩ => ⟨k1, k2, a, b, xs, ys, ev, q1, q2, hz, fun H' ps its p e pr l hp => ?_⟩⟩
  obtain ⟨G', sG, m', hg⟩ := m.grow e
  exact newTup m' (prs_dd hg (DdAll.same sG _ _ d1) (DdAll.same sG _ _ d2) pr l) (Post.up ⟨⟨[], by simp⟩, sG⟩ pp) hp
theorem d_lstZip {ta tb : M VD} (hc : X.calm = true) (ha : PD X E a ta) (hb : PD X E b tb) (hm : X.mg "list" = none) (hm2 : X.mg "zip" = none) (hg : Gl X "list" := by rfl) (hg2 : Gl X "zip" := by rfl)
    (hs : starEach [a, b] X.env = (false, eval a X.env) :: starEach [b] X.env := by rfl) (hs1 : starEach [b] X.env = (false, eval b X.env) :: starEach [] X.env := by rfl) (hpl : (backTo pos2 (starEach [b] X.env)).any (·.1) = false := by rfl)
    (hs2 : starEach [.Call (.Name "zip" p2) [a, b] [] pos2] X.env = (false, eval (.Call (.Name "zip" p2) [a, b] [] pos2) X.env) :: starEach [] X.env := by rfl) :
    PD X E (.Call (.Name "list" p) [.Call (.Name "zip" p2) [a, b] [] pos2] [] pos) (eZipV true ta tb) :=
  PE.weak (ZN.pe_lstZip hc hg hm hg2 hm2 (d_cons ha (d_cons hb d_nil hs1) hs) hs hpl hs2) fun σ H Q q => by
  obtain ⟨F, rs, S, G, m, pp⟩ := zipV_at q
  refine ⟨F, rs, S, G, m, pp.mono fun vs H1 ⟨k1, k2, a, b, xs, ys, ev, q1, q2, hz, F, rs, S, G, ds, es, m, d1, d2, pp⟩ => ⟨k1, k2, a, b, xs, ys, ev, q1, q2, hz, fun H' ps A e pr l hA hL => ?_⟩⟩
  let Hs : Hp := fun c => if c = A then none else H' c
  have e1 : Same H1 Hs := fun c o q => by
    have : c ≠ A := ne_of_none q hA
    show (if c = A then none else H' c) = _
    rw [if_neg this]; exact e c o q
  have e2 : upd Hs A (.lst (ps.map V.ref)) = H' := by
    funext c
    by_cases h : c = A
    · rw [h, upd_same, hL]
    · rw [upd_ne h]; show (if c = A then none else H' c) = _; rw [if_neg h]
  obtain ⟨G', sG, m', hg⟩ := m.grow e1
  have pr' : ZN.Prs Hs xs ys ps := fun j p hp => by
    obtain ⟨x, y, h1, h2, its, h3⟩ := pr j p hp
    have : p ≠ A := fun e => by rw [e, hL] at h3; cases h3
    exact ⟨x, y, h1, h2, its, by show (if p = A then none else H' p) = _; rw [if_neg this]; exact h3⟩
  have z := newLst m' (prs_dd hg (DdAll.same sG _ _ d1) (DdAll.same sG _ _ d2) pr' l) (Post.up ⟨⟨[], by simp⟩, sG⟩ pp) (p := A) (by show (if A = A then none else H' A) = none; rw [if_pos rfl])
  rw [e2] at z
  exact z
end
end DL
/-! DD4: x, y, z = a, b, c. -/
namespace DL
open PySem PySem.Spec L2
variable [TabT]
section
variable {X : Cx} {E : XK} {pos : Pos}
def sPar3 (i j l : Nat) (t : M (List VD)) : MS := do
  let vs ← t
  match vs with
  | [x, y, z] => do setSl i x; setSl j y; setSl l z; pure .nx
  | _ => M.bad
theorem s_par3 {i j l : Nat} {x y z : Str} {a b c : Expr} {ta : M (List VD)} {px py pz pt : Pos} {kt k2 : Nat} {pt2 : Pos} (hc : X.calm = true) (hN : X.N.Nodup) (ha : PDA X E [a, b, c] ta) (hi : X.N[i]? = some x := by rfl) (hj : X.N[j]? = some y := by rfl) (hl : X.N[l]? = some z := by rfl) (hij : i ≠ j := by decide) (hil : i ≠ l := by decide) (hjl : j ≠ l := by decide)
    (hx : X.env.scope.names.lookup x = some .local := by rfl) (hy : X.env.scope.names.lookup y = some .local := by rfl) (hz : X.env.scope.names.lookup z = some .local := by rfl)
    (hw : swappedStores [.Tuple [.Name x px, .Name y py, .Name z pz] kt pt] (.Tuple [a, b, c] k2 pt2) X.env = pure (some [x, y, z]) := by rfl) (hs : swapsWithSole [.Tuple [.Name x px, .Name y py, .Name z pz] kt pt] (.Tuple [a, b, c] k2 pt2) pos.line X.env = pure false := by rfl) :
    PDS X E (.Assign [.Tuple [.Name x px, .Name y py, .Name z pz] kt pt] (.Tuple [a, b, c] k2 pt2) pos) (sPar3 i j l ta) := PS.weak (L2.ps_par3 hc hN hi hj hl hij hil hjl hx hy hz ha hw hs) fun D σ H q => by
  obtain ⟨F, rs, S, G, m, p⟩ := q
  refine ⟨F, rs, S, G, m, (PostS.expr p).mono fun vs H1 ⟨rs1, S1, G1, xs, u1, m1, r1, p1⟩ => ?_⟩
  match xs, vs, r1, p1 with
  | [x, y, z], [v, w, u], r1, p1 =>
    exact ⟨v, w, u, rfl, p1 _ H1 G1 rs1 Up.refl (((m1.store r1.1).store r1.2.1).store r1.2.2.1)⟩
  | [], _, _, p1 => exact p1.elim
  | [_], _, _, p1 => exact p1.elim
  | [_, _], _, _, p1 => exact p1.elim
  | _ :: _ :: _ :: _ :: _, _, _, p1 => exact p1.elim
end
end DL
/-! DC1: {k: v for .. in ..}, keys and values whole numbers; the turns see the def's data, not its cells. -/
namespace DL
open PySem PySem.Spec L2
variable [TabT]
def noRf (sl : List (Option VD)) : List (Option VD) := sl.map fun o => match o with
  | some (.dat d) => some (.dat d)
  | _ => none
def stepK (g : VD → M Unit) (tt : M Bool) (tk tv : M VD) (d : PyData) : M (Option (Int × Int)) := do
  g (.dat d)
  let b ← tt
  if b then do
    let k ← tk
    let kk ← intV k
    let v ← tv
    let vv ← intV v
    pure (some (kk, vv))
  else pure none
def dkGo (step : PyData → M (Option (Int × Int))) (sl0 : List (Option VD)) : List PyData → List (Int × Int) → Option (List (Int × Int))
  | [], acc => some acc
  | d :: ds, acc => match step d ⟨sl0, [.dk acc]⟩ with
    | .ok (o, S') => match S'.ce[0]? with
      | some (Cl.dk acc') => match o with
        | some p => if acc'.length < 16777216 then dkGo step sl0 ds (dkPut acc' p.1 p.2) else none
        | none => dkGo step sl0 ds acc'
      | _ => none
    | _ => none
def eDc (vs : List Nat) (src : M (List PyData)) (step : PyData → M (Option (Int × Int))) : M VD := do
  let ds ← src
  fun S => match dkGo step (wipeD (noRf S.sl) vs) ds [] with
    | some kvs => newK kvs S
    | none => .bad
theorem noRf_some {sl : List (Option VD)} {i : Nat} {x : VD} (h : (noRf sl)[i]? = some (some x)) : ∃ d, x = .dat d ∧ sl[i]? = some (some (.dat d)) := by
  unfold noRf at h
  rw [List.getElem?_map] at h
  cases e : sl[i]? with
  | none => (rw [e] at h; cases h)
  | some o =>
    rw [e] at h
    cases o with
    | none => cases h
    | some y =>
      cases y with
      | dat d => cases h; exact ⟨d, rfl, rfl⟩
      | _ => cases h
section
variable {K : PySem.W.Frag} {wl : Wd} {mg : Str → Option Value} {F : Hp} {rs : List Addr} {S : DS} {σ : L2.St} {H H' G : Hp}
open Classical in
/-- the frame of the turns: the def's own frame, and its cells as they are -/
noncomputable def ringF (F H : Hp) (rs : List Addr) : Hp := fun b => if b ∈ rs then H b else F b
theorem Md.at (m : Md K wl F rs S σ H G) {a : Addr} (h : a ∈ rs) : ∃ u, H a = some u ∧ ∀ ps, u ≠ .tbl ps := by
  obtain ⟨j, hj, e⟩ := List.mem_iff_getElem.mp h
  have hr : rs[j]? = some a := by rw [List.getElem?_eq_getElem hj, e]
  have hc : j < S.ce.length := by rw [← m.rl]; exact hj
  have k := m.cel j a S.ce[j] hr (List.getElem?_eq_getElem hc)
  cases hcc : S.ce[j] with
  | ls b ds =>
    rw [hcc] at k
    cases b with
    | true =>
      obtain ⟨_, _, vs, hv, _⟩ := k
      exact ⟨_, hv, fun q z => by cases z⟩
    | false =>
      obtain ⟨vs, hv, _⟩ := k
      exact ⟨_, m.sub _ _ hv, fun q z => by cases z⟩
  | dk kvs => rw [hcc] at k; exact ⟨_, k.2.2, fun q z => by cases z⟩
  | si ns => rw [hcc] at k; exact ⟨_, k.2.2.1, fun q z => by unfold SetO at z; cases z⟩
theorem ring_frm (m : Md K wl F rs S σ H G) : Same (ringF F H rs) H := fun b o h => by
  unfold ringF at h
  split at h
  · exact h
  · exact m.frm b o h
theorem ring_nft (m : Md K wl F rs S σ H G) : ∀ b ps, ringF F H rs b ≠ some (.tbl ps) := fun b ps h => by
  unfold ringF at h
  split at h
  · rename_i hb
    obtain ⟨u, e, n⟩ := m.at hb
    rw [h] at e; cases e; exact n ps rfl
  · exact m.nft b ps h
theorem ring_at (m : Md K wl F rs S σ H G) (f : Same (ringF F H rs) H') {a : Addr} (h : a ∈ rs) : H' a = H a := by
  obtain ⟨u, e, _⟩ := m.at h
  rw [f a u (by unfold ringF; rw [if_pos h]; exact e), e]
theorem ring_back (m : Md K wl F rs S σ H G) (f : Same (ringF F H rs) H') : Same F H' := fun b o h => by
  by_cases hb : b ∈ rs
  · rw [ring_at m f hb]; exact m.frm b o h
  · exact f b o (by unfold ringF; rw [if_neg hb]; exact h)
/-- the same cells, in a heap in which they are as they were -/
theorem Md.again (m : Md K wl F rs S σ H G) (hs : Same G H') (hf : Same F H') (ht : LamX.Tabs TabT.T H') (hc : ∀ a ∈ rs, H' a = H a) : Md K wl F rs S σ H' G where
  len := m.len
  sub := hs
  frm := hf
  rl := m.rl
  nd := m.nd
  cel := fun j a c h1 h2 => by
    have k := m.cel j a c h1 h2
    have e := hc a (List.mem_of_getElem? h1)
    cases c with
    | ls b ds =>
      cases b with
      | true => obtain ⟨f, g, vs, hv, hd⟩ := k; exact ⟨f, g, vs, e.trans hv, hd⟩
      | false => exact k
    | dk kvs => obtain ⟨f, g, hv⟩ := k; exact ⟨f, g, e.trans hv⟩
    | si ns => obtain ⟨f, g, hv, hn⟩ := k; exact ⟨f, g, e.trans hv, hn⟩
  slot := m.slot
  ntb := m.ntb
  nft := m.nft
  tab := ht
theorem Md.alone (m : Md K wl F rs S σ H G) : Md K wl (ringF F H rs) [] ⟨noRf S.sl, []⟩ σ H G :=
  ⟨by simp [noRf, m.len], m.sub, ring_frm m, rfl, List.nodup_nil, (fun j a c z => nomatch z), fun i x h => by
    obtain ⟨d, rfl, e⟩ := noRf_some h
    obtain ⟨v, h1, h2⟩ := m.slot i _ e
    exact ⟨v, h1, h2⟩, m.ntb, ring_nft m, m.tab⟩
theorem same_upd_of {D : Addr} {o : HO} (e : Same H H') (h : H' D = some o) : Same (upd H D o) H' := fun a u q => by
  by_cases ha : a = D
  · subst ha; rw [upd_same] at q; cases q; exact h
  · rw [upd_ne ha] at q; exact e a u q
end
section
variable {X : Cx} {E : XK} {tg iter : Expr} {ifs : List Expr} {scope : Scope} {own : List (Str × Nat)} {pos : Pos} {src : M (List PyData)} {g : VD → M Unit} {tt : M Bool} {tk tv : M VD} {is : List Nat}
/-- what is wanted of a turn -/
def TurnK (X : Cx) (gr : TG) (tt : M Bool) (tk tv : M VD) (vs : List Nat) (σ : L2.St) (D : Addr) (x : V) (H : Hp) (Nx : Hp → Prop) : Prop :=
  gr x (L2.wipe σ vs) H fun σ2 H2 => L2.wipe σ2 vs = L2.wipe σ vs ∧ liftT X.K X.wd X.mg E0 tt σ2 H2 fun b H3 =>
    if b = true then liftE X.K X.wd X.mg E0 tk σ2 H3 fun y H4 => liftE X.K X.wd X.mg E0 tv σ2 H4 fun z H5 => ∃ kvs k, y = kV k ∧ H5 D = some (.dK kvs) ∧ kvs.length < sizeLine ∧ Nx (upd H5 D (.dK (putK kvs k z))) else Nx H3
theorem turnK_ok {gr : TG} (hgr : ∀ (σ : L2.St) (H : Hp) (v : V) (Q : L2.St → Hp → Prop), (∃ (F : Hp) (rs : List Addr) (S : DS) (G : Hp) (x : VD), Md X.K X.wd F rs S σ H G ∧ RdV X.K X.wd rs G x v ∧ PostU X.K X.wd F rs G is σ (g x S) Q) → gr v σ H Q)
    {vs : List Nat} (his : ∀ i ∈ is, i ∈ vs) {σ : L2.St} {F H G : Hp} {D : Addr} {sl : List (Option VD)} {acc kvs : List (Int × Int)} {d : PyData} {ds : List PyData} {x : V} {Nx : Hp → Prop}
    (m : Md X.K X.wd F [D] ⟨sl, [.dk acc]⟩ σ H G) (rd : Dd X.K G x d) (hd : ∀ (i : Nat) (y : VD), sl[i]? = some (some y) → ∃ e, y = VD.dat e) (go : dkGo (stepK g tt tk tv) (wipeD sl vs) (d :: ds) acc = some kvs)
    (nx : ∀ H' G' acc', Same G G' → Md X.K X.wd F [D] ⟨sl, [.dk acc']⟩ σ H' G' → dkGo (stepK g tt tk tv) (wipeD sl vs) ds acc' = some kvs → Nx H') : TurnK X gr tt tk tv vs σ D x H Nx := by
  unfold dkGo at go
  cases es : stepK g tt tk tv d ⟨wipeD sl vs, [.dk acc]⟩ with
  | exc _ _ => rw [es] at go; cases go
  | bad => rw [es] at go; cases go
  | ok w =>
    obtain ⟨o, S'⟩ := w
    rw [es] at go
    dsimp only at go
    have go' : ∃ acc', S'.ce[0]? = some (.dk acc') ∧ (match o with | some p => if acc'.length < 16777216 then dkGo (stepK g tt tk tv) (wipeD sl vs) ds (dkPut acc' p.1 p.2) else none | none => dkGo (stepK g tt tk tv) (wipeD sl vs) ds acc') = some kvs := by
      cases ea : S'.ce[0]? with
      | none => rw [ea] at go; cases go
      | some c =>
        cases c with
        | dk a => rw [ea] at go; exact ⟨a, rfl, go⟩
        | si _ => rw [ea] at go; cases go
        | ls _ _ => rw [ea] at go; cases go
    obtain ⟨acc', ea, go2⟩ := go'
    unfold stepK at es
    rw [M.bind_run] at es
    refine hgr _ _ _ _ ⟨F, _, _, G, .dat d, m.wipe vs, rd, ?_⟩
    cases eg : g (.dat d) ⟨wipeD sl vs, [.dk acc]⟩ with
    | exc _ _ => rw [eg] at es; cases es
    | bad => rw [eg] at es; cases es
    | ok q =>
      rw [eg] at es
      simp only [R.bind] at es
      intro σ2 H2 G4 rs4 u4 m5 off
      refine ⟨wipe_off off his, ?_⟩
      rw [M.bind_run] at es
      cases et : tt q.2 with
      | exc _ _ => rw [et] at es; cases es
      | bad => rw [et] at es; cases es
      | ok q2 =>
        rw [et] at es
        simp only [R.bind] at es
        refine ⟨F, rs4, q.2, G4, m5, Post.okE (E' := E0) (Q' := fun _ _ => True) et fun b H3 G5 rs5 u5 m6 eb => ?_⟩
        have hb : q2.1 = b := eb
        subst hb
        have upA : Up [D] G rs5 G5 := u4.trans u5
        have back : ∀ (H9 G9 : Hp) (rs9 : List Addr) (S9 : DS) (σ9 : L2.St), Up [D] G rs9 G9 → Md X.K X.wd F rs9 S9 σ9 H9 G9 → S9.ce[0]? = some (.dk acc') → Md X.K X.wd F [D] ⟨sl, [.dk acc']⟩ σ H9 G9 := by
          intro H9 G9 rs9 S9 σ9 u9 m9 e9
          obtain ⟨⟨more, e9'⟩, sg9⟩ := u9
          rw [e9'] at m9
          have mp := m9.pre (n := 1) rfl
          have tk1 : S9.ce.take 1 = [.dk acc'] := by
            have := take_get (n := 0) e9
            simpa using this
          rw [tk1] at mp
          refine mp.slots m.len fun k y hk => ?_
          obtain ⟨v, h1, h2⟩ := m.slot k y hk
          obtain ⟨e, rfl⟩ := hd k y hk
          exact ⟨v, h1, Dd.same sg9 e v h2⟩
        cases hq2 : q2.1 with
        | false =>
          rw [hq2] at es
          simp only [Bool.false_eq_true, if_false] at es ⊢
          have es' : (none, q2.2) = (o, S') := R.ok.inj es
          cases es'
          exact nx _ G5 acc' upA.2 (back H3 G5 rs5 q2.2 _ upA m6 ea) go2
        | true =>
          rw [hq2] at es
          simp only [if_true] at es ⊢
          rw [M.bind_run] at es
          cases ek : tk q2.2 with
          | exc _ _ => rw [ek] at es; cases es
          | bad => rw [ek] at es; cases es
          | ok q3 =>
            rw [ek] at es
            simp only [R.bind] at es
            refine ⟨F, rs5, q2.2, G5, m6, Post.okE (E' := E0) (Q' := fun _ _ => True) ek fun yv H4 G6 rs6 u6 m7 ry => ?_⟩
            rw [M.bind_run] at es
            obtain ⟨k1, S3⟩ := q3
            dsimp only at es ry m7
            have ik : ∃ kk, k1 = .dat (.int kk) := by
              cases k1 with
              | dat dd => cases dd with
                | int i => exact ⟨i, rfl⟩
                | _ => cases es
              | _ => cases es
            obtain ⟨kk, rfl⟩ := ik
            have es2 : (R.bind (tv S3) fun v => R.bind (intV v.1 v.2) fun vv => (.ok (some (kk, vv.1), vv.2) : R (Option (Int × Int) × DS))) = .ok (o, S') := es
            cases ev : tv S3 with
            | exc _ _ => rw [ev] at es2; cases es2
            | bad => rw [ev] at es2; cases es2
            | ok q4 =>
              rw [ev] at es2
              obtain ⟨v1, S4⟩ := q4
              refine ⟨F, rs6, S3, G6, m7, Post.okE (E' := E0) (Q' := fun _ _ => True) ev fun zv H5 G7 rs7 u7 m8 rz => ?_⟩
              have iv : ∃ vv, v1 = .dat (.int vv) := by
                cases v1 with
                | dat dd => cases dd with
                  | int i => exact ⟨i, rfl⟩
                  | _ => cases es2
                | _ => cases es2
              obtain ⟨vv, rfl⟩ := iv
              have es3 : (some (kk, vv), S4) = (o, S') := R.ok.inj es2
              cases es3
              cases (show Dd X.K G6 yv (.int kk) from ry)
              cases (show Dd X.K G7 zv (.int vv) from rz)
              dsimp only at go2 m8
              have upB : Up [D] G rs7 G7 := upA.trans (u6.trans u7)
              have mb := back H5 G7 rs7 _ _ upB m8 ea
              have hz : acc'.length < 16777216 := by
                by_cases hz : acc'.length < 16777216
                · exact hz
                · rw [if_neg hz] at go2; cases go2
              rw [if_pos hz] at go2
              have hD : H5 D = some (.dK (kvV acc')) := (mb.cel 0 D _ rfl rfl).2.2
              refine ⟨kvV acc', (.inl kk : Key), rfl, hD, by unfold kvV; rw [List.length_map, sizeLine_eq]; exact hz, ?_⟩
              rw [kvV_put]
              exact nx _ G7 _ upB.2 (mb.writeD (j := 0) (kvs' := dkPut acc' kk vv) rfl rfl) go2
theorem dc_lift {gr : TG} (hgr : ∀ (σ : L2.St) (H : Hp) (v : V) (Q : L2.St → Hp → Prop), (∃ (F : Hp) (rs : List Addr) (S : DS) (G : Hp) (x : VD), Md X.K X.wd F rs S σ H G ∧ RdV X.K X.wd rs G x v ∧ PostU X.K X.wd F rs G is σ (g x S) Q) → gr v σ H Q)
    (his : ∀ i ∈ is, i ∈ own.map (·.2)) {σ : L2.St} {H : Hp} {Q : VK} (q : liftE X.K X.wd X.mg E (eDc (own.map (·.2)) src (stepK g tt tk tv)) σ H Q) :
    tDc (lift X.K X.wd X.mg E (fun _ G ds J => SrcOk X.K J G ds) src) gr (liftT X.K X.wd X.mg E0 tt) (liftE X.K X.wd X.mg E0 tk) (liftE X.K X.wd X.mg E0 tv) (own.map (·.2)) σ H Q := by
  obtain ⟨F, rs, S, G, m, p⟩ := q
  refine ⟨F, rs, S, G, m, (Post.seq p).mono fun J H1 ⟨rs1, S1, G1, ds, u1, m1, r1, p1⟩ => fun D hD => ?_⟩
  replace p1 : Post X.K X.wd X.mg E F σ (RdV X.K X.wd) rs1 G1 (match dkGo (stepK g tt tk tv) (wipeD (noRf S1.sl) (own.map (·.2))) ds [] with | some kvs => newK kvs S1 | none => .bad) Q := p1
  cases hgo : dkGo (stepK g tt tk tv) (wipeD (noRf S1.sl) (own.map (·.2))) ds [] with
  | none => rw [hgo] at p1; exact p1.elim
  | some kvs =>
    rw [hgo] at p1
    have m2 : Md X.K X.wd (ringF F H1 rs1) [D] ⟨noRf S1.sl, [.dk []]⟩ σ (upd H1 D (.dK [])) G1 := m1.alone.cellD (kvs := []) hD
    refine ⟨fun i n H' => n = ds.length - i ∧ i ≤ ds.length ∧ ∃ acc G2, Same G1 G2 ∧ Md X.K X.wd (ringF F H1 rs1) [D] ⟨noRf S1.sl, [.dk acc]⟩ σ H' G2 ∧ dkGo (stepK g tt tk tv) (wipeD (noRf S1.sl) (own.map (·.2))) (ds.drop i) acc = some kvs,
      ⟨ds.length, by simp, by simp, [], G1, L2.Same.refl _, m2, by simpa using hgo⟩, ?_⟩
    rintro i n H' ⟨rfl, hi, acc, G2, s2, m3, go⟩
    by_cases hlt : i < ds.length
    · refine .inr ⟨r1.go i H' G2 hlt s2 m3.sub, fun H'' => ∃ acc G3, Same G1 G3 ∧ Md X.K X.wd (ringF F H1 rs1) [D] ⟨noRf S1.sl, [.dk acc]⟩ σ H'' G3 ∧ dkGo (stepK g tt tk tv) (wipeD (noRf S1.sl) (own.map (·.2))) (ds.drop (i + 1)) acc = some kvs,
        fun H'' ⟨ac, G3, s3, m4, p3⟩ => ⟨ds.length - (i + 1), by omega, rfl, hlt, ac, G3, s3, m4, p3⟩, fun x H'' y => ?_⟩
      obtain ⟨d, hd, hy⟩ := r1.yld i H' G2 x H'' hlt s2 m3.sub y
      have hdrop : ds.drop i = d :: ds.drop (i + 1) := by
        rw [List.drop_eq_getElem_cons hlt]; congr 1
        have := List.getElem?_eq_getElem hlt
        rw [hd] at this; exact (Option.some.inj this).symm
      rw [hdrop] at go
      have sd : ∀ (i : Nat) (y : VD), (noRf S1.sl)[i]? = some (some y) → ∃ e, y = VD.dat e := fun i y h => by obtain ⟨e, r, _⟩ := noRf_some h; exact ⟨e, r⟩
      rcases hy with ⟨rfl, rd⟩ | ⟨T, oo, hT, rfl, nt, rd⟩
      · exact turnK_ok hgr his m3 rd sd go fun H9 G9 a9 s9 m9 g9 => ⟨a9, G9, L2.Same.trans s2 s9, m9, g9⟩
      · exact turnK_ok hgr his (m3.new hT nt) rd sd go fun H9 G9 a9 s9 m9 g9 => ⟨a9, G9, L2.Same.trans s2 (L2.Same.trans (same_upd (L2.Same.free m3.sub hT)) s9), m9, g9⟩
    · have e : i = ds.length := by omega
      subst e
      refine .inl ⟨r1.stop H' G2 s2 m3.sub, ?_⟩
      rw [List.drop_length] at go
      have ek : acc = kvs := Option.some.inj go
      subst ek
      have hH : H' D = some (.dK (kvV acc)) := (m3.cel 0 D _ rfl rfl).2.2
      have nD : D ∉ rs1 := fun z => by obtain ⟨u, e, _⟩ := m1.at z; rw [hD] at e; cases e
      have m9 := (m1.cellD (kvs := acc) hD).again (H' := H') (L2.Same.trans s2 m3.sub) (ring_back m1 m3.frm) m3.tab fun a ha => by
        rcases (List.mem_append.mp ha) with ha | ha
        · rw [upd_ne (show a ≠ D from fun z => nD (by rw [← z]; exact ha))]; exact ring_at m1 m3.frm ha
        · have e : a = D := by simpa using ha
          rw [e, upd_same]; exact hH
      exact p1 (.ref D) H' G1 (rs1 ++ [D]) ⟨⟨[D], rfl⟩, L2.Same.refl G1⟩ m9 ⟨D, by rw [← m1.rl]; simp, rfl⟩
theorem d_dc {kx vx : Expr} (hc : X.calm = true) (hN : X.N.Nodup) (ok : BlkOk X.N X.env.scope scope own) (his : ∀ i ∈ is, i ∈ own.map (·.2)) (hi : PDI X E tg iter src)
    (hg : ∀ (s : Shared) (H : Hp) (C : Addr) (cl : List (Str × Addr)) (fp : List Addr), PDG (X.blk s H scope (compEnvC scope cl C X.env) fp) is tg g)
    (ht : ∀ (s : Shared) (H : Hp) (C : Addr) (cl : List (Str × Addr)) (fp : List Addr), PTs (X.blk s H scope (compEnvC scope cl C X.env) fp) ifs (liftT X.K X.wd X.mg E0 tt))
    (hk : ∀ (s : Shared) (H : Hp) (C : Addr) (cl : List (Str × Addr)) (fp : List Addr), PD (X.blk s H scope (compEnvC scope cl C X.env) fp) E0 kx tk)
    (he : ∀ (s : Shared) (H : Hp) (C : Addr) (cl : List (Str × Addr)) (fp : List Addr), PD (X.blk s H scope (compEnvC scope cl C X.env) fp) E0 vx tv) (hs : ∀ x, foldedSetIterable iter X.env x = pure x := by intro _; rfl) :
    PD X E (.DictComp kx vx [⟨tg, iter, ifs, 0⟩] scope pos) (eDc (own.map (·.2)) src (stepK g tt tk tv)) :=
  PE.weak (pe_dc (g := liftG X.K X.wd is g) (tt := liftT X.K X.wd X.mg E0 tt) (tk := liftE X.K X.wd X.mg E0 tk) (tv := liftE X.K X.wd X.mg E0 tv) hc hN hi ok hg ht hk he hs) fun σ H Q q => dc_lift (fun _ _ _ _ h => h) his q
end
end DL
/-! DC2: {k: v for a, b in d.items()}, d a dict of whole numbers. -/
namespace DL
open L2 PyProof.Rows PySem PySem.Spec
variable [TabT]
/-- the entries of d, each in a new plain pair -/
def ItI (d : Addr) (o : Obj) (kvs : List (Key × V)) : It :=
  ⟨fun i H => H d = some (.frz o (.dK kvs)) ∧ i < kvs.length, fun i H x H' => ∃ T k v its, kvs[i]? = some (k, v) ∧ x = .ref T ∧ H T = none ∧ H' = upd H T (TN.hT its [kV k, v]), fun i H => H d = some (.frz o (.dK kvs)) ∧ kvs.length ≤ i⟩
section
variable {P : Program} {w : World} {K : PySem.W.Frag} {o : Obj} {d : Addr} {es : Array DictEntry} {ep : Nat}
theorem turn_itemsN {kvs : List (Key × V)} {elts : List Expr} {kk : Nat} {tpos : Pos} (it : Addr) (hod : o.data = .dict es ep) :
    Turn P w K (.Tuple elts kk tpos) (ItI d o kvs) [it] it (fun i h => ∃ ok ov, IsItemIter h it d i kvs.length ep ok ov) where
  mem := by simp
  obj := fun i h st b hb => by
    (have e : b = it := by simpa using hb)
    subst e
    obtain ⟨ok, ov, e⟩ := st; exact ⟨_, e, fun v z => nomatch z⟩
  keep := fun i h h' st k => (let ⟨ok, ov, e⟩ := st; ⟨ok, ov, k it (by simp) _ e⟩)
  item := by
    intro X hP hw hK hc i pins s σ H E I hf st hg; subst hP hw hK
    obtain ⟨hd, hi⟩ := hg; obtain ⟨hs, hgd, hx, es', ep', vs, hdt, hsz, kv, hm⟩ := I.frzK hd
    obtain ⟨rfl, rfl⟩ := dict_ep hod hdt; obtain ⟨⟨k, v⟩, hkv⟩ : ∃ p, kvs[i]? = some p := ⟨kvs[i], List.getElem?_eq_getElem hi⟩
    obtain ⟨u, hu, ru⟩ := kv_get kv hkv; have hl : kvs.length = vs.length := Paired.length kv
    obtain ⟨ok, ov, he⟩ := st; rw [hl] at he; have hlt : it < s.heap.objs.size := Heap.lt_size he; refine wpAny_pyNext_items_item he hm hu fun key h' hkey ho hT hz hk => ?_; refine ⟨_, rfl, wpAny_letOwnedTupleGo_items (s := { s with heap := h' }) ho fun h'' he' sb => ?_⟩; have hT2 : h''.get? s.heap.objs.size = some { cls := .type "tuple", data := .seq #[key, u] } := (sb.2 _ (Nat.ne_of_gt hlt)).trans hT
    have new : ObjOk X.prog X.w (upd H s.heap.objs.size (TN.hT [key, u] [kV k, v])) h'' s.heap.objs.size (TN.hT [key, u] [kV k, v]) :=
      ⟨hT2, by show 2 ≤ sizeLine; decide, [key, u], .cons (relV_key (show keyIs k key = true from hkey)) (.cons ru .nil), ⟨_, hT2, rfl, _, rfl⟩⟩
    have I1 : Inv X pins σ (upd H s.heap.objs.size (TN.hT [key, u] [kV k, v])) { s with heap := h'' } := I.turnedNew (t' := s.toks) (ch := [it]) (fun b ob hb e => (sb.2 b (by simpa using hb)).trans (hk b ob (by simpa using hb) e)) hf (Nat.le_refl _) new
    refine ⟨.ref s.heap.objs.size, _, I1, rfl, ⟨_, k, v, _, hkv, rfl, I.hok.fresh (Nat.le_refl _), rfl⟩, ⟨key, u, ?_⟩, fun b hb => ?_⟩
    · rw [hl]; exact he'
    · (have e : b = it := by simpa using hb)
      rw [e, upd_ne (Nat.ne_of_lt hlt)]; exact (hf it (by simp)).1
  done := by
    intro X hP hw hK hc i pins s σ H E I hf st hg; subst hP hw hK
    obtain ⟨hd, hi⟩ := hg; obtain ⟨f0, f1, f2, f3, f4, f5⟩ := hf it (by simp); obtain ⟨hs, hgd, hx, es', ep', vs, hdt, hsz, kv, hm⟩ := I.frzK hd
    obtain ⟨rfl, rfl⟩ := dict_ep hod hdt; have hl : kvs.length = vs.length := Paired.length kv
    obtain ⟨ok, ov, he⟩ := st; rw [hl] at he
    exact wpAny_pyNext_items_end (I.ok.hd hc) he hm (List.getElem?_eq_none (by omega)) fun h' eb => ⟨rfl, I.turned (t' := s.toks) (fun b o hb e => eb b o hb e) f0 f1 f3 f4 f5⟩
  self := fun A i s Q E st h => (let ⟨_, _, e⟩ := st; PySem.W.kcp_self e h)
end
def iItemsN (td : TE) : TI := fun σ H R => td σ H fun x H1 => ∃ d o kvs, x = .ref d ∧ H1 d = some (.frz o (.dK kvs)) ∧ R (ItI d o kvs) H1
theorem pi_itemsN {X : Cx} {e : Expr} {td : TE} {apos cpos : Pos} {elts : List Expr} {kk : Nat} {tpos : Pos} (he : PE X e td) (hbase : attributeBase e "items" X.env (eval e X.env) = eval e X.env := by rfl) (hline : (apos.endLine == cpos.line) = true := by rfl) :
    PI X (.Tuple elts kk tpos) (.Call (.Attribute e "items" apos) [] [] cpos) (iItemsN td) := by
  refine ⟨fun pins s σ H R I h => ?_⟩; refine wpAny_Call_method (T := "dict") (id := "dict.items") hbase rfl hline F.plainAttrs_dict F.slot_dict_items F.type_dict_items (thn (he.run pins s σ H _ I h) fun u s1 ⟨x, H1, I1, rx, d, o, kvs, ex, hd, q⟩ => ?_)
  subst ex; obtain rfl : u = Value.ref d := rx
  obtain ⟨hs, hgd, hx, es, ep, vs, hdt, hsz, kv, hm⟩ := I1.frzK hd; have hl : kvs.length = vs.length := Paired.length kv; refine ⟨hm.dictOf.typeIs, hm.dictOf.mapOf.noDict, ?_⟩; have I2 : Inv X pins σ H1 { s1 with heap := s1.heap.push { cls := .type "dict_items", data := .fields #[.ref d] } } := I1.kept (t' := s1.toks) fun b ob q => Heap.get?_push_of_some _ q; have fin : wpAny (model X.prog X.w) X.A (pyIter (.ref s1.heap.objs.size)) (PIE X pins σ (.Tuple elts kk tpos) R) X.xe { s1 with heap := s1.heap.push { cls := .type "dict_items", data := .fields #[.ref d] } } := by
    refine wpAny_pyIter_items (d := d) (knd := mixKind X.prog X.w) ⟨_, Heap.get?_push_size _ rfl, rfl, rfl⟩ (hm.push _) (pi_one (tk := s1.toks) I2 _ (turn_itemsN _ hdt) ⟨.none, .none, ?_⟩ q)
    rw [hl]; exact Heap.get?_push_size _ rfl
  show wpAny _ _ (callWith cpos (.builtin "dict.items") [.ref d] [] []) _ X.xe s1; exact method_meetsIn F.slot_dict_items F.entry_dict_items rfl (PySem.evalArgs_none ⟨rfl, hm.dictOf.typeIs, F.args_dict_items_1 _, _, meets_dict_items (mixKind X.prog X.w) d hs, ⟨vs, hm.dictOf⟩, fin⟩)
def pairD (p : Int × Int) : PyData := .tuple [.int p.1, .int p.2]
def eDcI (vs : List Nat) (j : Nat) (step : PyData → M (Option (Int × Int))) : M VD := do
  let x ← eVar j
  let kvs ← dkOf x
  fun S => match dkGo step (wipeD (noRf S.sl) vs) (kvs.map pairD) [] with
    | some r => newK r S
    | none => .bad
section
variable {X : Cx} {E : XK} {ifs : List Expr} {scope : Scope} {own : List (Str × Nat)} {pos : Pos} {g : VD → M Unit} {tt : M Bool} {tk tv : M VD} {is : List Nat}
theorem dci_lift {gr : TG} (hgr : ∀ (σ : L2.St) (H : Hp) (v : V) (Q : L2.St → Hp → Prop), (∃ (F : Hp) (rs : List Addr) (S : DS) (G : Hp) (x : VD), Md X.K X.wd F rs S σ H G ∧ RdV X.K X.wd rs G x v ∧ PostU X.K X.wd F rs G is σ (g x S) Q) → gr v σ H Q)
    (his : ∀ i ∈ is, i ∈ own.map (·.2)) {j : Nat} {σ : L2.St} {H : Hp} {Q : VK} (q : liftE X.K X.wd X.mg E (eDcI (own.map (·.2)) j (stepK g tt tk tv)) σ H Q) :
    tLockE (tDc (iItemsN (tVar j)) gr (liftT X.K X.wd X.mg E0 tt) (liftE X.K X.wd X.mg E0 tk) (liftE X.K X.wd X.mg E0 tv) (own.map (·.2))) σ H Q := by
  obtain ⟨F, rs, S, G, m, p⟩ := q
  unfold eDcI at p
  rw [M.bind_run] at p
  unfold eVar at p
  cases hs : S.sl[j]? with
  | none => rw [hs] at p; exact p.elim
  | some oo =>
    cases oo with
    | none => rw [hs] at p; exact p.elim
    | some y =>
      rw [hs] at p
      obtain ⟨v, h2, h3⟩ := m.slot j y hs
      have p' : Post X.K X.wd X.mg E F σ (RdV X.K X.wd) rs G ((DL.dkOf y >>= fun kvs => fun S => match dkGo (stepK g tt tk tv) (wipeD (noRf S.sl) (own.map (·.2))) (kvs.map pairD) [] with | some r => newK r S | none => .bad) S) Q := p
      obtain ⟨i, kvs, rfl, e0, p2⟩ := Post.dkOf p'
      obtain ⟨a, ha, rfl⟩ := h3
      have hd := m.dk ha e0
      refine ⟨a, .dK (kvV kvs), hd, trivial, fun od => ⟨.ref a, h2, a, od, kvV kvs, rfl, upd_same, fun D hD => ?_⟩⟩
      replace p2 : Post X.K X.wd X.mg E F σ (RdV X.K X.wd) rs G (match dkGo (stepK g tt tk tv) (wipeD (noRf S.sl) (own.map (·.2))) (kvs.map pairD) [] with | some r => newK r S | none => .bad) Q := p2
      have hDa : D ≠ a := fun z => by rw [z, upd_same] at hD; cases hD
      have hD0 : H D = none := by rw [upd_ne hDa] at hD; exact hD
      have ga : G a = none := (m.cel i a _ ha e0).2.1
      cases hgo : dkGo (stepK g tt tk tv) (wipeD (noRf S.sl) (own.map (·.2))) (kvs.map pairD) [] with
      | none => rw [hgo] at p2; exact p2.elim
      | some r =>
        rw [hgo] at p2
        generalize hH1 : upd H a (.frz od (.dK (kvV kvs))) = H1 at hD
        have s1 : Same G H1 := fun b u q => by
          have : b ≠ a := fun z => by rw [z, ga] at q; cases q
          rw [← hH1, upd_ne this]; exact m.sub b u q
        have ar : a ∈ rs := List.mem_of_getElem? ha
        have at1 : ∀ b ∈ rs, ∃ u, H1 b = some u ∧ ∀ ps, u ≠ .tbl ps := fun b hb => by
          by_cases hba : b = a
          · exact ⟨_, by rw [hba, ← hH1]; exact upd_same, fun q z => by cases z⟩
          · obtain ⟨u, e, hn⟩ := m.at hb
            exact ⟨u, by rw [← hH1, upd_ne hba]; exact e, hn⟩
        have fa : F a = none := (m.cel i a _ ha e0).1
        have fr : Same (ringF F H1 rs) H1 := fun b o h => by
          unfold ringF at h
          split at h
          · exact h
          · have hba : b ≠ a := fun z => by rw [z, fa] at h; cases h
            rw [← hH1, upd_ne hba]; exact m.frm b o h
        have nf : ∀ b ps, ringF F H1 rs b ≠ some (.tbl ps) := fun b ps h => by
          unfold ringF at h
          split at h
          · rename_i hb
            obtain ⟨u, e, n⟩ := at1 b hb
            rw [h] at e; cases e; exact n ps rfl
          · exact m.nft b ps h
        have tb1 : LamX.Tabs TabT.T H1 := by rw [← hH1]; exact tabs_write m.tab hd (fun ps z => by cases z) (fun q => code_dK)
        have m1 : Md X.K X.wd (ringF F H1 rs) [] ⟨noRf S.sl, []⟩ σ H1 G := ⟨by simp [noRf, m.len], s1, fr, rfl, List.nodup_nil, (fun j a c z => nomatch z), fun i x h => by
          obtain ⟨d, rfl, e⟩ := noRf_some h
          obtain ⟨v, h1, h2⟩ := m.slot i _ e
          exact ⟨v, h1, h2⟩, m.ntb, nf, tb1⟩
        have ra : ∀ b ∈ rs, ∀ H', Same (ringF F H1 rs) H' → H' b = H1 b := fun b hb H' f => by
          obtain ⟨u, e, _⟩ := at1 b hb
          rw [f b u (by unfold ringF; rw [if_pos hb]; exact e), e]
        have la : ∀ H', Same (ringF F H1 rs) H' → H' a = some (.frz od (.dK (kvV kvs))) := fun H' f => by rw [ra a ar H' f, ← hH1]; exact upd_same
        have m2 : Md X.K X.wd (ringF F H1 rs) [D] ⟨noRf S.sl, [.dk []]⟩ σ (upd H1 D (.dK [])) G := m1.cellD (kvs := []) hD
        have sd : ∀ (i : Nat) (y : VD), (noRf S.sl)[i]? = some (some y) → ∃ e, y = VD.dat e := fun i y h => by obtain ⟨e, r, _⟩ := noRf_some h; exact ⟨e, r⟩
        have hl : (kvV kvs).length = kvs.length := by simp [kvV]
        refine ⟨fun i n H' => n = kvs.length - i ∧ i ≤ kvs.length ∧ ∃ acc G2, Same G G2 ∧ Md X.K X.wd (ringF F H1 rs) [D] ⟨noRf S.sl, [.dk acc]⟩ σ H' G2 ∧ dkGo (stepK g tt tk tv) (wipeD (noRf S.sl) (own.map (·.2))) ((kvs.map pairD).drop i) acc = some r,
          ⟨kvs.length, by simp, by simp, [], G, L2.Same.refl _, m2, by simpa using hgo⟩, ?_⟩
        rintro i' n H' ⟨rfl, hi, acc, G2, s2, m3, go⟩
        by_cases hlt : i' < kvs.length
        · refine .inr ⟨⟨la H' m3.frm, by rw [hl]; exact hlt⟩, fun H'' => ∃ acc G3, Same G G3 ∧ Md X.K X.wd (ringF F H1 rs) [D] ⟨noRf S.sl, [.dk acc]⟩ σ H'' G3 ∧ dkGo (stepK g tt tk tv) (wipeD (noRf S.sl) (own.map (·.2))) ((kvs.map pairD).drop (i' + 1)) acc = some r,
            fun H'' ⟨ac, G3, s3, m4, p3⟩ => ⟨kvs.length - (i' + 1), by omega, rfl, hlt, ac, G3, s3, m4, p3⟩, fun x H'' y => ?_⟩
          obtain ⟨T, k, v, its, hk, rfl, hT, rfl⟩ := y
          have hk' : (kvV kvs)[i']? = some ((.inl (kvs[i']).1 : Key), V.int (kvs[i']).2) := by
            unfold kvV; rw [List.getElem?_map, List.getElem?_eq_getElem hlt]; rfl
          rw [hk'] at hk
          cases hk
          have hdrop : (kvs.map pairD).drop i' = pairD kvs[i'] :: (kvs.map pairD).drop (i' + 1) := by
            (rw [List.drop_eq_getElem_cons (by simpa using hlt)]; simp)
          rw [hdrop] at go
          have rd : Dd X.K (upd G2 T (TN.hT its [V.int (kvs[i']).1, V.int (kvs[i']).2])) (.ref T) (pairD kvs[i']) := .tup (TN.SqN.of upd_same) (.cons (.int _) (.cons (.int _) .nil))
          exact turnK_ok hgr his (m3.new hT) rd sd go fun H9 G9 a9 s9 m9 g9 => ⟨a9, G9, L2.Same.trans s2 (L2.Same.trans (same_upd (L2.Same.free m3.sub hT)) s9), m9, g9⟩
        · have e : i' = kvs.length := by omega
          subst e
          have ea := la H' m3.frm
          refine .inl ⟨⟨ea, by rw [hl]; exact Nat.le_refl _⟩, ea, ?_⟩
          rw [List.drop_eq_nil_of_le (by simp)] at go
          have ek : acc = r := Option.some.inj go
          subst ek
          have hH : H' D = some (.dK (kvV acc)) := (m3.cel 0 D _ rfl rfl).2.2
          have nD : D ∉ rs := fun z => by obtain ⟨u, e, _⟩ := m.at z; rw [hD0] at e; cases e
          have fF : Same F H' := fun b o h => by
            by_cases hb : b ∈ rs
            · have hba : b ≠ a := fun z => by rw [z, fa] at h; cases h
              rw [ra b hb H' m3.frm, ← hH1, upd_ne hba]; exact m.frm b o h
            · exact m3.frm b o (by unfold ringF; rw [if_neg hb]; exact h)
          have m9 := (m.cellD (kvs := acc) hD0).again (H' := upd H' a (.dK (kvV kvs))) (fun b u q => by
              have hba : b ≠ a := fun z => by rw [z, ga] at q; cases q
              rw [upd_ne hba]; exact m3.sub b u (s2 b u q)) (same_updR fF fa) (tabs_write m3.tab ea (fun ps z => by cases z) (fun q z => by unfold LamX.CodeO at z; cases z)) fun b hb => by
            rcases (List.mem_append.mp hb) with hb | hb
            · rw [upd_ne (show b ≠ D from fun z => nD (by rw [← z]; exact hb))]
              by_cases hba : b = a
              · rw [hba, upd_same, hd]
              · rw [upd_ne hba, ra b hb H' m3.frm, ← hH1, upd_ne hba]
            · have e : b = D := by simpa using hb
              rw [e, upd_same, upd_ne hDa]; exact hH
          exact p2 (.ref D) _ G (rs ++ [D]) ⟨⟨[D], rfl⟩, L2.Same.refl G⟩ m9 ⟨D, by rw [← m.rl]; simp, rfl⟩
theorem d_dci {kx vx : Expr} {y : Str} {j : Nat} {elts : List Expr} {kk : Nat} {tpos ypos apos cpos : Pos} (hc : X.calm = true) (hN : X.N.Nodup) (ok : BlkOk X.N X.env.scope scope own) (his : ∀ i ∈ is, i ∈ own.map (·.2)) (hv : PE X (.Name y ypos) (tVar j))
    (hg : ∀ (s : Shared) (H : Hp) (C : Addr) (cl : List (Str × Addr)) (fp : List Addr), PDG (X.blk s H scope (compEnvC scope cl C X.env) fp) is (.Tuple elts kk tpos) g)
    (ht : ∀ (s : Shared) (H : Hp) (C : Addr) (cl : List (Str × Addr)) (fp : List Addr), PTs (X.blk s H scope (compEnvC scope cl C X.env) fp) ifs (liftT X.K X.wd X.mg E0 tt))
    (hk : ∀ (s : Shared) (H : Hp) (C : Addr) (cl : List (Str × Addr)) (fp : List Addr), PD (X.blk s H scope (compEnvC scope cl C X.env) fp) E0 kx tk)
    (he : ∀ (s : Shared) (H : Hp) (C : Addr) (cl : List (Str × Addr)) (fp : List Addr), PD (X.blk s H scope (compEnvC scope cl C X.env) fp) E0 vx tv) (hs : ∀ x, foldedSetIterable (.Call (.Attribute (.Name y ypos) "items" apos) [] [] cpos) X.env x = pure x := by intro _; rfl)
    (hbase : attributeBase (.Name y ypos) "items" X.env (eval (.Name y ypos) X.env) = eval (.Name y ypos) X.env := by rfl) (hline : (apos.endLine == cpos.line) = true := by rfl) :
    PD X E (.DictComp kx vx [⟨.Tuple elts kk tpos, .Call (.Attribute (.Name y ypos) "items" apos) [] [] cpos, ifs, 0⟩] scope pos) (eDcI (own.map (·.2)) j (stepK g tt tk tv)) :=
  PE.weak (pe_lock (pe_dc (g := liftG X.K X.wd is g) (tt := liftT X.K X.wd X.mg E0 tt) (tk := liftE X.K X.wd X.mg E0 tk) (tv := liftE X.K X.wd X.mg E0 tv) hc hN (pi_itemsN hv hbase hline) ok hg ht hk he hs)) fun σ H Q q => dci_lift (fun _ _ _ _ h => h) his q
end
end DL
/-! DS1: sorted(x), x a list or a tuple of data. -/
namespace SQ
open PySem PySem.Spec PyProof.Rows L2 PySem.W
section
variable {prog : Program} {w : World} {A : Around} {E : Value → Shared → Prop} {s : Shared} {β : Type} {R : Value → β → Prop} {enc : β → PyData} {bs : List β}
theorem sorted_seq {it : Addr} {T : String} {o : Obj} {vs : List Value} {n : Nat} {Q : Value → Shared → Prop} (hT : T = "list" ∨ T = "tuple") (ho : s.heap.get? it = some o) (hc : o.cls = .type T) (hd : o.data = .seq vs.toArray n)
    (e : EachIs R vs bs) (er : EachIs (fun v b => ∃ as, Reads s.heap v (enc b) as) vs bs) (hal : AllAlike (bs.map enc)) (hk : Sortable (bs.map enc)) (hL : bs.length ≤ sizeLine) (hu : ∀ b, b ∈ bs → A.units + 3 + (enc b).depth < cLine)
    (h : ∀ (out : List Value) (h1 h' : Heap) (c : Nat), (∀ b u, s.heap.get? b = some u → h1.get? b = some u) → (∀ b u, h1.get? b = some u → h'.get? b = some u) → out.length = bs.length → EachIs R out (bs.mergeSort (dataLe false enc)) → h'.get? h1.objs.size = some (seqObj "list" (List.toArray out) c) → Q (.ref h1.objs.size) { s with heap := h' }) :
    wpAny (model prog w) A (call (.builtin "sorted") [.ref it]) Q E s := by
  refine Calls.call_function_entry kind_sorted plain_sorted entry_sorted (args_sorted1 _) ?_; unfold Builtin.«sorted»; refine wpAny_bind (m := checkCount "sorted" 1 1 _) (wpAny_pure ?_)
  have hlen := e.length
  refine wpAny_bind (wpAny_collect_seq (A := A.in1) it hT ho hc hd (fun h1 k1 => ?_) (by rw [List.size_toArray, hlen]; exact hL))
  refine wpAny_bind (wpAny_newList ?_ (by show vs.toArray.toList.length ≤ _; simp; omega))
  have at_l : (h1.push (seqObj "list" vs.toArray 0)).get? h1.objs.size = some (seqObj "list" vs.toArray 0) := Heap.get?_push_size _ rfl
  have keep : ∀ b u, s.heap.get? b = some u → (h1.push (seqObj "list" vs.toArray 0)).get? b = some u ∧ b ≠ h1.objs.size := fun b u q => ⟨Heap.get?_push_of_some _ (k1 b u q), Nat.ne_of_lt (Heap.lt_size (k1 b u q))⟩
  have er' : EachIs (fun v b => ∃ as, Reads (sortingHeap (h1.push (seqObj "list" vs.toArray 0)) h1.objs.size vs) v (enc b) as) vs bs := er.mono fun _ _ ⟨as, r⟩ => ⟨as, PyProof.Rows.Reads.keeps (fun b u q => sortingHeap_old (keep b u q).2 (keep b u q).1) r⟩
  refine wpAny_bind (wpAny_holding (wpAny_call_entry slot_list_sort ⟨_, at_l, rfl⟩ entry_list_sort (list_sort_vals (s := { s with heap := h1.push (seqObj "list" vs.toArray 0) }) (κ := dataKind (sortingHeap (h1.push (seqObj "list" vs.toArray 0)) h1.objs.size vs) (bs.map enc)) at_l
    (SortsAt.data (s := { s with heap := sortingHeap (h1.push (seqObj "list" vs.toArray 0)) h1.objs.size vs }) (each_map (R := fun v d => ∃ as, Reads (sortingHeap (h1.push (seqObj "list" vs.toArray 0)) h1.objs.size vs) v d as) enc er') hal hk (bound_map fun b hb => ?_)) (by rw [hlen]; exact hL) ⟨.none, rfl, ?_⟩) (args_list_sort _)))
  · have := hu b hb
    show A.units + 1 + 1 + (enc b).depth < cLine
    omega
  · obtain ⟨c, hc'⟩ := sortedHeap_at (vs := vs) (out := (sortVals (dataKind (sortingHeap (h1.push (seqObj "list" vs.toArray 0)) h1.objs.size vs) (bs.map enc)) false vs vs).toArray) at_l
    refine wpAny_pure ⟨_, rfl, h _ h1 _ c k1 (fun b u q => ?_) (by rw [sortVals_length false rfl]; exact hlen) (sortVals_data false e er' hal) hc'⟩
    have lt := Heap.lt_size q
    rw [sortedHeap_old (Nat.ne_of_lt lt) (by rw [size_push']; exact Nat.lt_succ_of_lt lt)]; exact Heap.get?_push_of_some _ q
end
end SQ
namespace DL
open PySem PySem.Spec L2
variable [TabT]
open NS (leD)
def other (d : PyData) : Bool := match d with
  | .none => false
  | .tuple _ => false
  | _ => true
def sortBQ (ds : List PyData) : Bool := (ds.all fun x => ds.all fun y => W.alike x y) && ((ds.all full || ds.all other) && ds.all fun d => decide (d.depth ≤ 100))
def sortZ (xs : List V) (ds : List PyData) : List (V × PyData) := (xs.zip ds).mergeSort (W.dataLe false Prod.snd)
theorem zip_snd : ∀ {xs : List V} {ds : List PyData}, xs.length = ds.length → (xs.zip ds).map Prod.snd = ds
  | [], [], _ => rfl
  | _ :: xs, _ :: ds, h => by simp [zip_snd (xs := xs) (ds := ds) (by simpa using h)]
theorem sortZ_snd {xs : List V} {ds : List PyData} (h : xs.length = ds.length) : (sortZ xs ds).map Prod.snd = ds.mergeSort leD := by
  have := W.sort_maps (r := W.dataLe false (Prod.snd : V × PyData → PyData)) (s := leD) Prod.snd (fun _ _ _ _ => rfl) (l := xs.zip ds)
  unfold sortZ
  rw [this, zip_snd h]
theorem dd_zip {K : PySem.W.Frag} {G : Hp} : ∀ {xs : List V} {ds : List PyData}, DdAll K G xs ds → ∀ p ∈ xs.zip ds, Dd K G p.1 p.2
  | _, _, .nil, p, h => by simp at h
  | _, _, .cons hcc t, p, hp => by
    simp only [List.zip_cons_cons, List.mem_cons] at hp
    rcases hp with rfl | hp
    · exact hcc
    · exact dd_zip t p hp
theorem dd_of_zip {K : PySem.W.Frag} {G : Hp} : ∀ {L : List (V × PyData)}, (∀ p ∈ L, Dd K G p.1 p.2) → DdAll K G (L.map Prod.fst) (L.map Prod.snd)
  | [], _ => .nil
  | p :: L, h => .cons (h p List.mem_cons_self) (dd_of_zip fun q hq => h q (List.mem_cons_of_mem _ hq))
def rSortQ (K : PySem.W.Frag) : List V → Hp → VK → Prop := fun vs H Q => ∃ (a : Addr) (xs : List V) (ds : List PyData), vs = [.ref a] ∧ (SqL K H a xs ∨ SqT K H a xs) ∧ DdAll K H xs ds ∧ sortBQ ds = true ∧
  ∀ q, H q = none → Q (.ref q) (upd H q (.lst ((sortZ xs ds).map Prod.fst)))
section
variable {X : Cx} {E : XK} {a : Expr} {pos p : Pos}
theorem each_zip {pins : List (Addr × Obj)} {σ : L2.St} {H : Hp} {s : Shared} (I : Inv X pins σ H s) : ∀ {xs : List V} {its : List Value} {ds : List PyData}, Vals xs its → DdAll X.K H xs ds →
    W.EachIs (fun v (b : V × PyData) => RelV b.1 v) its (xs.zip ds) ∧ W.EachIs (fun v (b : V × PyData) => ∃ as, Reads s.heap v b.2 as) its (xs.zip ds)
  | _, _, _, .nil, .nil => ⟨.nil, .nil⟩
  | _, _, _, .cons r rs, .cons h t => by
    obtain ⟨a, b⟩ := each_zip I rs t
    exact ⟨.cons r a, .cons (Dd.reads I _ _ _ h r) b⟩
theorem vals_each : ∀ {L : List (V × PyData)} {its : List Value}, W.EachIs (fun v (b : V × PyData) => RelV b.1 v) its L → Vals (L.map Prod.fst) its
  | _, _, .nil => .nil
  | _, _, .cons r t => .cons r (vals_each t)
theorem c_sortQ (hu : X.A.units + 200 < cLine) : CallR X (.builtin "sorted") (rSortQ X.K) := by
  rintro pins s σ H xs us Q I r ⟨a, vs, ds, rfl, hs, hd, hb, q⟩
  obtain ⟨u, rfl, ru⟩ := vals1 r; cases ru
  have hl := DdAll.length hd
  unfold sortBQ at hb
  simp only [Bool.and_eq_true, Bool.or_eq_true, List.all_eq_true, decide_eq_true_eq] at hb
  obtain ⟨b1, b2, b3⟩ := hb
  have obj : ∃ (T : String) (its : List Value) (o : Obj) (n : Nat), (T = "list" ∨ T = "tuple") ∧ Vals vs its ∧ s.heap.get? a = some o ∧ o.cls = .type T ∧ o.data = .seq its.toArray n ∧ vs.length ≤ sizeLine := by
    rcases hs with hs | hs
    · obtain ⟨its, rv, pl, hz⟩ := I.list hs
      obtain ⟨o, ho, hc, n, hd⟩ := pl.isList; exact ⟨"list", its, o, n, .inl rfl, rv, ho, hc, hd, hz⟩
    · obtain ⟨its, rv, ⟨o, ho, hc, n, hd⟩, hz⟩ := I.tuple hs
      exact ⟨"tuple", its, o, n, .inr rfl, rv, ho, hc, hd, hz⟩
  obtain ⟨T, its, o, n, hT, rv, ho, hc, hdt, hz⟩ := obj
  obtain ⟨e1, e2⟩ := each_zip I rv hd
  have mem : ∀ d ∈ (vs.zip ds).map Prod.snd, d ∈ ds := fun d h => by rw [zip_snd hl] at h; exact h
  have lz : (vs.zip ds).length = ds.length := by rw [List.length_zip]; omega
  refine SQ.sorted_seq (enc := Prod.snd) hT ho hc hdt e1 e2 (fun d h d' h' => b1 d (mem d h) d' (mem d' h')) ?_ (by rw [lz]; omega) (fun b hb => ?_) fun out h1 h' c k1 k2 hlo he hq => ?_
  · rcases b2 with z | z
    · refine .inl fun d h => ?_
      have y := z d (mem d h)
      unfold full at y
      split at y
      · rename_i x r; exact ⟨x, r, rfl⟩
      · cases y
    · refine .inr fun d h => ?_
      have y := z d (mem d h)
      unfold other at y
      split at y
      · cases y
      · cases y
      · rename_i n1 n2; exact ⟨n1, n2⟩
  · have := b3 b.2 (mem _ (List.mem_map.mpr ⟨b, hb, rfl⟩))
    omega
  · have I1 : Inv X pins σ H { s with heap := h1 } := I.kept (t' := s.toks) k1
    have rl := vals_each he
    have new : ObjOk X.prog X.w (upd H h1.objs.size (.lst ((sortZ vs ds).map Prod.fst))) h' h1.objs.size (.lst ((sortZ vs ds).map Prod.fst)) :=
      ⟨by rw [List.length_map]; unfold sortZ; rw [List.length_mergeSort, lz]; omega, _, c, rl, hq⟩
    exact ⟨.ref h1.objs.size, _, I1.laid (t' := s.toks) k2 (Nat.le_refl _) new, rfl, q _ (I1.hok.fresh (Nat.le_refl _))⟩
def eSortQ (ta : M VD) : M VD := do let x ← ta; let c ← peek x; let ds ← ofO (asSeq c); chk (sortBQ ds); newL (MS.sort leD ds)
theorem Md.peekSeq {K : PySem.W.Frag} {wl : Wd} {F : Hp} {rs : List Addr} {S : DS} {σ : L2.St} {H G : Hp} (m : Md K wl F rs S σ H G) {x : VD} {v : V} {d : PyData} {ds : List PyData} (r : RdV K wl rs G x v) (p : peekS S x = some d) (hs : asSeq d = some ds) :
    ∃ a vs, v = .ref a ∧ (SqL K H a vs ∨ SqT K H a vs) ∧ DdAll K G vs ds := by
  cases d with
  | list xs =>
    cases hs
    obtain ⟨a, vs, e, h1, h2⟩ := m.peekL r p
    exact ⟨a, vs, e, .inl (.inl h1), h2⟩
  | tuple xs =>
    cases hs
    cases x with
    | dat d' =>
      cases p
      cases (show Dd K G v (.tuple ds) from r) with
      | tup hq ha => exact ⟨_, _, rfl, .inr (hq.same m.sub).sqt, ha⟩
    | rf j =>
      unfold peekS at p
      cases e : S.ce[j]? with
      | none => simp [e] at p
      | some c => cases c <;> simp [e] at p
    | _ => cases p
  | _ => cases hs
theorem d_sortQ {ta : M VD} (hu : X.A.units + 200 < cLine) (ha : PD X E a ta) (hm : X.mg "sorted" = none) (hg : Gl X "sorted" := by rfl) (na : starEach [a] X.env = (false, eval a X.env) :: starEach [] X.env := by rfl) (hpl : (backTo pos (starEach [] X.env)).any (·.1) = false := by rfl) :
    PD X E (.Call (.Name "sorted" p) [a] [] pos) (eSortQ ta) := PE.weak (pe_callB (c_sortQ hu) hg hm (by decide +kernel) (pa_cons ha pa_nil na) (he := na) (hpl := hpl)) fun σ H Q q => by
  obtain ⟨F, rs, S, G, m, p⟩ := q
  refine ⟨F, rs, S, G, m, (Post.seq p).mono fun v H1 ⟨rs1, S1, G1, x, u1, m1, r1, p1⟩ => ?_⟩
  obtain ⟨d, hd, p2⟩ := Post.peek p1
  obtain ⟨ds, hs, p3⟩ := Post.ofO p2
  obtain ⟨hb, p4⟩ := Post.chk p3
  obtain ⟨a, vs, rfl, hq, hda⟩ := m1.peekSeq r1 hd hs
  refine ⟨a, vs, ds, rfl, hq, DdAll.same m1.sub _ _ hda, hb, fun q hn => ?_⟩
  rw [MS.sort_eq, ← sortZ_snd (DdAll.length hda)] at p4
  exact newLst m1 (dd_of_zip fun p hp => dd_zip hda p (List.mem_mergeSort.mp hp)) p4 hn
end
end DL
/-! DS2: min(x), max(x), x a list or a tuple of whole numbers. -/
namespace SQ
open L2 PyProof.Rows PySem PySem.Spec
section
variable {xs : Array (Int × Tok)} {prog : Program} {w : World} {A : Around} {E : Value → Shared → Prop} {s : Shared} {l : Addr}
theorem iter_intTup {Q : Value → Shared → Prop} (hl : s.heap.IsTuple l (intItems xs))
    (h : ∀ s₂ : Shared, s₂ = { s with heap := s.heap.push { cls := .type "tuple_iterator", data := .fields #[.ref l, .int 0 0] } } → (s₂.heap.IsTupleIter s.heap.objs.size l 0 ∧ s₂.heap.IsTuple l (intItems xs)) → (∀ b ∈ [s.heap.objs.size, l], b < s₂.heap.objs.size) → l ≠ s.heap.objs.size → Q (.ref s.heap.objs.size) s₂) : wpAny (model prog w) A (pyIter (.ref l)) Q E s := by
  have hlt : l < s.heap.objs.size := (let ⟨_, e, _⟩ := hl; Heap.lt_size e)
  refine wpAny_pyIter_tuple hl (h _ rfl ⟨⟨_, Heap.get?_push_size _ rfl, rfl, rfl⟩, hl.push _⟩ (fun b hb => ?_) (Nat.ne_of_lt hlt))
  show b < (s.heap.push _).objs.size; rw [Heap.size_push]; simp only [List.mem_cons, List.not_mem_nil, or_false] at hb
  rcases hb with rfl | rfl
  · exact Nat.lt_succ_self _
  · exact Nat.lt_succ_of_lt hlt
theorem old_keptT {h' : Heap} (hk : ∀ b o, b ∉ [s.heap.objs.size] → (s.heap.push { cls := .type "tuple_iterator", data := .fields #[.ref l, .int 0 0] }).get? b = some o → h'.get? b = some o) :
    ∀ b o, s.heap.get? b = some o → h'.get? b = some o := fun b o e => hk b o (by
      have := Heap.lt_size e
      simp only [List.mem_cons, List.not_mem_nil, or_false]
      exact Nat.ne_of_lt this) (Heap.get?_push_of_some _ e)
theorem max_intTup {Q : Value → Shared → Prop} (hh : A.handled = none) (hl : s.heap.IsTuple l (intItems xs)) (hne : 0 < xs.size) (h : ∀ v h' tk, (intItems xs)[argBest (fun i j => decide (numAt xs i > numAt xs j)) (xs.size - 1)]? = some v → (∀ b o, s.heap.get? b = some o → h'.get? b = some o) → Q v { s with heap := h', toks := tk }) : wpAny (model prog w) A (call (.builtin "max") [.ref l]) Q E s := by
  refine call_max_walk (iter_intTup hl fun s₂ e st hfp hlI => ?_); subst e
  refine ⟨_, _, _, _, _, _, _, rfl, Walks.tuple (A := A.in1) hh _ l hlI (intItems xs), st, hfp, by simpa [intItems] using hne, CmpOf.ints_gt (numAt xs) (fun _ _ => intItems_at), fun v h' tk hP hk => ?_⟩
  exact h v h' tk (by simpa [intItems] using hP) (old_keptT hk)
theorem min_intTup {Q : Value → Shared → Prop} (hh : A.handled = none) (hl : s.heap.IsTuple l (intItems xs)) (hne : 0 < xs.size) (h : ∀ v h' tk, (intItems xs)[argBest (fun i j => decide (numAt xs i < numAt xs j)) (xs.size - 1)]? = some v → (∀ b o, s.heap.get? b = some o → h'.get? b = some o) → Q v { s with heap := h', toks := tk }) : wpAny (model prog w) A (call (.builtin "min") [.ref l]) Q E s := by
  refine call_min_walk (iter_intTup hl fun s₂ e st hfp hlI => ?_); subst e
  refine ⟨_, _, _, _, _, _, _, rfl, Walks.tuple (A := A.in1) hh _ l hlI (intItems xs), st, hfp, by simpa [intItems] using hne, CmpOf.ints_lt (numAt xs) (fun _ _ => intItems_at), fun v h' tk hP hk => ?_⟩
  exact h v h' tk (by simpa [intItems] using hP) (old_keptT hk)
end
section
variable {Q : Value → Shared → Prop} {prog : Program} {w : World} {A : Around} {E : Value → Shared → Prop} {s : Shared} {l : Addr} {its : List Value} {ns : List Int}
theorem maxT_raw (hh : A.handled = none) (hl : s.heap.IsTuple l its.toArray) (hi : IntsAre its ns) (hne : 0 < ns.length) (h : ∀ h' tk M t', (∀ b o, s.heap.get? b = some o → h'.get? b = some o) → M ∈ ns → (∀ a, a ∈ ns → a ≤ M) → Q (.int M t') { s with heap := h', toks := tk }) : wpAny (model prog w) A (call (.builtin "max") [.ref l]) Q E s := by
  obtain ⟨xs, e⟩ := hi.allInts.items; have hn : numsOf (intItems xs).toList = ns := (by rw [← e]; exact hi.numsOf)
  rw [nums_intItems] at hn; subst hn; rw [e] at hl
  have hsz : 0 < xs.size := (by simpa using hne)
  refine max_intTup hh hl hsz fun v h' tk hv hk => ?_
  obtain ⟨t, rfl⟩ := intItems_at hv; obtain ⟨h1, h2⟩ := argBest_gt (numAt xs) (xs.size - 1); refine h h' tk _ t hk ?_ fun a ha => ?_
  · (rw [numAt_eq]; exact PySem.getD_mem (by rw [List.length_map, Array.length_toList]; omega))
  · obtain ⟨j, hj, rfl⟩ := mem_getD ha; rw [List.length_map, Array.length_toList] at hj
    (rw [← numAt_eq]; exact h2 j (by omega))
theorem minT_raw (hh : A.handled = none) (hl : s.heap.IsTuple l its.toArray) (hi : IntsAre its ns) (hne : 0 < ns.length) (h : ∀ h' tk M t', (∀ b o, s.heap.get? b = some o → h'.get? b = some o) → M ∈ ns → (∀ a, a ∈ ns → M ≤ a) → Q (.int M t') { s with heap := h', toks := tk }) : wpAny (model prog w) A (call (.builtin "min") [.ref l]) Q E s := by
  obtain ⟨xs, e⟩ := hi.allInts.items; have hn : numsOf (intItems xs).toList = ns := (by rw [← e]; exact hi.numsOf)
  rw [nums_intItems] at hn; subst hn; rw [e] at hl
  have hsz : 0 < xs.size := (by simpa using hne)
  refine min_intTup hh hl hsz fun v h' tk hv hk => ?_
  obtain ⟨t, rfl⟩ := intItems_at hv; obtain ⟨h1, h2⟩ := argBest_lt (numAt xs) (xs.size - 1); refine h h' tk _ t hk ?_ fun a ha => ?_
  · (rw [numAt_eq]; exact PySem.getD_mem (by rw [List.length_map, Array.length_toList]; omega))
  · obtain ⟨j, hj, rfl⟩ := mem_getD ha; rw [List.length_map, Array.length_toList] at hj
    (rw [← numAt_eq]; exact h2 j (by omega))
end
end SQ
namespace DL
open PySem PySem.Spec L2
variable [TabT]
def bestI (mx : Bool) : List Int → Int
  | [] => 0
  | x :: xs => xs.foldl (fun a b => if (if mx then a < b else b < a) then b else a) x
theorem best_go (mx : Bool) : ∀ (xs : List Int) (x m : Int), m ∈ x :: xs → (∀ y ∈ x :: xs, if mx then y ≤ m else m ≤ y) → xs.foldl (fun a b => if (if mx then a < b else b < a) then b else a) x = m
  | [], x, m, h, _ => by simp at h; simp [h]
  | y :: ys, x, m, h, k => by
    rw [List.foldl_cons]
    have kx := k x (by simp)
    have ky := k y (by simp)
    refine best_go mx ys _ m ?_ fun z hz => ?_
    · simp only [List.mem_cons] at h ⊢
      cases mx <;> simp at kx ky ⊢ <;> split <;> rcases h with h | h | h <;> first | exact .inr h | (left; omega)
    · rcases List.mem_cons.mp hz with rfl | hz
      · cases mx <;> simp at kx ky ⊢ <;> split <;> assumption
      · exact k z (by simp [hz])
theorem best_eq {mx : Bool} {ns : List Int} {m : Int} (h : m ∈ ns) (k : ∀ y ∈ ns, if mx then y ≤ m else m ≤ y) : bestI mx ns = m := by
  cases ns with
  | nil => simp at h
  | cons x xs => exact best_go mx xs x m h k
def rBest (K : PySem.W.Frag) (mx : Bool) : List V → Hp → VK → Prop := fun vs H Q => ∃ (a : Addr) (ns : List Int), vs = [V.ref a] ∧ (SqL K H a (ns.map V.int) ∨ SqT K H a (ns.map V.int)) ∧ 0 < ns.length ∧ Q (.int (bestI mx ns)) H
def nmBest (mx : Bool) : String := if mx then "max" else "min"
section
variable {X : Cx} {E : XK} {a : Expr} {pos p : Pos}
theorem c_best (mx : Bool) (hc : X.calm = true) : CallR X (.builtin (nmBest mx)) (rBest X.K mx) := by
  rintro pins s σ H vs us Q I r ⟨a, ns, rfl, hs, hne, q⟩
  have fin : ∀ (h' : Heap) (tk : Nat) (m : Int) (t' : Tok), (∀ b o, s.heap.get? b = some o → h'.get? b = some o) → m ∈ ns → (∀ y ∈ ns, if mx then y ≤ m else m ≤ y) → EP X pins σ Q (.int m t') { s with heap := h', toks := tk } := fun h' tk m t' hk h1 h2 => by
    rw [best_eq h1 h2] at q
    exact ⟨.int m, H, I.kept hk, ⟨_, rfl⟩, q⟩
  rw [Vals.ref1 r]
  cases mx with
  | true =>
    rcases hs with hs | hs
    · obtain ⟨its, rv, hl, _⟩ := I.list hs
      exact max_raw (I.ok.hd hc) hl.isList rv.ints hne fun h' tk m t' hk h1 h2 => fin h' tk m t' hk h1 (by simpa using h2)
    · obtain ⟨its, rv, hl, _⟩ := I.tuple hs
      exact SQ.maxT_raw (I.ok.hd hc) hl rv.ints hne fun h' tk m t' hk h1 h2 => fin h' tk m t' hk h1 (by simpa using h2)
  | false =>
    rcases hs with hs | hs
    · obtain ⟨its, rv, hl, _⟩ := I.list hs
      exact min_raw (I.ok.hd hc) hl.isList rv.ints hne fun h' tk m t' hk h1 h2 => fin h' tk m t' hk h1 (by simpa using h2)
    · obtain ⟨its, rv, hl, _⟩ := I.tuple hs
      exact SQ.minT_raw (I.ok.hd hc) hl rv.ints hne fun h' tk m t' hk h1 h2 => fin h' tk m t' hk h1 (by simpa using h2)
def eBest (mx : Bool) (ta : M VD) : M VD := do let x ← ta; let c ← peek x; let ds ← ofO (asSeq c); let ns ← ofO (intsOf ds); chk (decide (0 < ns.length)); pure (.dat (.int (bestI mx ns)))
theorem ints_of_dd {K : PySem.W.Frag} {H : Hp} : ∀ {vs : List V} {ds : List PyData} {ns : List Int}, DdAll K H vs ds → intsOf ds = some ns → vs = ns.map V.int
  | _, _, _, .nil, e => by cases e; rfl
  | _, _, ns, .cons (v := v) (vs := vs) (d := d) (ds := ds) h t, e => by
    cases d with
    | int i =>
      cases e2 : intsOf ds with
      | none => simp [intsOf, e2] at e
      | some r =>
        simp [intsOf, e2] at e
        subst e
        cases h
        rw [ints_of_dd t e2]; rfl
    | _ => simp [intsOf] at e
theorem best_lift {mx : Bool} {ta : M VD} {σ : L2.St} {H : Hp} {Q : VK} (q : liftE X.K X.wd X.mg E (eBest mx ta) σ H Q) : liftE X.K X.wd X.mg E ta σ H fun v H1 => rBest X.K mx [v] H1 Q := by
  obtain ⟨F, rs, S, G, m, p⟩ := q
  refine ⟨F, rs, S, G, m, (Post.seq p).mono fun v H1 ⟨rs1, S1, G1, x, u1, m1, r1, p1⟩ => ?_⟩
  obtain ⟨d, hd, p2⟩ := Post.peek p1
  obtain ⟨ds, hs, p3⟩ := Post.ofO p2
  obtain ⟨ns, hn, p4⟩ := Post.ofO p3
  obtain ⟨hb, p5⟩ := Post.chk p4
  obtain ⟨a, vs, rfl, hq, hda⟩ := m1.peekSeq r1 hd hs
  rw [ints_of_dd hda hn] at hq
  exact ⟨a, ns, rfl, hq, of_decide_eq_true hb, Post.ret m1 p5 (.int _)⟩
theorem d_min1 {ta : M VD} (hc : X.calm = true) (ha : PD X E a ta) (hm : X.mg "min" = none) (hg : Gl X "min" := by rfl) (na : starEach [a] X.env = (false, eval a X.env) :: starEach [] X.env := by rfl) (hpl : (backTo pos (starEach [] X.env)).any (·.1) = false := by rfl) :
    PD X E (.Call (.Name "min" p) [a] [] pos) (eBest false ta) := PE.weak (pe_callB (c_best false hc) hg hm (by decide +kernel) (pa_cons ha pa_nil na) (he := na) (hpl := hpl)) fun σ H Q q => best_lift q
theorem d_max1 {ta : M VD} (hc : X.calm = true) (ha : PD X E a ta) (hm : X.mg "max" = none) (hg : Gl X "max" := by rfl) (na : starEach [a] X.env = (false, eval a X.env) :: starEach [] X.env := by rfl) (hpl : (backTo pos (starEach [] X.env)).any (·.1) = false := by rfl) :
    PD X E (.Call (.Name "max" p) [a] [] pos) (eBest true ta) := PE.weak (pe_callB (c_best true hc) hg hm (by decide +kernel) (pa_cons ha pa_nil na) (he := na) (hpl := hpl)) fun σ H Q q => best_lift q
end
end DL
/-! DS3: for .. in reversed(tuple), range(i, j). -/
namespace DL
open PySem PySem.Spec L2
variable [TabT]
theorem src_rev {K : PySem.W.Frag} {G : Hp} {a : Addr} {vs : List V} {ds : List PyData} (hs : SqT K G a vs) (hd : DdAll K G vs ds) : SrcOk K (RT.ItvT K a vs.length) G ds.reverse where
  stop := fun H G1 s1 s2 => by
    show vs.length ≤ ds.reverse.length
    rw [List.length_reverse, DdAll.length hd]; exact Nat.le_refl _
  go := fun i H G1 hi s1 s2 => by
    have hl := DdAll.length hd
    rw [List.length_reverse] at hi
    have h2 : vs.length - 1 - i < vs.length := by omega
    exact ⟨by omega, vs, vs[vs.length - 1 - i], Same.sqt s2 (Same.sqt s1 hs), List.getElem?_eq_getElem h2⟩
  yld := fun i H G1 x H' hi s1 s2 y => by
    obtain ⟨e, y⟩ := y
    have hl := DdAll.length hd
    rw [List.length_reverse] at hi
    obtain ⟨d, h1, h2⟩ := DdAll.get hd (y vs (Same.sqt s2 (Same.sqt s1 hs)))
    refine ⟨d, ?_, .inl ⟨e, Dd.same s1 _ _ h2⟩⟩
    rw [List.getElem?_reverse (by omega), ← hl]; exact h1
def srcRev (t : M VD) : M (List PyData) := do
  let x ← t
  match x with
  | .dat (.tuple ds) => pure ds.reverse
  | _ => M.bad
def srcRng2 (ta tb : M VD) : M (List PyData) := do
  let x ← ta
  let y ← tb
  let i ← intV x
  let j ← intV y
  chk (decide (-(2 ^ 62) ≤ i ∧ i < 2 ^ 62 ∧ -(2 ^ 62) ≤ j ∧ j < 2 ^ 62))
  pure (rngD i (j - i).toNat)
section
variable {X : Cx} {E : XK} {tg : Expr} {p pos : Pos}
theorem i_rev {e : Expr} {t : M VD} (hm : X.mg "reversed" = none) (he : PD X E e t) (hg : Gl X "reversed" := by rfl) (hs : starEach [e] X.env = (false, eval e X.env) :: starEach [] X.env := by rfl) : PDI X E tg (.Call (.Name "reversed" p) [e] [] pos) (srcRev t) :=
  PI.weak (RT.pi_revA hg hm he hs) fun σ H R q => by
  obtain ⟨F, rs, S, G, m, p⟩ := q
  refine ⟨F, rs, S, G, m, (Post.seq p).mono fun v H1 ⟨rs1, S1, G1, x, u1, m1, r1, p1⟩ => ?_⟩
  cases x with
  | dat d =>
    cases d with
    | tuple ds =>
      cases (show Dd X.K G1 v (.tuple ds) from r1) with
      | @tup a xs _ hq ha =>
        exact ⟨a, xs, rfl, .inr ⟨(hq.same m1.sub).sqt, p1 _ H1 G1 rs1 Up.refl m1 (src_rev hq.sqt ha)⟩⟩
    | _ => exact p1.elim
  | _ => exact p1.elim
theorem i_rng2 {a b : Expr} {ta tb : M VD} (hg : Gl X "range") (hm : X.mg "range" = none) (ha : PD X E a ta) (hb : PD X E b tb) (hs : starEach [a, b] X.env = [(false, eval a X.env), (false, eval b X.env)] := by rfl) (hs2 : starEach [b] X.env = [(false, eval b X.env)] := by rfl) :
    PDI X E tg (.Call (.Name "range" p) [a, b] [] pos) (srcRng2 ta tb) :=
  PI.weak (pi_range2 hg hm (pa_cons ha (pa_cons hb pa_nil (by rw [hs2]; rfl)) (by rw [hs, hs2])) hs hs2) fun σ H R q => by
  obtain ⟨F, rs, S, G, m, p⟩ := q
  refine ⟨F, rs, S, G, m, (Post.seq p).mono fun v H1 ⟨rs1, S1, G1, x, u1, m1, r1, p1⟩ => ?_⟩
  refine ⟨F, rs1, S1, G1, m1, (Post.seq p1).mono fun v2 H2 ⟨rs2, S2, G2, y, u2, m2, r2, p2⟩ => ?_⟩
  obtain ⟨i, rfl, p3⟩ := Post.intV p2
  obtain ⟨j, rfl, p4⟩ := Post.intV p3
  obtain ⟨hb, p5⟩ := Post.chk p4
  have hb' := of_decide_eq_true hb
  cases (show Dd X.K G1 v (.int i) from r1)
  cases (show Dd X.K G2 v2 (.int j) from r2)
  exact ⟨i, j, rfl, ⟨hb'.1, hb'.2.1, hb'.2.2.1, hb'.2.2.2⟩, p5 (Itr i (j - i).toNat) H2 G2 rs2 Up.refl m2 (src_rng i (j - i).toNat)⟩
end
end DL
/-! DK1: defs with one keyword-only parameter that has a default. -/
namespace DG
open L2 PyProof.Rows PySem PySem.Spec
/-- the promise of a def, whatever the words of the call -/
structure FnW (P : Program) (w : World) (K : PySem.W.Frag) (mg : Str → Option Value) (base : Heap) (k : Nat) (f : Addr) (fd : FuncData) (ps : List Str) (sp : Sp) : Prop where
  len : ∀ xs H Q E, sp xs H Q E → xs.length = ps.length
  run : ∀ (A : Around) (outer : List Env) (s : Shared) (H : Hp) (args : Args) (us : List Value) (vs : List V) (Q : VK) (E : XK), A.guards = some [] → Room k A → Env0 P w K mg base A outer s H → BindsTo s fd args (ps.zip us) → Vals vs us → sp vs H Q E →
    codeAny (model P w) A (.call (.ref f) args) (CR (L2.CX P w) outer P w H s Q E) s
section
variable {P : Program} {w : World} {K : PySem.W.Frag} {mg : Str → Option Value} {base : Heap} {k : Nat} {f : Addr} {fd : FuncData} {N ps : List Str} {sp : Sp}
theorem FnW.of {x qual : Str} {st : Stmt} {dvs : List V} {kws : List (Str × V)} (Fn : FunD K x qual (defArgs st) (defBody st) (defScope st) dvs kws f fd) (Sc : FnScope N ps (defScope st)) (len : ∀ vs H Q E, sp vs H Q E → vs.length = ps.length)
    (hbody : ∀ (cdv : Value) (A : Around) (outer : List Env) (s : Shared) (H : Hp) (vs : List V) (Q : VK) (E : XK), A.guards = some [] → Room k (A.deeper (envOfC qual (defScope st) s.heap.objs.size f cdv)) → sp vs H Q E →
      ∃ t, PSs (cxOf (L2.CX P w) P w K mg base N qual (defScope st) f cdv A outer s H E) (defBody st) t ∧ t { nx := fun _ H' => Q .non H', rt := Q } (L2.start N vs) H) : FnW P w K mg base (k + 1) f fd ps sp := by
  obtain ⟨oc, od, dV, kV, doc, pm, an, cdv, ct, osl, rfl, lk, hcd, _, _⟩ := Fn.ex
  refine ⟨len, fun A outer s H args us vs Q E hg hr e0 hb r hsp => ?_⟩
  have up : ∀ {b : Addr} {o : Obj}, base.get? b = some o → s.heap.get? b = some o := fun {b o} e => (e0.bs b o e).1
  have KX : K.In s.heap := e0.mod.kin.keeps fun b o e => up e
  have kinds : ∀ y ∈ ps.zip us, (defScope st).names.lookup y.1 = some .local ∨ ((defScope st).names.lookup y.1 = some .cell ∧ ((cellsFrom (s.heap.objs.size + 1) (defScope st).names []).lookup y.1).isSome = true) := fun y hy =>
    (Sc.par y.1 (List.of_mem_zip (show (y.1, y.2) ∈ ps.zip us from hy)).1).imp id fun q => ⟨q, PySem.W.cellsFrom_some _ _ _ (.inl q)⟩
  refine codeAny_call_function hr.depth (KX _ _ lk) rfl Sc.co Sc.gen rfl (PySem.W.codeRec_of KX hcd) (hb _ _ _ _ (wpAny_newFunctionEnv_cells Sc.kind kinds fun env he s1 x => ?_))
  subst he
  refine ⟨(e0.mod.nolimit.keeps fun b o e => up e).keeps x.toInCall.keep, codeAny_func ?_⟩
  obtain ⟨t, ht, hq⟩ := hbody cdv A outer s H vs Q E hg (hr.deeper _) hsp
  exact wpAny_mono (ht.run [] s1 (L2.start N vs) H _ (inv_start Sc hr.hd e0 (len _ _ _ _ hsp) r x) hq) (fun fl s' hs => by have z := SP.call hs; cases fl <;> exact z) fun e s' hs => hs
end
section
variable {X : Cx} {k n : Nat} {f : Addr} {fd : FuncData} {ps ks : List Str} {sp : Sp} {E : XK} {x : Str} {p pos : Pos} {e : Expr} {es : List Expr} {kws : List Keyword} {t tk : TA} {g : List Value → List Value → List Value} {gV : List V → List V → List V}
theorem runW {pins : List (Addr × Obj)} {σ : L2.St} {H : Hp} {s : Shared} {Q : VK} {args : Args} {us : List Value} {vs : List V} (F : FnW X.prog X.w X.K X.mg X.base k f fd ps sp) (hg : X.A.guards = some []) (hr : Room k X.A) (hb : BindsTo s fd args (ps.zip us)) (hx : Passes (L2.CX X.prog X.w) X E)
    (I : Inv X pins σ H s) (r : Vals vs us) (h : sp vs H Q E) : wpAny (model X.prog X.w) X.A (call (.ref f) args.pos args.kw) (EP X pins σ Q) X.xe s := by
  refine wpAny_call (codeAny_mono (F.run X.A X.stack s H args us vs Q E hg hr I.env0 hb r h) fun res s' z => ?_)
  match res, z with
  | .error er, z => exact hx pins σ H s er s' I z
  | .ok (.ret _), z => exact I.after z
  | .ok .next, z => exact z.elim
  | .ok .brk, z => exact z.elim
  | .ok .cont, z => exact z.elim
/-- f(e, ..), the last parameter by default -/
theorem pe_callWd {ds : List Value} {dvs : List V} (F : FnW X.prog X.w X.K X.mg X.base k f fd ps sp) (hgd : X.A.guards = some []) (hr : Room k X.A) (hg : Gl X x) (hm : X.mg x = some (.ref f)) (hk : PySem.W.keepIn X.K (.ref f) = true) (hb : Binds X.K fd ps ds) (hd : Vals dvs ds) (hx : Passes (L2.CX X.prog X.w) X E) (ha : PA X (e :: es) t) (hdb : (x == ("__debug__" : Str)) = false := by decide) (he : starEach (e :: es) X.env = (false, eval e X.env) :: starEach es X.env := by rfl) (hpl : (backTo pos (starEach es X.env)).any (·.1) = false := by rfl) :
    PE X (.Call (.Name x p) (e :: es) [] pos) (fun σ H Q => t σ H fun vs H1 => sp (vs ++ dvs) H1 Q E) :=
  ⟨fun pins s σ H Q I h => wpAny_Call_Name_kw (ld_glob I hg hm (PySem.W.callWith_K (h₀ := X.base) I.ok.mod.kin hk (thn (ha.run pos pins s σ H _ I h) fun us s1 ⟨vs, H1, I1, r, q⟩ => ⟨I1.kIn, by
    have r2 := r.append hd
    have hl : (us ++ ds).length = ps.length := r2.length.symm.trans (F.len _ _ _ _ q)
    exact runW (args := ⟨us, []⟩) F hgd hr (hb s1 us I1.kIn hl) hx I1 r2 q⟩) he hpl) hdb)⟩
/-- f(e, .., k = v) -/
theorem pe_callWk (F : FnW X.prog X.w X.K X.mg X.base k f fd ps sp) (hgd : X.A.guards = some []) (hr : Room k X.A) (hg : Gl X x) (hm : X.mg x = some (.ref f)) (hk : PySem.W.keepIn X.K (.ref f) = true) (hb : KBn X.K fd ps n ks g gV) (hx : Passes (L2.CX X.prog X.w) X E) (ha : PA X (e :: es) t) (hkw : PK X kws tk) (hall : (backToKw pos (keywordEach kws X.env)).all (·.1.isSome) = true := by rfl) (hks : (backToKw pos (keywordEach kws X.env)).filterMap (·.1) = ks := by rfl) (hdb : (x == ("__debug__" : Str)) = false := by decide) (he : starEach (e :: es) X.env = (false, eval e X.env) :: starEach es X.env := by rfl) (hpl : ((backTo pos (starEach (e :: es) X.env)).any (·.1) || (backToKw pos (keywordEach kws X.env)).any (·.1.isNone)) = false := by rfl) : PE X (.Call (.Name x p) (e :: es) kws pos) (tCallN n ks.length sp gV E t tk) := by
  refine ⟨fun pins s σ H Q I h => wpAny_Call_Name_kw (ld_glob I hg hm ?_ hdb)⟩; refine PySem.W.callWith_KW (h₀ := X.base) I.ok.mod.kin hk hall (thn (ha.run pos pins s σ H _ I h) fun us s1 ⟨vs, H1, I1, r, q⟩ => ?_) hpl he; refine thn (hkw.run pos pins s1 σ H1 _ I1 q) fun ws s2 ⟨zs, H2, I2, rz, l1, l2, q2⟩ => ⟨I2.kIn, ?_⟩
  rw [hks]
  exact runW (args := ⟨us, ks.zip ws⟩) F hgd hr (hb.to s2 us ws I2.kIn (r.length.symm.trans l1) (rz.length.symm.trans l2)) hx I2 (hb.rel r rz) q2
end
end DG
namespace DL
open PySem PySem.Spec L2
variable [TabT]
section
variable {base : Heap} {P : Program} {w : World} {K : PySem.W.Frag} {mg : Str → Option Value}
theorem fn_okW {x qual : Str} {st : Stmt} {f : Addr} {fd : FuncData} {N ps : List Str} {k : Nat} {body : MS} {dvs : List V} {kws : List (Str × V)} (Fn : FunD K x qual (defArgs st) (defBody st) (defScope st) dvs kws f fd) (Sc : FnScope N ps (defScope st))
    (hbody : ∀ (cdv : Value) (A : Around) (outer : List Env) (s : Shared) (H : Hp) (E : XK), A.guards = some [] → Room k (A.deeper (PyProof.Rows.envOfC qual (defScope st) s.heap.objs.size f cdv)) →
      PDSs (cxOf (L2.CX P w) P w K mg base N qual (defScope st) f cdv A outer s H E) E (defBody st) body) : DG.FnW P w K mg base (k + 1) f fd ps (spD K w mg ps.length (runF N.length body)) := by
  refine DG.FnW.of Fn Sc (fun vs H Q E h => h.1) fun cdv A outer s H vs Q E hgd hr h => ?_
  refine ⟨_, hbody cdv A outer s H E hgd hr, ?_⟩
  obtain ⟨hl, F, rs, ce, G, xs, m, r, p⟩ := h
  have hxl := RdVs.length r
  refine ⟨F, rs, ⟨xs.map some ++ List.replicate (N.length - xs.length) none, ce⟩, G, m.slots (by simp [L2.start, hxl]) fun i x h => ?_, ?_⟩
  · by_cases hi : i < xs.length
    · rw [List.getElem?_append_left (by simpa using hi), List.getElem?_map] at h
      cases e : xs[i]? with
      | none => rw [e] at h; simp at h
      | some y =>
        rw [e] at h
        simp at h
        subst h
        obtain ⟨v, h1, h2⟩ := rdvs_get r e
        refine ⟨v, ?_, h2⟩
        unfold L2.start
        rw [List.getElem?_append_left (by simp; omega), List.getElem?_map, h1]
        rfl
    · rw [List.getElem?_append_right (by simp; omega)] at h
      rw [List.getElem?_replicate] at h
      split at h
      · cases h
      · cases h
  · unfold runF at p
    dsimp only at p
    have hn : rs.length = ce.length := m.rl
    cases e : body ⟨xs.map some ++ List.replicate (N.length - xs.length) none, ce⟩ with
    | ok q =>
      obtain ⟨f, S'⟩ := q
      rw [e] at p
      intro σ' H' G' rs' u' m'
      cases f with
      | nx => exact gcPost (x := .dat .none) u' m' .non hn p
      | rt x => exact fun v rv => gcPost u' m' rv hn p
      | bk => exact p.elim
      | ct => exact p.elim
    | exc x S' =>
      rw [e] at p
      intro C dx vs' H' G' rs' u' m' h1 h2 h3
      obtain ⟨⟨more, rfl⟩, sg⟩ := u'
      exact p C dx vs' H' G' rs ⟨⟨[], by simp⟩, sg⟩ (m'.pre hn) h1 h2 h3
    | bad => rw [e] at p; exact p.elim
end
/-- a def of n parameters and a keyword-only one, z, by default d -/
def FnkW (P : Program) (w : World) (K : PySem.W.Frag) (mg : Str → Option Value) (base : Heap) (x : Str) (n k : Nat) (den : Fd) (z : Str) (d : Int) : Prop :=
  ∃ (f : Addr) (fd : FuncData) (ps : List Str), DG.FnW P w K mg base k f fd ps (spD K w mg (n + 1) den) ∧ mg x = some (.ref f) ∧ PySem.W.keepIn K (.ref f) = true ∧ (∃ ds, Vals [V.int d] ds ∧ Binds K fd ps ds) ∧ KBn K fd ps n [z] (fun us ws => us ++ ws) (fun vs zs => vs ++ zs)
def eCallD (n : Nat) (den : Fd) (d : Int) (t : M (List VD)) : M VD := do
  let xs ← t
  chk (decide (xs.length = n))
  fun S => match den (xs ++ [.dat (.int d)]) ⟨[], S.ce⟩ with
    | .ok (x, S') => .ok (x, ⟨S.sl, S'.ce⟩)
    | .exc x S' => .exc x ⟨S.sl, S'.ce⟩
    | .bad => .bad
def eCallK (n : Nat) (den : Fd) (t : M (List VD)) (tk : M VD) : M VD := do
  let xs ← t
  let y ← tk
  chk (decide (xs.length = n))
  fun S => match den (xs ++ [y]) ⟨[], S.ce⟩ with
    | .ok (x, S') => .ok (x, ⟨S.sl, S'.ce⟩)
    | .exc x S' => .exc x ⟨S.sl, S'.ce⟩
    | .bad => .bad
theorem RdVs.snoc {K : PySem.W.Frag} {wl : Wd} {rs : List Addr} {G : Hp} : ∀ {xs : List VD} {vs : List V} {y : VD} {v : V}, RdVs K wl rs G xs vs → RdV K wl rs G y v → RdVs K wl rs G (xs ++ [y]) (vs ++ [v])
  | [], [], _, _, _, h => ⟨h, trivial⟩
  | _ :: _, _ :: _, _, _, h, k => ⟨h.1, RdVs.snoc h.2 k⟩
  | [], _ :: _, _, _, h, _ => h.elim
  | _ :: _, [], _, _, h, _ => h.elim
section
variable {X : Cx} {E : XK} {e v : Expr} {es : List Expr} {pos p kpos : Pos} {x z : Str}
theorem d_callD {n k j : Nat} {den : Fd} {d : Int} {t : M (List VD)} (h : FnkW X.prog X.w X.K X.mg X.base x n k den z d) (hgd : X.A.guards = some []) (hr : Room j X.A) (hp : Passes (L2.CX X.prog X.w) X E) (hn : NoSl den) (hg : Gl X x) (ht : PDA X E (e :: es) t) (hkj : k ≤ j := by decide)
    (hs : starEach (e :: es) X.env = (false, eval e X.env) :: starEach es X.env := by rfl) (hpl : (backTo pos (starEach es X.env)).any (·.1) = false := by rfl) (hd : (x == ("__debug__" : Str)) = false := by decide) :
    PD X E (.Call (.Name x p) (e :: es) [] pos) (eCallD n den d t) := by
  obtain ⟨f, fd, ps, F1, hm, hk, ⟨ds, hv, hb⟩, _⟩ := h
  refine PE.weak (DG.pe_callWd F1 hgd (hr.mono hkj) hg hm hk hb hv hp ht (hdb := hd) (he := hs) (hpl := hpl)) fun σ H Q q => ?_
  obtain ⟨F, rs, S, G, m, p⟩ := q
  refine ⟨F, rs, S, G, m, (Post.seq p).mono fun vs H1 ⟨rs1, S1, G1, xs, u1, m1, r1, p1⟩ => ?_⟩
  obtain ⟨hl, p2⟩ := Post.chk p1
  have hl' := RdVs.length r1
  have hle := of_decide_eq_true hl
  refine ⟨by rw [List.length_append, ← hl', hle]; rfl, F, rs1, S1.ce, G1, xs ++ [.dat (.int d)], m1.cells, r1.snoc (show RdV X.K X.wd rs1 G1 (.dat (.int d)) (V.int d) from Dd.int d), ?_⟩
  exact callPost m1 p2 fun x S' e => hn _ _ _ _ e
theorem d_callK {n k j : Nat} {den : Fd} {d : Int} {t : M (List VD)} {tk : M VD} (h : FnkW X.prog X.w X.K X.mg X.base x n k den z d) (hgd : X.A.guards = some []) (hr : Room j X.A) (hp : Passes (L2.CX X.prog X.w) X E) (hn : NoSl den) (hg : Gl X x) (ht : PDA X E (e :: es) t) (hv : PD X E v tk) (hkj : k ≤ j := by decide)
    (hall : (backToKw pos (keywordEach [⟨some z, v, kpos⟩] X.env)).all (·.1.isSome) = true := by rfl) (hks : (backToKw pos (keywordEach [⟨some z, v, kpos⟩] X.env)).filterMap (·.1) = [z] := by rfl) (hd : (x == ("__debug__" : Str)) = false := by decide)
    (hs : starEach (e :: es) X.env = (false, eval e X.env) :: starEach es X.env := by rfl) (hpl : ((backTo pos (starEach (e :: es) X.env)).any (·.1) || (backToKw pos (keywordEach [⟨some z, v, kpos⟩] X.env)).any (·.1.isNone)) = false := by rfl) :
    PD X E (.Call (.Name x p) (e :: es) [⟨some z, v, kpos⟩] pos) (eCallK n den t tk) := by
  obtain ⟨f, fd, ps, F1, hm, hk, _, hb⟩ := h
  refine PE.weak (DG.pe_callWk F1 hgd (hr.mono hkj) hg hm hk hb hp ht (pk_cons hv pk_nil) (hall := hall) (hks := hks) (hdb := hd) (he := hs) (hpl := hpl)) fun σ H Q q => ?_
  obtain ⟨F, rs, S, G, m, p⟩ := q
  refine ⟨F, rs, S, G, m, (Post.seq p).mono fun vs H1 ⟨rs1, S1, G1, xs, u1, m1, r1, p1⟩ => ?_⟩
  refine ⟨F, rs1, S1, G1, m1, (Post.seq p1).mono fun y H2 ⟨rs2, S2, G2, yd, u2, m2, r2, p2⟩ => ?_⟩
  obtain ⟨hl, p3⟩ := Post.chk p2
  have hl' := RdVs.length r1
  have hle := of_decide_eq_true hl
  refine ⟨by rw [← hl', hle], rfl, by rw [List.length_append, ← hl', hle]; rfl, F, rs2, S2.ce, G2, xs ++ [yd], m2.cells, (r1.up u2).snoc r2, ?_⟩
  exact callPost m2 p3 fun x S' e => hn _ _ _ _ e
end
/-- what a call binds, from the binding of the very words -/
theorem FnkW.mk {P : Program} {w : World} {K : PySem.W.Frag} {mg : Str → Option Value} {base : Heap} {x qual : Str} {st : Stmt} {k : Nat} {den : Fd} {f : Addr} {fd : FuncData} {ps : List Str} {n : Nat} {z : Str} {d : Int} (Fn : FunD K x qual (defArgs st) (defBody st) (defScope st) [] [(z, .int d)] f fd) (F : DG.FnW P w K mg base k f fd ps (spD K w mg (n + 1) den)) (hl : ps.length = n + 1) (hm : mg x = some (.ref f))
    (h1 : ∀ (D : Addr) (doc pm : Value) (an : Option Addr) (cdv ct : Value) (us ks : List Value), us.length = n → ks.length = [((z, V.int d) : Str × V)].length → KwChain D (([((z, V.int d) : Str × V)].map (·.1)).zip ks) (bindArgs (PySem.W.fnOf x qual (defArgs st) (defBody st) (defScope st) .none (.ref D) doc pm an cdv ct) ⟨us, []⟩) (ps.zip (us ++ ks)))
    (h2 : ∀ (D : Addr) (doc pm : Value) (an : Option Addr) (cdv ct : Value) (us ws : List Value), us.length = n → ws.length = [z].length → bindArgs (PySem.W.fnOf x qual (defArgs st) (defBody st) (defScope st) .none (.ref D) doc pm an cdv ct) ⟨us, [z].zip ws⟩ = pure (ps.zip (us ++ ws))) :
    FnkW P w K mg base x n k den z d := by
  refine ⟨f, fd, ps, F, hm, Fn.kp, FunD.binds0 Fn n (by simp) (by simp [hl]) h1, ⟨fun s us ws X l1 l2 => ?_, fun r1 r2 => r1.append r2⟩⟩
  obtain ⟨oc, od, dV, kV, doc, pm, an, cdv, ct, osl, rfl, lk, hcd, hD, hK⟩ := Fn.ex; rcases hD with ⟨_, rfl⟩ | ⟨e, _⟩
  · rcases (hK) with e | ⟨D, rfl, hq⟩
    · cases e
    · exact BindsTo.of_eq (h2 D doc pm an cdv ct us ws l1 l2)
  · exact absurd rfl e
end DL
/-! LM1: x(lambda: ..), where x is: try: return [a()] / except C as e: return [tag, e.fld]. -/
namespace LM
open L2 LamX PyProof.Rows PySem PySem.Spec
section
variable {s s1 : Shared} {X : Cx} {pins : List (Addr × Obj)} {σ : L2.St} {H HZ : Hp}
/-- a(), in the def that got the lambda; nothing is being shown -/
theorem act_call {CXg : CXT} {Eg : XK} {Ng : List Str} {qg : Str} {sg : Scope} {g f c' : Addr} {cdg pm ctv : Value} {params : Arguments} {body : Expr} {scope : Scope} {k i : Nat} {a : Str} {pn : List (Addr × Obj)} {xe : Value → Shared → Prop} {E : XK} {tb : TE} {p1 p2 : Pos}
    (I : Inv X pins σ H s) (L : LamS X.env.scope scope) (hgd : X.A.guards = some []) (hf : s.heap.get? f = some (PySem.W.kla_obj "<lambda>" (X.env.qual ++ "<lambda>") params body scope (cloFrom X.env.cells scope.names []) pm c' ctv)) (hfn : H f = none) (hfr : f ∉ frs X.stack) (hbind : bindArgs (PySem.W.kla_fn "<lambda>" (X.env.qual ++ "<lambda>") params body scope (cloFrom X.env.cells scope.names []) pm (.ref c') ctv) ⟨[], []⟩ = pure [])
    (hx : Passes (L2.CX X.prog X.w) ((cxOf CXg X.prog X.w X.K X.mg X.base Ng qg sg g cdg X.A X.stack s H Eg).tr pn xe) E) (hr : Room (k + 1) (X.A.deeper (envOfC qg sg s.heap.objs.size g cdg)))
    (hbody : ∀ (A : Around) (outer : List Env) (s : Shared) (H : Hp), A.guards = some [] → Room k (A.deeper (lamEnv X scope s.heap.objs.size f c')) → PE (lamCx X A outer s H E scope f c') body tb) (hN : Ng[i]? = some a) (hv : Vis sg a) (hd : (a == ("__debug__" : Str)) = false := by decide) (hcd : (a == ("__classdict__" : Str)) = false := by decide) :
    PE ((cxOf CXg X.prog X.w X.K X.mg X.base Ng qg sg g cdg X.A X.stack s H Eg).tr pn xe) (.Call (.Name a p1) [] [] p2) (fun σZ HZ Q => σZ[i]? = some (some (.ref f)) ∧ HZ c' = some (CodeO c' (X.env.qual ++ "<lambda>")) ∧ tb σ HZ Q) := by
  refine ⟨fun pinsZ sZ σZ HZ Q IZ ⟨hs, hc, ht⟩ => ?_⟩
  refine wpAny_Call_Name_kw (thn ((pe_var (pos := p1) (i := i) hN hv hd hcd).run pinsZ sZ σZ HZ (fun v H1 => v = .ref f ∧ H1 = HZ) IZ ⟨.ref f, hs, rfl, rfl⟩) fun u s1 ⟨v, H1, I1, r1, ev, eH⟩ => ?_)
  subst ev; rw [eH] at I1; obtain rfl : u = Value.ref f := r1; have of1 : s1.heap.get? f = some (PySem.W.kla_obj "<lambda>" (X.env.qual ++ "<lambda>") params body scope (cloFrom X.env.cells scope.names []) pm c' ctv) := I1.base.keep f _ hf hfn hfr (fun z => nomatch (show f ∈ ([] : List Addr) from z)); refine PySem.W.callWith_F0 ⟨_, _, _, _, of1⟩ ?_; have un : Un (frs X.stack) [] H HZ s.heap s1.heap := I1.base; obtain ⟨⟨oc, vs, t, hoc, hdc, hvc⟩, _, _⟩ := I1.hok c' _ hc; have rc : codeAny (model X.prog X.w) (X.A.deeper (envOfC qg sg s.heap.objs.size g cdg)) (.call (.ref f) ⟨[], []⟩) (CR (L2.CX X.prog X.w) (envOfC qg sg s.heap.objs.size g cdg :: X.stack) X.prog X.w HZ s1 Q E) s1 := by
    refine PySem.W.kla_callFunE hr.depth of1 rfl L.co L.gen rfl ⟨c', oc, vs, t, rfl, hoc, hdc, hvc⟩ ?_; rw [hbind]; refine wpAny_pure (wpAny_newFunctionEnv (fun y hy => (L.own y hy).2) (fun y hy => absurd hy (by simp)) (fun h₁ hns hsb => ⟨I1.nolimit.fresh _ hsb, ?_⟩) L.kind); show codeAny _ _ (.expr body (lamEnv X scope s1.heap.objs.size f c')) _ _; have kp : ∀ b o, s1.heap.get? b = some o → h₁.get? b = some o := fun b o e => hsb.extBut b o (Nat.ne_of_lt (Heap.lt_size e)) (Heap.get?_push_of_some _ e); have J : Inv (lamCx X (X.A.deeper (envOfC qg sg s.heap.objs.size g cdg)) (envOfC qg sg s.heap.objs.size g cdg :: X.stack) s1 HZ E scope f c') [] σ HZ { s1 with heap := h₁, toks := s1.toks + ([] : List (Str × Value)).length } := lam_start2 I L I1.env0 hr.hd un hns kp
    refine PySem.W.kla_codeExpr (wpAny_mono ((hbody (X.A.deeper (envOfC qg sg s.heap.objs.size g cdg)) _ s1 HZ hgd (hr.deeper _)).run [] _ _ HZ Q J ht) (fun v s' ⟨w', H', J', rv, q⟩ => ?_) fun e s' hq => hq); exact ⟨w', H', J'.os, J'.bare, J'.base, J'.hok, rv, q⟩
  (refine wpAny_call (codeAny_mono rc fun r s' hq => ?_))
  match r, hq with
  | .error e, hq => exact hx pinsZ σZ HZ s1 e s' I1 hq
  | .ok (.ret u), hq => exact I1.after hq
  | .ok .next, hq => exact hq.elim
  | .ok .brk, hq => exact hq.elim
  | .ok .cont, hq => exact hq.elim
end
/-- the def's body -/
def outBody (a C en fld tag : Str) (j : Nat) (p1 p2 p3 p4 p5 p6 p7 p8 p9 p10 p11 p12 : Pos) : List Stmt :=
  [.Try [.Return (some (.List [.Call (.Name a p1) [] [] p2] p3)) p4] [.ExceptHandler (some (.Name C p5)) (some en) [.Return (some (.List [.Constant (.str tag) j p6, .Attribute (.Name en p7) fld p8] p9)) p10] p11] [] [] p12]
def tsO (Cc : Addr) (fld tag : Str) (a2 : Addr) (cls : Value) (d : Option Addr) : TS := fun D σ2 H2 => σ2[1]? = some (some (.ref a2)) ∧ cls = .ref Cc ∧ ∃ dx l v, d = some dx ∧ H2 dx = some (.xd l) ∧ l.lookup fld = some v ∧ ∀ p, H2 p = none → D.rt (.ref p) (upd H2 p (.lst [.str tag, v]))
def tOut (K : PySem.W.Frag) (T : List (Addr × Str)) (Cc : Addr) (fld tag : Str) (t : XK → TE) : TE := fun σ H Q => Tabs T H ∧ ∀ H1, ExtN H H1 → Tabs T H1 →
  t (fun cls d H' => ∀ σ' : L2.St, σ'.length = 2 → wAs K (.ref Cc) 1 (tsO Cc fld tag) (fun _ _ _ _ => False) { nx := fun _ H' => Q .non H', rt := Q } cls d σ' H') σ H1 fun v H' => 1 ≤ sizeLine ∧ ∀ p, H' p = none → Q (.ref p) (upd H' p (.lst [v]))
theorem psw {X : Cx} {st : Stmt} {t t' : TS} (h : PS X st t) (k : ∀ D σ H, t' D σ H → t D σ H) : PS X st t' := ⟨fun pins s σ H D I q => h.run pins s σ H D I (k _ _ _ q)⟩
theorem passes_two {X : Cx} {W : WX} (tk : Takes X W) (h2 : X.N.length = 2) : Passes (L2.CX X.prog X.w) X (fun cls d H => ∀ σ : L2.St, σ.length = 2 → W cls d σ H) := fun pins σ H s e s' I c =>
  tk e s' (XE.of_call I (fun cls d H' h => h σ (I.len.trans h2)) c)
section
variable {X : Cx}
theorem pe_out {T : List (Addr × Str)} {x a C en fld tag : Str} {g c P Cc : Addr} {st : Stmt} {fd : FuncData} {k j : Nat} {p1 p2 p3 p4 p5 p6 p7 p8 p9 p10 p11 p12 p lpos pos : Pos} {params : Arguments} {body : Expr} {scope : Scope} {t : XK → TE}
    (hg : Gl X x) (hm : X.mg x = some (.ref g)) (hk : PySem.W.keepIn X.K (.ref g) = true) (Fn : Fun X.K x x st g fd) (hb : L2.Binds X.K fd [a] []) (Sg : FnScope [a, en] [a] (defScope st)) (hva : Vis (defScope st) a) (hen : (defScope st).names.lookup en = some .local) (hbd : defBody st = outBody a C en fld tag j p1 p2 p3 p4 p5 p6 p7 p8 p9 p10 p11 p12)
    (hgC : (defScope st).names.lookup C = some .globalImplicit) (hmC : X.mg C = some (.ref Cc)) (hdC : (C == ("__debug__" : Str)) = false) (Tx : XfC X.K Cc) (hno : PySem.W.findIn X.K (.ref Cc) fld = some none)
    (TB : TabB X.base X.mg c P) (hcode : X.env.code = .ref c) (hmT : (P, X.env.qual ++ "<lambda>") ∈ T) (hu : ∀ p ∈ T, p.1 = P → p.2 = X.env.qual ++ "<lambda>") (hgd : X.A.guards = some []) (hr : Room (k + 2) X.A) (L : LamS X.env.scope scope) (hdef : defaultsOf params X.env = ([], [])) (hbind : ∀ (q : Str) (cl : List (Str × Addr)) (pm cv ctv : Value), bindArgs (PySem.W.kla_fn "<lambda>" q params body scope cl pm cv ctv) ⟨[], []⟩ = pure [])
    (hbody : ∀ (A : Around) (outer : List Env) (s : Shared) (H : Hp) (E : XK) (f c' : Addr), A.guards = some [] → Room k (A.deeper (lamEnv X scope s.heap.objs.size f c')) → PE (lamCx X A outer s H E scope f c') body (t E))
    (hfa : attributeBase (.Name en p7) fld (default : Env) (eval (.Name en p7) (default : Env)) = eval (.Name en p7) (default : Env) := by rfl)
    (hdb : (x == ("__debug__" : Str)) = false := by decide) (hd : (a == ("__debug__" : Str)) = false := by decide) (hcd : (a == ("__classdict__" : Str)) = false := by decide) (hde : (en == ("__debug__" : Str)) = false := by decide) (hcde : (en == ("__classdict__" : Str)) = false := by decide) :
    PE X (.Call (.Name x p) [.Lambda params body scope lpos] [] pos) (tOut X.K T Cc fld tag t) := by
  refine ⟨fun pins s σ H Q I ⟨hT, h⟩ => wpAny_Call_Name_kw (ld_glob I hg hm ?_ hdb)⟩; refine PySem.W.callWith_K (h₀ := X.base) I.ok.mod.kin hk ?_ (by rfl) (by rfl); show wpAny _ _ (spliced ((false, eval (.Lambda params body scope lpos) X.env) :: backTo pos (starEach [] X.env))) _ _ s; refine Calls.spliced_cons (lam_make2 I TB hcode hmT hu hT hdef (L.has I.ok) fun f c' pm' ctv H1 s' I1 eN T1 hf hfn hfr hco => ?_); refine Calls.spliced_nil ⟨I1.kIn, ?_⟩
  obtain ⟨oc, od, kV, doc, pm, an, cdv, ct, osl, rfl, lk, hcd'⟩ := Fn.ex
  have h1 := h H1 eN T1
  have rc : codeAny (model X.prog X.w) X.A (.call (.ref g) ⟨[.ref f], []⟩) (CR (L2.CX X.prog X.w) X.stack X.prog X.w H1 s' Q (fun _ _ _ => False)) s' := by
    refine run_ofS (CX := L2.CX X.prog X.w) (N := [a, en]) (ps := [a]) (us := [.ref f]) (vs := [.ref f]) lk hcd' Sg hr I1.env0 (hb s' [.ref f] I1.kIn rfl) (.cons rfl .nil) rfl fun hr' => ?_
    rw [hbd]
    have hgl : Gl (cxOf (L2.CX X.prog X.w) X.prog X.w X.K X.mg X.base [a, en] x (defScope st) g cdv X.A X.stack s' H1 (fun _ _ _ => False)) C := hgC
    refine ⟨_, pss_one (ps_try_as (X := cxOf (L2.CX X.prog X.w) X.prog X.w X.K X.mg X.base [a, en] x (defScope st) g cdv X.A X.stack s' H1 (fun _ _ _ => False)) (i := 1) (c := .ref Cc) (Wout := fun _ _ _ _ => False)
      (tb := fun W D σZ HZ => σZ[0]? = some (some (.ref f)) ∧ HZ c' = some (CodeO c' (X.env.qual ++ "<lambda>")) ∧ t (fun cls d H' => ∀ σ' : L2.St, σ'.length = 2 → W cls d σ' H') σ HZ fun v H' => 1 ≤ sizeLine ∧ ∀ p, H' p = none → D.rt (.ref p) (upd H' p (.lst [v])))
      (ts := tsO Cc fld tag)
      rfl rfl Sg.nd rfl hen ⟨hgl, hdC, .inl hmC⟩ LamX.takes0 (fun W pn xe tk po => ?_) (fun a2 oe cls d pn hz hf2 => ?_)), ?_⟩
    · refine pss_one (psw (ps_ret (pe_lst (pa_cons (act_call (i := 0) I1 L hgd hf hfn hfr (hbind _ _ _ _ _) (passes_two (X := (cxOf (L2.CX X.prog X.w) X.prog X.w X.K X.mg X.base [a, en] x (defScope st) g cdv X.A X.stack s' H1 (fun _ _ _ => False)).tr pn xe) tk rfl) hr' (fun A outer s H hg2 hr2 => hbody A outer s H _ f c' hg2 hr2) rfl hva hd hcd) pa_nil rfl))) fun D σZ HZ q => ?_)
      obtain ⟨q1, q2, q3⟩ := q
      exact ⟨q1, q2, q3⟩
    · refine pss_one (psw (ps_ret (pe_lst (pa_cons pe_str (pa_cons (pe_xf Tx hno hz hf2 (pe_var (i := 1) rfl (.inl hen) hde hcde)) pa_nil rfl) rfl))) fun D σ2 H2 q => ?_)
      obtain ⟨q1, q2, dx, l, v, q3, q4, q5, q6⟩ := q
      exact ⟨.ref a2, q1, rfl, q2, dx, l, v, q3, q4, q5, (show 2 ≤ sizeLine by decide), q6⟩
    · exact ⟨rfl, hco, h1⟩
  (refine wpAny_call (codeAny_mono rc fun r s2 hq => ?_))
  match r, hq with
  | .error e, ⟨_, _, _, _, _, _, _, _, _, _, _, _, z⟩ => exact z.elim
  | .ok (.ret u), hq => exact I1.after hq
  | .ok .next, hq => exact hq.elim
  | .ok .brk, hq => exact hq.elim
  | .ok .cont, hq => exact hq.elim
end
end LM
/-! LM2: x(lambda: ..) over data. -/
namespace DL
open PySem PySem.Spec L2
variable [TabT]
section
variable {K : PySem.W.Frag} {wl : Wd} {F : Hp} {rs : List Addr} {S : DS} {σ : L2.St} {H H' G : Hp}
/-- tables were written, all else stays -/
theorem Md.lam (m : Md K wl F rs S σ H G) (e : LamX.ExtN H H') (t : LamX.Tabs TabT.T H') : Md K wl F rs S σ H' G where
  len := m.len
  sub := fun b u q => e b u (m.sub b u q) fun ps z => m.ntb b ps (by rw [q, z])
  frm := fun b u q => e b u (m.frm b u q) fun ps z => m.nft b ps (by rw [q, z])
  rl := m.rl
  nd := m.nd
  cel := fun j a c h1 h2 => by
    have k := m.cel j a c h1 h2
    cases c with
    | ls b ds =>
      cases b with
      | true => obtain ⟨f, g, vs, hv, hd⟩ := k; exact ⟨f, g, vs, e a _ hv (fun ps z => by cases z), hd⟩
      | false => exact k
    | dk kvs => obtain ⟨f, g, hv⟩ := k; exact ⟨f, g, e a _ hv (fun ps z => by cases z)⟩
    | si ns => obtain ⟨f, g, hv, hn⟩ := k; exact ⟨f, g, e a _ hv (fun ps z => by unfold SetO at z; cases z), hn⟩
  slot := m.slot
  ntb := m.ntb
  nft := m.nft
  tab := t
end
def eOut (cls fld tag : Str) (den : M VD) : M VD := fun S => match den S with
  | .ok (x, S') => match x with
    | .dat d => .ok (.rf S'.ce.length, ⟨S.sl, S'.ce ++ [.ls true [d]]⟩)
    | _ => .bad
  | .exc y S' => if y.cls = cls then (match y.fs.lookup fld with
    | some d => .ok (.rf S'.ce.length, ⟨S.sl, S'.ce ++ [.ls true [.str tag, d]]⟩)
    | none => .bad) else .bad
  | .bad => .bad
section
variable {X : Cx} {E : XK}
theorem out_lift {tb : List (Str × List Str)} {C : Str} {Cc : Addr} {ns : List Str} {fld tag : Str} {den : M VD} (hM : IsM X.K X.mg tb C Cc) (ht : tb.lookup C = some ns) {σ : L2.St} {H : Hp} {Q : VK} (q : liftE X.K X.wd X.mg E (eOut C fld tag den) σ H Q) :
    LM.tOut X.K TabT.T Cc fld tag (fun E => liftE X.K X.wd X.mg E den) σ H Q := by
  obtain ⟨F, rs, S, G, m, p⟩ := q
  refine ⟨m.tab, fun H1 eN T1 => ?_⟩
  have m1 := m.lam eN T1
  refine ⟨F, rs, S, G, m1, ?_⟩
  have back : ∀ {rs' : List Addr} {ce : List Cl} {H2 G2 : Hp}, Up rs G rs' G2 → Md X.K X.wd F rs' ⟨[], ce⟩ [] H2 G2 → Md X.K X.wd F rs' ⟨S.sl, ce⟩ σ H2 G2 := fun u m2 => m2.slots m1.len fun i x h => by
    obtain ⟨v, h2, h3⟩ := m1.slot i x h
    exact ⟨v, h2, RdV.up u h3⟩
  unfold eOut at p
  cases e : den S with
  | bad => rw [e] at p; exact p.elim
  | ok r =>
    rw [e] at p
    obtain ⟨x, S'⟩ := r
    dsimp only at p
    cases x with
    | dat d =>
      intro v H' G' rs' u m' r
      refine ⟨by decide, fun z hz => p (.ref z) _ G' (rs' ++ [z]) ⟨?_, u.2⟩ (back ?_ (m'.cell hz (.cons r .nil)).cells) ⟨z, ?_, rfl⟩⟩
      · obtain ⟨more, rfl⟩ := u.1
        exact ⟨more ++ [z], by simp⟩
      · obtain ⟨more, rfl⟩ := u.1
        exact ⟨⟨more ++ [z], by simp⟩, u.2⟩
      · rw [← m'.rl]; simp
    | _ => exact p.elim
  | exc y S' =>
    rw [e] at p
    dsimp only at p
    by_cases hc : y.cls = C
    · rw [if_pos hc] at p
      cases el : y.fs.lookup fld with
      | none => rw [el] at p; exact p.elim
      | some d =>
        rw [el] at p
        dsimp only at p
        intro C' dx vs H' G' rs' u m' hm hx hv σ' hl
        have eC : C' = Cc := by
          have z := hM.1
          rw [← hc, hm] at z
          injection z with z; injection z
        subst eC
        obtain ⟨w, hw, rw'⟩ := zip_lookup hv el
        refine ⟨true, ?_, fun _ a ha => ⟨?_, rfl, dx, _, w, rfl, hx, hw, fun z hz => ?_⟩, fun h => by cases h⟩
        · have z := hM.2 y.cls ns C' (by rw [hc]; exact ht) hm
          rw [z, decide_eq_true hc]
        · rw [List.getElem?_set_self (by rw [hl]; decide)]
        · refine p (.ref z) _ G' (rs' ++ [z]) ⟨?_, u.2⟩ (back ?_ (m'.cell hz (.cons (.str _) (.cons rw' .nil))).cells) ⟨z, ?_, rfl⟩
          · obtain ⟨more, rfl⟩ := u.1
            exact ⟨more ++ [z], by simp⟩
          · obtain ⟨more, rfl⟩ := u.1
            exact ⟨⟨more ++ [z], by simp⟩, u.2⟩
          · have := m'.rl
            simp only at this
            rw [← this]; simp
    · rw [if_neg hc] at p; exact p.elim
end
end DL
/-! LM3: defs that make lambdas; a lambda handed to a def that tells what comes. -/
namespace DG
open L2 PyProof.Rows PySem PySem.Spec
/-- a def whose code object is known -/
structure FunC (K : PySem.W.Frag) (x qual : Str) (st : Stmt) (f : Addr) (fd : FuncData) (c : Addr) : Prop where
  ex : ∃ (oc : Value) (od : Option Addr) (kV doc pm : Value) (an : Option Addr) (ct : Value) (osl : Array (Option Value)),
    fd = PySem.W.fnOf x qual (defArgs st) (defBody st) (defScope st) .none kV doc pm an (.ref c) ct ∧ K.lookup f = some ⟨oc, od, .func fd, osl⟩ ∧ PySem.W.codeIn K (.ref c) qual = true
  kp : (PySem.W.keepIn K (.ref f) = true)
section
variable {P : Program} {w : World} {K : PySem.W.Frag} {mg : Str → Option Value} {base : Heap} {k : Nat} {f : Addr} {fd : FuncData} {N ps : List Str} {sp : Sp}
theorem FnG.ofC {x qual : Str} {st : Stmt} {c : Addr} (Fn : FunC K x qual st f fd c) (Sc : FnScope N ps (defScope st)) (len : ∀ vs H Q E, sp vs H Q E → vs.length = ps.length)
    (hbody : ∀ (A : Around) (outer : List Env) (s : Shared) (H : Hp) (vs : List V) (Q : VK) (E : XK), A.guards = some [] → Room k (A.deeper (envOfC qual (defScope st) s.heap.objs.size f (.ref c))) → sp vs H Q E →
      ∃ t, PSs (cxOf (L2.CX P w) P w K mg base N qual (defScope st) f (.ref c) A outer s H E) (defBody st) t ∧ t { nx := fun _ H' => Q .non H', rt := Q } (L2.start N vs) H) : FnG P w K mg base (k + 1) f fd ps sp := by
  obtain ⟨oc, od, kV, doc, pm, an, ct, osl, rfl, lk, hcd⟩ := Fn.ex
  refine ⟨len, fun A outer s H us vs Q E hg hr e0 hb r hsp => ?_⟩
  have up : ∀ {b : Addr} {o : Obj}, base.get? b = some o → s.heap.get? b = some o := fun {b o} e => (e0.bs b o e).1
  have KX : K.In s.heap := e0.mod.kin.keeps fun b o e => up e
  have kinds : ∀ y ∈ ps.zip us, (defScope st).names.lookup y.1 = some .local ∨ ((defScope st).names.lookup y.1 = some .cell ∧ ((cellsFrom (s.heap.objs.size + 1) (defScope st).names []).lookup y.1).isSome = true) := fun y hy =>
    (Sc.par y.1 (List.of_mem_zip (show (y.1, y.2) ∈ ps.zip us from hy)).1).imp id fun q => ⟨q, PySem.W.cellsFrom_some _ _ _ (.inl q)⟩
  refine codeAny_call_function hr.depth (KX _ _ lk) rfl Sc.co Sc.gen rfl (PySem.W.codeRec_of KX hcd) (hb _ _ _ _ (wpAny_newFunctionEnv_cells Sc.kind kinds fun env he s1 x => ?_))
  subst he
  refine ⟨(e0.mod.nolimit.keeps fun b o e => up e).keeps x.toInCall.keep, codeAny_func ?_⟩
  obtain ⟨t, ht, hq⟩ := hbody A outer s H vs Q E hg (hr.deeper _) hsp
  exact wpAny_mono (ht.run [] s1 (L2.start N vs) H _ (inv_start Sc hr.hd e0 (len _ _ _ _ hsp) r x) hq) (fun fl s' hs => by have z := SP.call hs; cases fl <;> exact z) fun e s' hs => hs
end
end DG
namespace DL
open PySem PySem.Spec L2
variable [TabT]
section
variable {base : Heap} {P : Program} {w : World} {K : PySem.W.Frag} {mg : Str → Option Value}
theorem fn_okC {x qual : Str} {st : Stmt} {f c : Addr} {fd : FuncData} {N ps : List Str} {k : Nat} {body : MS} (Fn : DG.FunC K x qual st f fd c) (Sc : FnScope N ps (defScope st))
    (hbody : ∀ (A : Around) (outer : List Env) (s : Shared) (H : Hp) (E : XK), A.guards = some [] → Room k (A.deeper (PyProof.Rows.envOfC qual (defScope st) s.heap.objs.size f (.ref c))) →
      PDSs (cxOf (L2.CX P w) P w K mg base N qual (defScope st) f (.ref c) A outer s H E) E (defBody st) body) : DG.FnG P w K mg base (k + 1) f fd ps (spD K w mg ps.length (runF N.length body)) := by
  refine DG.FnG.ofC Fn Sc (fun vs H Q E h => h.1) fun A outer s H vs Q E hgd hr h => ?_
  refine ⟨_, hbody A outer s H E hgd hr, ?_⟩
  obtain ⟨hl, F, rs, ce, G, xs, m, r, p⟩ := h
  have hxl := RdVs.length r
  refine ⟨F, rs, ⟨xs.map some ++ List.replicate (N.length - xs.length) none, ce⟩, G, m.slots (by simp [L2.start, hxl]) fun i x h => ?_, ?_⟩
  · by_cases hi : i < xs.length
    · rw [List.getElem?_append_left (by simpa using hi), List.getElem?_map] at h
      cases e : xs[i]? with
      | none => rw [e] at h; simp at h
      | some y =>
        rw [e] at h
        simp at h
        subst h
        obtain ⟨v, h1, h2⟩ := rdvs_get r e
        refine ⟨v, ?_, h2⟩
        unfold L2.start
        rw [List.getElem?_append_left (by simp; omega), List.getElem?_map, h1]
        rfl
    · rw [List.getElem?_append_right (by simp; omega)] at h
      rw [List.getElem?_replicate] at h
      split at h
      · cases h
      · cases h
  · unfold runF at p
    dsimp only at p
    have hn : rs.length = ce.length := m.rl
    cases e : body ⟨xs.map some ++ List.replicate (N.length - xs.length) none, ce⟩ with
    | ok q =>
      obtain ⟨f, S'⟩ := q
      rw [e] at p
      intro σ' H' G' rs' u' m'
      cases f with
      | nx => exact gcPost (x := .dat .none) u' m' .non hn p
      | rt x => exact fun v rv => gcPost u' m' rv hn p
      | bk => exact p.elim
      | ct => exact p.elim
    | exc x S' =>
      rw [e] at p
      intro C dx vs' H' G' rs' u' m' h1 h2 h3
      obtain ⟨⟨more, rfl⟩, sg⟩ := u'
      exact p C dx vs' H' G' rs ⟨⟨[], by simp⟩, sg⟩ (m'.pre hn) h1 h2 h3
    | bad => rw [e] at p; exact p.elim
end
/-- the name of the code objects of a def's lambdas -/
def lamQ (x : Str) : Str := (x ++ ".<locals>.") ++ "<lambda>"
/-- the table of the code object at c -/
def LamAt (base : Heap) (mg : Str → Option Value) (c : Addr) (q : Str) : Prop := ∃ P, LamX.TabB base mg c P ∧ (P, q) ∈ TabT.T ∧ ∀ p ∈ TabT.T, p.1 = P → p.2 = q
/-- a def that calls what it gets, and tells what comes or what the exception keeps -/
structure OutFn (K : PySem.W.Frag) (mg : Str → Option Value) (x a C en fld tag : Str) : Prop where
  ex : ∃ (g : Addr) (st : Stmt) (fd : FuncData) (j : Nat) (p1 p2 p3 p4 p5 p6 p7 p8 p9 p10 p11 p12 : Pos), mg x = some (.ref g) ∧ PySem.W.keepIn K (.ref g) = true ∧ Fun K x x st g fd ∧ L2.Binds K fd [a] [] ∧ FnScope [a, en] [a] (defScope st) ∧ Vis (defScope st) a ∧ (defScope st).names.lookup en = some .local ∧
    defBody st = LM.outBody a C en fld tag j p1 p2 p3 p4 p5 p6 p7 p8 p9 p10 p11 p12 ∧ (defScope st).names.lookup C = some .globalImplicit ∧ attributeBase (.Name en p7) fld (default : Env) (eval (.Name en p7) (default : Env)) = eval (.Name en p7) (default : Env)
theorem passA {X : Cx} {A : Around} {outer : List Env} {s : Shared} {H : Hp} {E : XK} {scope : Scope} {f c' : Addr} : Passes (L2.CX X.prog X.w) (LamX.lamCx X A outer s H E scope f c') E := passes_call (takes_of rfl rfl rfl rfl) fun _ _ _ _ h => h
section
variable {X : Cx} {E : XK}
theorem d_out {tb : List (Str × List Str)} {x a C en fld tag : Str} {c : Addr} {k j : Nat} {p lpos pos : Pos} {params : Arguments} {body : Expr} {scope : Scope} {den : M VD} {ns : List Str} (O : OutFn X.K X.mg x a C en fld tag) (hM : ∃ Cc, IsM X.K X.mg tb C Cc) (hT : ClsTb X.K X.mg tb) (LA : LamAt X.base X.mg c (X.env.qual ++ "<lambda>")) (hcode : X.env.code = .ref c)
    (hgd : X.A.guards = some []) (hr : Room j X.A)
    (hbody : ∀ (A : Around) (outer : List Env) (s : Shared) (H : Hp) (E : XK) (f c' : Addr), A.guards = some [] → Room k (A.deeper (LamX.lamEnv X scope s.heap.objs.size f c')) → Passes (L2.CX (LamX.lamCx X A outer s H E scope f c').prog (LamX.lamCx X A outer s H E scope f c').w) (LamX.lamCx X A outer s H E scope f c') E → PD (LamX.lamCx X A outer s H E scope f c') E body den)
    (ht : tb.lookup C = some ns := by rfl) (hf1 : fld ∈ ns := by decide) (hg : Gl X x := by rfl) (hkj : k + 2 ≤ j := by decide) (L : LamX.LamS X.env.scope scope := by exact LamX.lamS_by (by first | rfl | kernel_rfl)) (hdef : defaultsOf params X.env = ([], []) := by rfl)
    (hbind : ∀ (q : Str) (cl : List (Str × Addr)) (pm cv ctv : Value), bindArgs (PySem.W.kla_fn "<lambda>" q params body scope cl pm cv ctv) ⟨[], []⟩ = pure [] := by intro _ _ _ _ _; rfl)
    (hdb : (x == ("__debug__" : Str)) = false := by decide) (hd : (a == ("__debug__" : Str)) = false := by decide) (hcd : (a == ("__classdict__" : Str)) = false := by decide) (hde : (en == ("__debug__" : Str)) = false := by decide) (hcde : (en == ("__classdict__" : Str)) = false := by decide) (hdC : (C == ("__debug__" : Str)) = false := by decide) :
    PD X E (.Call (.Name x p) [.Lambda params body scope lpos] [] pos) (eOut C fld tag den) := by
  obtain ⟨g, st, fd, jj, p1, p2, p3, p4, p5, p6, p7, p8, p9, p10, p11, p12, hm, hk, Fn, hb, Sg, hva, hen, hbd, hgC, hfa⟩ := O.ex
  obtain ⟨Cc, hM⟩ := hM
  obtain ⟨P, TB, hmT, hu⟩ := LA
  obtain ⟨⟨B, nI, iI, bmB, eb, T⟩, hT'⟩ := hT.ok C ns Cc ht hM.1
  exact PE.weak (LM.pe_out (T := TabT.T) (Cc := Cc) (k := k) hg hm hk Fn hb Sg hva hen hbd hgC hM.1 hdC ⟨T.ga, T.gg, T.exC, T.dct⟩ (hT' fld hf1) TB hcode hmT hu hgd (hr.mono hkj) L hdef hbind (fun A outer s H E f c' g r => hbody A outer s H E f c' g r (passA (X := X))) (hfa := hfa) hdb hd hcd hde hcde) fun σ H Q q => out_lift hM ht q
end
end DL
/-! DK2: a, b = a list; x is None, whatever x is. -/
namespace DL
open PySem PySem.Spec L2
variable [TabT]
section
variable {X : Cx} {E : XK} {a b : Expr} {pos : Pos}
def gLstD (n : Nat) (gs : List PyData → M Unit) : VD → M Unit := fun x => do
  let c ← peek x
  match c with
  | .list ds => do chk (decide (ds.length = n)); gs ds
  | _ => M.bad
theorem PostU.peek {K : PySem.W.Frag} {wl : Wd} {F : Hp} {rs : List Addr} {G : Hp} {is : List Nat} {σ : L2.St} {S : DS} {x : VD} {g : PyData → M Unit} {Q : L2.St → Hp → Prop} (h : PostU K wl F rs G is σ ((DL.peek x >>= g) S) Q) : ∃ d, peekS S x = some d ∧ PostU K wl F rs G is σ (g d S) Q := by
  rw [M.bind_run] at h
  unfold DL.peek at h
  cases e : peekS S x with
  | none => rw [e] at h; exact h.elim
  | some d => rw [e] at h; exact ⟨d, rfl, h⟩
theorem g_lst {es : List Expr} {k n : Nat} {gs : List PyData → M Unit} {is : List Nat} (hc : X.calm = true) (h : PDGs X is es gs) (hn : (assignEach es X.env).length = n := by rfl) (hst : (assignEach es X.env).findIdx? (·.1) = none := by rfl) : PDG X is (.Tuple es k pos) (gLstD n gs) :=
  PG.weak (pg_lst hc h hn hst) fun v σ H Q q => by
  obtain ⟨F, rs, S, G, x, m, r, p⟩ := q
  obtain ⟨d, hd, p2⟩ := PostU.peek p
  cases d with
  | list ds =>
    obtain ⟨a, vs, rfl, hl, hda⟩ := m.peekL r hd
    dsimp only at p2
    rw [M.bind_run] at p2
    by_cases hlen : ds.length = n
    · unfold chk at p2
      rw [decide_eq_true hlen] at p2
      exact ⟨a, vs, rfl, .inl hl, (DdAll.length hda).trans hlen, F, rs, S, G, ds, m, hda, p2⟩
    · unfold chk at p2
      rw [decide_eq_false hlen] at p2
      exact p2.elim
  | _ => exact p2.elim
/-- is None, is not None -/
def noneV (x : VD) : M Bool := match x with
  | .dat d => pure (isN d)
  | .rf _ => pure false
  | _ => M.bad
def eIsN (f : Bool → Bool) (ta : M VD) : M VD := do let x ← ta; let b ← noneV x; pure (.dat (.bool (f b)))
theorem noneV_at {K : PySem.W.Frag} {wl : Wd} {mg : Str → Option Value} {F : Hp} {rs : List Addr} {S : DS} {σ : L2.St} {G : Hp} {x : VD} {v : V} {g : Bool → M VD} {Q : VK} (r : RdV K wl rs G x v) (h : Post K wl mg E F σ (RdV K wl) rs G ((noneV x >>= g) S) Q) : Post K wl mg E F σ (RdV K wl) rs G (g (decide (v = .non)) S) Q := by
  rw [M.bind_run] at h
  cases x with
  | dat d => rw [isN_v (show Dd K G v d from r)]; exact h
  | rf j => obtain ⟨a, _, rfl⟩ := r; exact h
  | _ => exact h.elim
theorem isN_lift {f : Bool → Bool} {ta : M VD} {σ : L2.St} {H : Hp} {Q : VK} (q : liftE X.K X.wd X.mg E (eIsN f ta) σ H Q) :
    liftE X.K X.wd X.mg E ta σ H fun v H1 => Q (.bl (f (decide (v = .non)))) H1 := by
  obtain ⟨F, rs, S, G, m, p⟩ := q
  refine ⟨F, rs, S, G, m, (Post.seq p).mono fun v H1 ⟨rs1, S1, G1, x, u1, m1, r1, p1⟩ => ?_⟩
  exact Post.ret m1 (noneV_at r1 p1) (.bl _)
variable {j : Nat} {pos' : Pos}
theorem d_isN {ta : M VD} (ha : PD X E a ta) (hm : behindInMarks .Is (.Constant .none j pos') = false) : PD X E (.Compare a [.Is] [.Constant .none j pos'] pos) (eIsN id ta) :=
  PE.weak (pe_cmpR op_isN ha pe_non hm) fun σ H Q q => by
    obtain ⟨F, rs, S, G, m, p⟩ := isN_lift q
    exact ⟨F, rs, S, G, m, p.mono fun v H1 h => ⟨rfl, h⟩⟩
theorem d_isNot {ta : M VD} (ha : PD X E a ta) (hm : behindInMarks .IsNot (.Constant .none j pos') = false) : PD X E (.Compare a [.IsNot] [.Constant .none j pos'] pos) (eIsN not ta) :=
  PE.weak (pe_cmpR op_notN ha pe_non hm) fun σ H Q q => by
    obtain ⟨F, rs, S, G, m, p⟩ := isN_lift q
    exact ⟨F, rs, S, G, m, p.mono fun v H1 h => ⟨rfl, h⟩⟩
theorem dt_isN {ta : M VD} (ha : PD X E a ta) (hm : behindInMarks .Is (.Constant .none j pos') = false) : PDT X E (.Compare a [.Is] [.Constant .none j pos'] pos) (tOf (eIsN id ta)) :=
  PT.weak (pt_cmpR op_isN ha pe_non hm) fun σ H Q q => by
    obtain ⟨F, rs, S, G, m, p⟩ := isN_lift (tOf_lift q)
    exact ⟨F, rs, S, G, m, p.mono fun v H1 h => ⟨rfl, h⟩⟩
theorem dt_isNot {ta : M VD} (ha : PD X E a ta) (hm : behindInMarks .IsNot (.Constant .none j pos') = false) : PDT X E (.Compare a [.IsNot] [.Constant .none j pos'] pos) (tOf (eIsN not ta)) :=
  PT.weak (pt_cmpR op_notN ha pe_non hm) fun σ H Q q => by
    obtain ⟨F, rs, S, G, m, p⟩ := isN_lift (tOf_lift q)
    exact ⟨F, rs, S, G, m, p.mono fun v H1 h => ⟨rfl, h⟩⟩
end
end DL
/-! DC3: x = {k: v for ..} on one line. -/
namespace SQ
open L2 PyProof.Rows PySem PySem.Spec
section
variable {X : Cx}
theorem ps_setDc {i : Nat} {y : Str} {py : Pos} {kx vx tg iter : Expr} {ifs : List Expr} {scope : Scope} {own : List (Str × Nat)} {pos spos : Pos} {wi : TI} {g : TG} {tt : TT} {tk tv : TE} (hc : X.calm = true) (hN : X.N.Nodup) (hy : X.N[i]? = some y) (hyl : X.env.scope.names.lookup y = some .local)
    (hsw : swapsWith (.DictComp kx vx [⟨tg, iter, ifs, 0⟩] scope pos) (some (.Name y py)) spos.line X.env = pure true) (hi : PI X tg iter wi) (ok : BlkOk X.N X.env.scope scope own) (hg : ∀ (s : Shared) (H : Hp) (C : Addr) (cl : List (Str × Addr)) (fp : List Addr), PG (X.blk s H scope (compEnvC scope cl C X.env) fp) tg g) (ht : ∀ (s : Shared) (H : Hp) (C : Addr) (cl : List (Str × Addr)) (fp : List Addr), PTs (X.blk s H scope (compEnvC scope cl C X.env) fp) ifs tt) (hk : ∀ (s : Shared) (H : Hp) (C : Addr) (cl : List (Str × Addr)) (fp : List Addr), PE (X.blk s H scope (compEnvC scope cl C X.env) fp) kx tk) (he : ∀ (s : Shared) (H : Hp) (C : Addr) (cl : List (Str × Addr)) (fp : List Addr), PE (X.blk s H scope (compEnvC scope cl C X.env) fp) vx tv) (hs : ∀ x, foldedSetIterable iter X.env x = pure x := by intro _; rfl) :
    PS X (.Assign [.Name y py] (.DictComp kx vx [⟨tg, iter, ifs, 0⟩] scope pos) spos) (tAsg (tDc wi g tt tk tv (own.map (·.2))) (gName i)) := by
  refine ⟨fun pins s σ H D I h => ?_⟩; rw [exec_Assign_Name_used _ _ _ _ hsw]; refine wpAny_bind (wpAny_standAt (wpAny_bind ?_))
  show wpAny _ X.A (do let _ ← comprehension (.DictComp kx vx [⟨tg, iter, ifs, 0⟩] scope pos) scope X.env (firstIterPos [⟨tg, iter, ifs, 0⟩] pos) newDict false (eval iter X.env) (some (assign (.Name y py) X.env))) _ _ s
  replace h : tDc wi g tt tk tv (own.map (·.2)) σ H (fun x H1 => gName i x σ H1 D.nx) := h
  refine wpAny_bind (thn (dc_core (Qf := fun _ s' => SP X pins D .next s') hc hN I hi ok hg ht hk he hs h fun L C s' m H' I' q hn f => ?_) fun _ s' hq => wpAny_pure (wpAny_pure hq)); show wpAny _ _ (assign (.Name y py) X.env (.ref L)) _ _ _; refine wpAny_assign_Name (store_ok2 (v := V.ref L) I' hN hy (.inl hyl) rfl (fun s2 I2 ⟨a, sb, ha⟩ => ?_) (.inr hyl)); obtain ⟨f0, f1, f2, f3, f4, f5⟩ := f
  have haC : C ≠ a := ha.elim (fun z => by rw [z]; exact f1) fun z e => f4 y a z e.symm
  exact ⟨m, hn.sameBut sb haC, fun h3 sb3 => ⟨_, H', I2.turned (t' := s2.toks) (fun b o hb e => (sb3.2 b hb).trans e) f0 f1 f3 f4 f5, q⟩⟩
theorem swd_true {kx vx : Expr} {gs : List Comprehension} {scope : Scope} {pos py : Pos} {y : Str} {l : Nat} {env : Env} (hk : env.scope.kind = .function) (hy : env.scope.names.lookup y = some .local) (hl : (py.line == pos.line) = true)
    (ha : (scope.names.any fun (n, k) => n == y && (k == .local || k == .cell)) = false) : swapsWith (.DictComp kx vx gs scope pos) (some (.Name y py)) l env = pure true := by
  have ky : env.kindOf y = some .local := hy; have hb : env.blockKind = .function := by (unfold Env.blockKind; rw [hk]; rfl)
  unfold swapsWith; simp only [hb, ky, ha, Expr.pos, hl]
  rfl
end
end SQ
namespace DL
open PySem PySem.Spec L2
variable [TabT]
section
variable {X : Cx} {E : XK} {tg iter kx vx : Expr} {ifs : List Expr} {scope : Scope} {own : List (Str × Nat)} {pos spos py : Pos} {y : Str} {src : M (List PyData)} {g : VD → M Unit} {tt : M Bool} {tk tv : M VD} {is : List Nat}
theorem s_setDc (i : Nat) (hc : X.calm = true) (hN : X.N.Nodup) (ok : BlkOk X.N X.env.scope scope own) (his : ∀ i ∈ is, i ∈ own.map (·.2)) (hi : PDI X E tg iter src)
    (hg : ∀ (s : Shared) (H : Hp) (C : Addr) (cl : List (Str × Addr)) (fp : List Addr), PDG (X.blk s H scope (compEnvC scope cl C X.env) fp) is tg g)
    (ht : ∀ (s : Shared) (H : Hp) (C : Addr) (cl : List (Str × Addr)) (fp : List Addr), PTs (X.blk s H scope (compEnvC scope cl C X.env) fp) ifs (liftT X.K X.wd X.mg E0 tt))
    (hk : ∀ (s : Shared) (H : Hp) (C : Addr) (cl : List (Str × Addr)) (fp : List Addr), PD (X.blk s H scope (compEnvC scope cl C X.env) fp) E0 kx tk)
    (he : ∀ (s : Shared) (H : Hp) (C : Addr) (cl : List (Str × Addr)) (fp : List Addr), PD (X.blk s H scope (compEnvC scope cl C X.env) fp) E0 vx tv)
    (hy : X.N[i]? = some y := by rfl) (hyl : X.env.scope.names.lookup y = some .local := by rfl) (hsw : swapsWith (.DictComp kx vx [⟨tg, iter, ifs, 0⟩] scope pos) (some (.Name y py)) spos.line X.env = pure true := by exact SQ.swd_true rfl rfl rfl rfl) (hs : ∀ x, foldedSetIterable iter X.env x = pure x := by intro _; rfl) :
    PDS X E (.Assign [.Name y py] (.DictComp kx vx [⟨tg, iter, ifs, 0⟩] scope pos) spos) (sSet i (eDc (own.map (·.2)) src (stepK g tt tk tv))) :=
  s_setOf i (SQ.ps_setDc (g := liftG X.K X.wd is g) (tt := liftT X.K X.wd X.mg E0 tt) (tk := liftE X.K X.wd X.mg E0 tk) (tv := liftE X.K X.wd X.mg E0 tv) hc hN hy hyl hsw hi ok hg ht hk he hs) fun σ H Q q => dc_lift (fun _ _ _ _ h => h) his q
theorem s_setDcI (i : Nat) {z : Str} {j : Nat} {elts : List Expr} {kk : Nat} {tpos ypos apos cpos : Pos} (hc : X.calm = true) (hN : X.N.Nodup) (ok : BlkOk X.N X.env.scope scope own) (his : ∀ i ∈ is, i ∈ own.map (·.2)) (hv : PE X (.Name z ypos) (tVar j))
    (hg : ∀ (s : Shared) (H : Hp) (C : Addr) (cl : List (Str × Addr)) (fp : List Addr), PDG (X.blk s H scope (compEnvC scope cl C X.env) fp) is (.Tuple elts kk tpos) g)
    (ht : ∀ (s : Shared) (H : Hp) (C : Addr) (cl : List (Str × Addr)) (fp : List Addr), PTs (X.blk s H scope (compEnvC scope cl C X.env) fp) ifs (liftT X.K X.wd X.mg E0 tt))
    (hk : ∀ (s : Shared) (H : Hp) (C : Addr) (cl : List (Str × Addr)) (fp : List Addr), PD (X.blk s H scope (compEnvC scope cl C X.env) fp) E0 kx tk)
    (he : ∀ (s : Shared) (H : Hp) (C : Addr) (cl : List (Str × Addr)) (fp : List Addr), PD (X.blk s H scope (compEnvC scope cl C X.env) fp) E0 vx tv)
    (hy : X.N[i]? = some y := by rfl) (hyl : X.env.scope.names.lookup y = some .local := by rfl)
    (hsw : swapsWith (.DictComp kx vx [⟨.Tuple elts kk tpos, .Call (.Attribute (.Name z ypos) "items" apos) [] [] cpos, ifs, 0⟩] scope pos) (some (.Name y py)) spos.line X.env = pure true := by exact SQ.swd_true rfl rfl rfl rfl)
    (hs : ∀ x, foldedSetIterable (.Call (.Attribute (.Name z ypos) "items" apos) [] [] cpos) X.env x = pure x := by intro _; rfl) (hbase : attributeBase (.Name z ypos) "items" X.env (eval (.Name z ypos) X.env) = eval (.Name z ypos) X.env := by rfl) (hline : (apos.endLine == cpos.line) = true := by rfl) :
    PDS X E (.Assign [.Name y py] (.DictComp kx vx [⟨.Tuple elts kk tpos, .Call (.Attribute (.Name z ypos) "items" apos) [] [] cpos, ifs, 0⟩] scope pos) spos) (sSet i (eDcI (own.map (·.2)) j (stepK g tt tk tv))) :=
  PS.weak (ps_lock (SQ.ps_setDc (g := liftG X.K X.wd is g) (tt := liftT X.K X.wd X.mg E0 tt) (tk := liftE X.K X.wd X.mg E0 tk) (tv := liftE X.K X.wd X.mg E0 tv) hc hN hy hyl hsw (pi_itemsN hv hbase hline) ok hg ht hk he hs)) fun D σ H q => by
  obtain ⟨F, rs, S, G, m, p⟩ := q
  exact dci_lift (Q := fun v H' => D.nx (σ.set i (some v)) H') (fun _ _ _ _ h => h) his ⟨F, rs, S, G, m, (PostS.expr p).mono fun v H1 ⟨rs1, S1, G1, y, u1, m1, r1, p1⟩ => p1 _ H1 G1 rs1 Up.refl (m1.store r1)⟩
end
end DL
namespace K12
open PySem PySem.Spec L2 DL
def top (i : Nat) : Stmt := PySem.Challenge.pw_backasked_k12_by_hand_led_back.main.body.getD i (.Pass ⟨0, 0, 0, 0⟩)
def tb : List (Str × List Str) := [("LimitExceeded", ["limit"])]
section
variable [TabT] {base : Heap} {P : Program} {w : World} {K : PySem.W.Frag} {mg : Str → Option Value}
abbrev stset_of : Stmt := top 3
theorem scset_of : FnScope ["rows"] ["rows"] (defScope stset_of) := ⟨rfl, rfl, rfl, by decide +kernel, rfl, by decide +kernel, by decide +kernel⟩
def bset_of : MS :=
    (sRet (eTupOf (eSortA (eSetA (eVar 0)))))
def fset_of : Fd := runF 1 bset_of
theorem okset_of {f : Addr} {fd : FuncData} (Fn : Fun K "set_of" "set_of" stset_of f fd) (b_set : mg "set" = none) (b_sorted : mg "sorted" = none) (b_tuple : mg "tuple" = none) : DG.FnG P w K mg base 1 f fd ["rows"] (spD K w mg 1 fset_of) := by
    exact fn_ok Fn scset_of fun cdv A outer s H E hg hr => by
      have hN := scset_of.nd
      exact (s_one (s_ret (d_tupOf (d_sortA rfl (huB hr) (d_setA rfl (huB hr) (d_var 0 (pv 0)) b_set) b_sorted) b_tuple)))

abbrev stvariables_of : Stmt := top 6
theorem scvariables_of : FnScope ["part", "found", "_", "terms", "term"] ["part"] (defScope stvariables_of) := ⟨rfl, rfl, rfl, by decide +kernel, rfl, by decide +kernel, by decide +kernel⟩
def bvariables_of : MS :=
    (sSeq (sSet 1 (newL []))
    (sSeq (sFor (srcSeq (eIdx (eVar 0) (eC (.int 1)))) (gTupD 2 (gConsD (setSl 2) (gConsD (setSl 3) gNilD))) (sFor (srcSeq (eVar 3)) (setSl 4) (sIf (tAndD (tOf (eOp fLtD (eVar 4) (eC (.int 0)))) (tOf (eOp fNotIn (eVar 4) (eVar 1)))) (sExp (eApp (eVar 1) (eVar 4))) sNil)))
    (sRet (eTupOf (eVar 1)))))
def fvariables_of : Fd := runF 5 bvariables_of
theorem okvariables_of {f : Addr} {fd : FuncData} (Fn : Fun K "variables_of" "variables_of" stvariables_of f fd) (b_tuple : mg "tuple" = none) : DG.FnG P w K mg base 1 f fd ["part"] (spD K w mg 1 fvariables_of) := by
    exact fn_ok Fn scvariables_of fun cdv A outer s H E hg hr => by
      have hN := scvariables_of.nd
      exact (s_cons (s_set 1 hN (d_lstC (by rfl) (by decide)))
    (s_cons (s_for (passes_of rfl) rfl (i_seq (d_idx (d_var 0 (pv 0)) d_int)) (g_tup rfl (g_cons (g_name 2 hN) (g_cons (g_name 3 hN) g_nil))) (s_one (s_for (passes_of rfl) rfl (i_seq (d_var 3 (pv 3))) (g_name 4 hN) (s_one (s_if (PW.pt (dw_and (dt_cmp (o_ltD (huB hr)) (d_var 4 (pv 4)) d_int (nomark _)) (dw_and1 (dt_cmp (o_notIn (huB hr)) (d_var 4 (pv 4)) (d_var 1 (pv 1)) (by with_unfolding_all rfl))))) (s_one (s_exp (d_app (d_var 1 (pv 1)) (d_var 4 (pv 4))))) s_nil)))))
    (s_one (s_ret (d_tupOf (d_var 1 (pv 1)) b_tuple)))))

abbrev stquestion_of : Stmt := top 7
theorem scquestion_of : FnScope ["kinds", "kind", "many", "terms", "place"] ["kinds", "kind"] (defScope stquestion_of) := ⟨rfl, rfl, rfl, by decide +kernel, rfl, by decide +kernel, by decide +kernel⟩
def bquestion_of : MS :=
    (sSeq (sSet 2 (eIdx (eVar 0) (eVar 1)))
    (sSeq (sSet 3 (eTupOf (eLc [4] (srcRng (eVar 2)) (stepC (setSl 4) tYesD (eOp fSub (eC (.int (-1))) (eVar 4))))))
    (sRet (eTup (aCons (eVar 2) (aCons (eTup (aCons (eTup (aCons (eVar 3) (aCons (eTup (aCons (eTup (aCons (eVar 1) (aCons (eVar 3) (pure [])))) (pure []))) (aCons (eC (.tuple [])) (pure []))))) (pure []))) (pure [])))))))
def fquestion_of : Fd := runF 5 bquestion_of
theorem okquestion_of {f : Addr} {fd : FuncData} (Fn : Fun K "question_of" "question_of" stquestion_of f fd) (b_range : mg "range" = none) (b_tuple : mg "tuple" = none) : DG.FnG P w K mg base 1 f fd ["kinds", "kind"] (spD K w mg 2 fquestion_of) := by
    exact fn_ok Fn scquestion_of fun cdv A outer s H E hg hr => by
      have hN := scquestion_of.nd
      exact (s_cons (s_set 2 hN (d_idx (d_var 0 (pv 0)) (d_var 1 (pv 1))))
    (s_cons (s_set 3 hN (d_tupOf (d_lc (own := [("place", 4)]) rfl hN (blkOk_by (by rfl)) (by decide) (i_rng rfl b_range (d_var 2 (pv 2))) (fun _ _ _ _ _ => (g_name 4 hN)) (fun _ _ _ _ _ => ts_nil) (fun _ _ _ _ _ => (d_op o_sub (d_const _ (by rfl)) (d_var 4 (pv 4))))) b_tuple))
    (s_one (s_ret (d_tup (d_cons (d_var 2 (pv 2)) (d_cons (d_tup (d_cons (d_tup (d_cons (d_var 3 (pv 3)) (d_cons (d_tup (d_cons (d_tup (d_cons (d_var 1 (pv 1)) (d_cons (d_var 3 (pv 3)) d_nil (star_cons rfl)) (star_cons rfl))) d_nil (star_cons rfl))) (d_cons (d_const _ (by rfl)) d_nil (star_cons rfl)) (star_cons rfl)) (star_cons rfl))) d_nil (star_cons rfl))) d_nil (star_cons rfl)) (star_cons rfl)))))))

abbrev stput_in : Stmt := top 9
theorem scput_in : FnScope ["terms", "chosen", "term"] ["terms", "chosen"] (defScope stput_in) := ⟨rfl, rfl, rfl, by decide +kernel, rfl, by decide +kernel, by decide +kernel⟩
def bput_in : MS :=
    (sRet (eTupOf (eLc [2] (srcSeq (eVar 0)) (stepC (setSl 2) tYesD (eDGet2 (eVar 1) (eVar 2) (eVar 2))))))
def fput_in : Fd := runF 3 bput_in
theorem okput_in {f : Addr} {fd : FuncData} (Fn : Fun K "put_in" "put_in" stput_in f fd) (b_tuple : mg "tuple" = none) : DG.FnG P w K mg base 1 f fd ["terms", "chosen"] (spD K w mg 2 fput_in) := by
    exact fn_ok Fn scput_in fun cdv A outer s H E hg hr => by
      have hN := scput_in.nd
      exact (s_one (s_ret (d_tupOf (d_lc (own := [("term", 2)]) rfl hN (blkOk_by (by rfl)) (by decide) (i_seq (d_var 0 (pv 0))) (fun _ _ _ _ _ => (g_name 2 hN)) (fun _ _ _ _ _ => ts_nil) (fun _ _ _ _ _ => (d_dget2 (huB hr) (d_var 1 (pv 1)) (d_var 2 (pv 2)) (d_var 2 (pv 2)) ⟨rfl, rfl, rfl, rfl⟩))) b_tuple)))

abbrev statoms_with : Stmt := top 10
theorem scatoms_with : FnScope ["atoms", "chosen", "kind", "terms"] ["atoms", "chosen"] (defScope statoms_with) := ⟨rfl, rfl, rfl, by decide +kernel, rfl, by decide +kernel, by decide +kernel⟩
def batoms_with : MS :=
    (sRet (eTupOf (eLc [2, 3] (srcSeq (eVar 0)) (stepC (gTupD 2 (gConsD (setSl 2) (gConsD (setSl 3) gNilD))) tYesD (eTup (aCons (eVar 2) (aCons (eCall 2 fput_in (aCons (eVar 3) (aCons (eVar 1) (pure [])))) (pure []))))))))
def fatoms_with : Fd := runF 4 batoms_with
theorem okatoms_with {f : Addr} {fd : FuncData} (Fn : Fun K "atoms_with" "atoms_with" statoms_with f fd) (b_tuple : mg "tuple" = none) (cput_in : Fnk P w K mg base "put_in" 2 1 fput_in) : DG.FnG P w K mg base 2 f fd ["atoms", "chosen"] (spD K w mg 2 fatoms_with) := by
    exact fn_ok Fn scatoms_with fun cdv A outer s H E hg hr => by
      have hN := scatoms_with.nd
      exact (s_one (s_ret (d_tupOf (d_lc (own := [("kind", 2), ("terms", 3)]) rfl hN (blkOk_by (by rfl)) (by decide) (i_seq (d_var 0 (pv 0))) (fun _ _ _ _ _ => (g_tup rfl (g_cons (g_name 2 hN) (g_cons (g_name 3 hN) g_nil)))) (fun _ _ _ _ _ => ts_nil) (fun _ _ _ _ _ => (d_tup (d_cons (d_var 2 (pv 2)) (d_cons (d_call (Fnk.has cput_in hg hr passL) (runF_nosl _ _) rfl (d_cons (d_var 3 (pv 3)) (d_cons (d_var 1 (pv 1)) d_nil (star_cons rfl)) (star_cons rfl))) d_nil (star_cons rfl)) (star_cons rfl))))) b_tuple)))

abbrev stare_unlike : Stmt := top 11
theorem scare_unlike : FnScope ["pairs", "chosen", "one", "other"] ["pairs", "chosen"] (defScope stare_unlike) := ⟨rfl, rfl, rfl, by decide +kernel, rfl, by decide +kernel, by decide +kernel⟩
def bare_unlike : MS :=
    (sSeq (sFor (srcSeq (eVar 0)) (gTupD 2 (gConsD (setSl 2) (gConsD (setSl 3) gNilD))) (sIf (tOf (eOp fEq (eDGet2 (eVar 1) (eVar 2) (eVar 2)) (eDGet2 (eVar 1) (eVar 3) (eVar 3)))) (sRet (eC (.bool false))) sNil))
    (sRet (eC (.bool true))))
def fare_unlike : Fd := runF 4 bare_unlike
theorem okare_unlike {f : Addr} {fd : FuncData} (Fn : Fun K "are_unlike" "are_unlike" stare_unlike f fd) : DG.FnG P w K mg base 1 f fd ["pairs", "chosen"] (spD K w mg 2 fare_unlike) := by
    exact fn_ok Fn scare_unlike fun cdv A outer s H E hg hr => by
      have hN := scare_unlike.nd
      exact (s_cons (s_for (passes_of rfl) rfl (i_seq (d_var 0 (pv 0))) (g_tup rfl (g_cons (g_name 2 hN) (g_cons (g_name 3 hN) g_nil))) (s_one (s_if (dt_cmp (o_eq (huB hr)) (d_dget2 (huB hr) (d_var 1 (pv 1)) (d_var 2 (pv 2)) (d_var 2 (pv 2)) ⟨rfl, rfl, rfl, rfl⟩) (d_dget2 (huB hr) (d_var 1 (pv 1)) (d_var 3 (pv 3)) (d_var 3 (pv 3)) ⟨rfl, rfl, rfl, rfl⟩) (nomark _)) (s_one (s_ret d_bl)) s_nil)))
    (s_one (s_ret d_bl)))

abbrev stmoved : Stmt := top 15
theorem scmoved : FnScope ["terms", "room", "term"] ["terms", "room"] (defScope stmoved) := ⟨rfl, rfl, rfl, by decide +kernel, rfl, by decide +kernel, by decide +kernel⟩
def bmoved : MS :=
    (sRet (eTupOf (eLc [2] (srcSeq (eVar 0)) (stepC (setSl 2) tYesD (eIf (tOf (eOp fGe (eVar 2) (eC (.int 0)))) (eVar 2) (eOp fSub (eVar 2) (eVar 1)))))))
def fmoved : Fd := runF 3 bmoved
theorem okmoved {f : Addr} {fd : FuncData} (Fn : Fun K "moved" "moved" stmoved f fd) (b_tuple : mg "tuple" = none) : DG.FnG P w K mg base 1 f fd ["terms", "room"] (spD K w mg 2 fmoved) := by
    exact fn_ok Fn scmoved fun cdv A outer s H E hg hr => by
      have hN := scmoved.nd
      exact (s_one (s_ret (d_tupOf (d_lc (own := [("term", 2)]) rfl hN (blkOk_by (by rfl)) (by decide) (i_seq (d_var 0 (pv 0))) (fun _ _ _ _ _ => (g_name 2 hN)) (fun _ _ _ _ _ => ts_nil) (fun _ _ _ _ _ => (d_if (dt_cmp o_ge (d_var 2 (pv 2)) d_int (nomark _)) (d_var 2 (pv 2)) (d_op o_sub (d_var 2 (pv 2)) (d_var 1 (pv 1)))))) b_tuple)))

abbrev stitself : Stmt := top 16
theorem scitself : FnScope ["atom"] ["atom"] (defScope stitself) := ⟨rfl, rfl, rfl, by decide +kernel, rfl, by decide +kernel, by decide +kernel⟩
def bitself : MS :=
    (sRet (eTup (aCons (eC (.tuple [])) (aCons (eTup (aCons (eVar 0) (pure []))) (aCons (eC (.tuple [])) (pure []))))))
def fitself : Fd := runF 1 bitself
theorem okitself {f : Addr} {fd : FuncData} (Fn : Fun K "itself" "itself" stitself f fd) : DG.FnG P w K mg base 1 f fd ["atom"] (spD K w mg 1 fitself) := by
    exact fn_ok Fn scitself fun cdv A outer s H E hg hr => by
      have hN := scitself.nd
      exact (s_one (s_ret (d_tup (d_cons (d_const _ (by rfl)) (d_cons (d_tup (d_cons (d_var 0 (pv 0)) d_nil (star_cons rfl))) (d_cons (d_const _ (by rfl)) d_nil (star_cons rfl)) (star_cons rfl)) (star_cons rfl)))))

abbrev stcase_of_deed : Stmt := top 17
theorem sccase_of_deed : FnScope ["told", "atoms", "unlike", "asked", "room", "equations", "before", "kind", "terms", "pair"] ["told", "atoms", "unlike", "asked", "room"] (defScope stcase_of_deed) := ⟨rfl, rfl, rfl, by decide +kernel, rfl, by decide +kernel, by decide +kernel⟩
def bcase_of_deed : MS :=
    (sSeq (sSet 5 (eZipV false (eCall 2 fmoved (aCons (eVar 0) (aCons (eVar 4) (pure [])))) (eVar 3)))
    (sSeq (sSet 6 (eTupOf (eLc [7, 8] (srcSeq (eVar 1)) (stepC (gTupD 2 (gConsD (setSl 7) (gConsD (setSl 8) gNilD))) tYesD (eTup (aCons (eVar 7) (aCons (eCall 2 fmoved (aCons (eVar 8) (aCons (eVar 4) (pure [])))) (pure []))))))))
    (sRet (eTup (aCons (eVar 5) (aCons (eVar 6) (aCons (eTupOf (eLc [9] (srcSeq (eVar 2)) (stepC (setSl 9) tYesD (eCall 2 fmoved (aCons (eVar 9) (aCons (eVar 4) (pure []))))))) (pure []))))))))
def fcase_of_deed : Fd := runF 10 bcase_of_deed
theorem okcase_of_deed {f : Addr} {fd : FuncData} (Fn : Fun K "case_of_deed" "case_of_deed" stcase_of_deed f fd) (b_tuple : mg "tuple" = none) (b_zip : mg "zip" = none) (cmoved : Fnk P w K mg base "moved" 2 1 fmoved) : DG.FnG P w K mg base 2 f fd ["told", "atoms", "unlike", "asked", "room"] (spD K w mg 5 fcase_of_deed) := by
    exact fn_ok Fn sccase_of_deed fun cdv A outer s H E hg hr => by
      have hN := sccase_of_deed.nd
      exact (s_cons (s_set 5 hN (d_tupZip rfl (d_call (Fnk.has cmoved hg hr passB) (runF_nosl _ _) rfl (d_cons (d_var 0 (pv 0)) (d_cons (d_var 4 (pv 4)) d_nil (star_cons rfl)) (star_cons rfl))) (d_var 3 (pv 3)) b_tuple b_zip))
    (s_cons (s_set 6 hN (d_tupOf (d_lc (own := [("kind", 7), ("terms", 8)]) rfl hN (blkOk_by (by rfl)) (by decide) (i_seq (d_var 1 (pv 1))) (fun _ _ _ _ _ => (g_tup rfl (g_cons (g_name 7 hN) (g_cons (g_name 8 hN) g_nil)))) (fun _ _ _ _ _ => ts_nil) (fun _ _ _ _ _ => (d_tup (d_cons (d_var 7 (pv 7)) (d_cons (d_call (Fnk.has cmoved hg hr passL) (runF_nosl _ _) rfl (d_cons (d_var 8 (pv 8)) (d_cons (d_var 4 (pv 4)) d_nil (star_cons rfl)) (star_cons rfl))) d_nil (star_cons rfl)) (star_cons rfl))))) b_tuple))
    (s_one (s_ret (d_tup (d_cons (d_var 5 (pv 5)) (d_cons (d_var 6 (pv 6)) (d_cons (d_tupOf (d_lc (own := [("pair", 9)]) rfl hN (blkOk_by (by rfl)) (by decide) (i_seq (d_var 2 (pv 2))) (fun _ _ _ _ _ => (g_name 9 hN)) (fun _ _ _ _ _ => ts_nil) (fun _ _ _ _ _ => (d_call (Fnk.has cmoved hg hr passL) (runF_nosl _ _) rfl (d_cons (d_var 9 (pv 9)) (d_cons (d_var 4 (pv 4)) d_nil (star_cons rfl)) (star_cons rfl))))) b_tuple) d_nil (star_cons rfl)) (star_cons rfl)) (star_cons rfl)))))))

abbrev stcases_unmet : Stmt := top 18
theorem sccases_unmet : FnScope ["deed", "atom", "terms", "asked", "found", "pair", "place", "term", "equation"] ["deed", "atom"] (defScope stcases_unmet) := ⟨rfl, rfl, rfl, by decide +kernel, rfl, by decide +kernel, by decide +kernel⟩
def bcases_unmet : MS :=
    (sSeq (sSet 2 (eIdx (eIdx (eVar 0) (eC (.int 1))) (eC (.int 1))))
    (sSeq (sSet 3 (eIdx (eVar 1) (eC (.int 1))))
    (sSeq (sSet 4 (newL []))
    (sSeq (sFor (srcEnumT (eVar 2)) (gTupD 2 (gConsD (setSl 6) (gConsD (setSl 7) gNilD))) (sIf (tOf (eOp fGe (eVar 7) (eC (.int 0)))) (sExp (eApp (eVar 4) (eTup (aCons (eC (.tuple [])) (aCons (eTup (aCons (eVar 1) (pure []))) (aCons (eTup (aCons (eTup (aCons (eIdx (eVar 3) (eVar 6)) (aCons (eVar 7) (pure [])))) (pure []))) (pure []))))))) (sIf (tOf (eOp fLtD (eIndex (eVar 2) (eVar 7)) (eVar 6))) (sExp (eApp (eVar 4) (eTup (aCons (eC (.tuple [])) (aCons (eTup (aCons (eVar 1) (pure []))) (aCons (eTup (aCons (eTup (aCons (eIdx (eVar 3) (eVar 6)) (aCons (eIdx (eVar 3) (eIndex (eVar 2) (eVar 7))) (pure [])))) (pure []))) (pure []))))))) sNil)))
    (sSeq (sFor (srcSeq (eIdx (eVar 0) (eC (.int 2)))) (setSl 5) (sSeq (sSet 8 (eTupOf (eLc [7] (srcSeq (eVar 5)) (stepC (setSl 7) tYesD (eIf (tOf (eOp fGe (eVar 7) (eC (.int 0)))) (eVar 7) (eIdx (eVar 3) (eIndex (eVar 2) (eVar 7))))))))
    (sExp (eApp (eVar 4) (eTup (aCons (eTup (aCons (eVar 8) (pure []))) (aCons (eTup (aCons (eVar 1) (pure []))) (aCons (eC (.tuple [])) (pure [])))))))))
    (sRet (eTupOf (eVar 4))))))))
def fcases_unmet : Fd := runF 9 bcases_unmet
theorem okcases_unmet {f : Addr} {fd : FuncData} (Fn : Fun K "cases_unmet" "cases_unmet" stcases_unmet f fd) (b_enumerate : mg "enumerate" = none) (b_tuple : mg "tuple" = none) : DG.FnG P w K mg base 1 f fd ["deed", "atom"] (spD K w mg 2 fcases_unmet) := by
    exact fn_ok Fn sccases_unmet fun cdv A outer s H E hg hr => by
      have hN := sccases_unmet.nd
      exact (s_cons (s_set 2 hN (d_idx (d_idx (d_var 0 (pv 0)) d_int) d_int))
    (s_cons (s_set 3 hN (d_idx (d_var 1 (pv 1)) d_int))
    (s_cons (s_set 4 hN (d_lstC (by rfl) (by decide)))
    (s_cons (s_for (passes_of rfl) rfl (i_enumT b_enumerate (d_var 2 (pv 2))) (g_tup rfl (g_cons (g_name 6 hN) (g_cons (g_name 7 hN) g_nil))) (s_one (s_if (dt_cmp o_ge (d_var 7 (pv 7)) d_int (nomark _)) (s_one (s_exp (d_app (d_var 4 (pv 4)) (d_tup (d_cons (d_const _ (by rfl)) (d_cons (d_tup (d_cons (d_var 1 (pv 1)) d_nil (star_cons rfl))) (d_cons (d_tup (d_cons (d_tup (d_cons (d_idx (d_var 3 (pv 3)) (d_var 6 (pv 6))) (d_cons (d_var 7 (pv 7)) d_nil (star_cons rfl)) (star_cons rfl))) d_nil (star_cons rfl))) d_nil (star_cons rfl)) (star_cons rfl)) (star_cons rfl)))))) (s_one (s_if (dt_cmp (o_ltD (huB hr)) (d_index (d_var 2 (pv 2)) (d_var 7 (pv 7))) (d_var 6 (pv 6)) (nomark _)) (s_one (s_exp (d_app (d_var 4 (pv 4)) (d_tup (d_cons (d_const _ (by rfl)) (d_cons (d_tup (d_cons (d_var 1 (pv 1)) d_nil (star_cons rfl))) (d_cons (d_tup (d_cons (d_tup (d_cons (d_idx (d_var 3 (pv 3)) (d_var 6 (pv 6))) (d_cons (d_idx (d_var 3 (pv 3)) (d_index (d_var 2 (pv 2)) (d_var 7 (pv 7)))) d_nil (star_cons rfl)) (star_cons rfl))) d_nil (star_cons rfl))) d_nil (star_cons rfl)) (star_cons rfl)) (star_cons rfl)))))) s_nil)))))
    (s_cons (s_for (passes_of rfl) rfl (i_seq (d_idx (d_var 0 (pv 0)) d_int)) (g_name 5 hN) (s_cons (s_set 8 hN (d_tupOf (d_lc (own := [("term", 7)]) rfl hN (blkOk_by (by rfl)) (by decide) (i_seq (d_var 5 (pv 5))) (fun _ _ _ _ _ => (g_name 7 hN)) (fun _ _ _ _ _ => ts_nil) (fun _ _ _ _ _ => (d_if (dt_cmp o_ge (d_var 7 (pv 7)) d_int (nomark _)) (d_var 7 (pv 7)) (d_idx (d_var 3 (pv 3)) (d_index (d_var 2 (pv 2)) (d_var 7 (pv 7))))))) b_tuple))
    (s_one (s_exp (d_app (d_var 4 (pv 4)) (d_tup (d_cons (d_tup (d_cons (d_var 8 (pv 8)) d_nil (star_cons rfl))) (d_cons (d_tup (d_cons (d_var 1 (pv 1)) d_nil (star_cons rfl))) (d_cons (d_const _ (by rfl)) d_nil (star_cons rfl)) (star_cons rfl)) (star_cons rfl))))))))
    (s_one (s_ret (d_tupOf (d_var 4 (pv 4)) b_tuple))))))))

abbrev stcases_apart : Stmt := top 19
theorem sccases_apart : FnScope ["deed", "atom", "room", "asked", "kind", "terms", "_", "met", "unlike", "told", "body"] ["deed", "atom", "room"] (defScope stcases_apart) := ⟨rfl, rfl, rfl, by decide +kernel, rfl, by decide +kernel, by decide +kernel⟩
def bcases_apart : MS :=
    (sSeq (sAsg (eIdx (eVar 0) (eC (.int 1))) (gTupD 2 (gConsD (setSl 4) (gConsD (setSl 5) gNilD))))
    (sSeq (sSet 3 (eIdx (eVar 1) (eC (.int 1))))
    (sSeq (sIf (tOf (eOp fNe (eVar 4) (eIdx (eVar 1) (eC (.int 0))))) (sRet (eTup (aCons (eCall 1 fitself (aCons (eVar 1) (pure []))) (pure [])))) sNil)
    (sSeq (sIf (tOf (eOp fEq (eIdx (eVar 0) (eC (.int 0))) (eC (.str "put")))) (sSeq (sAsg (eVar 0) (gTupD 4 (gConsD (setSl 6) (gConsD (setSl 6) (gConsD (setSl 10) (gConsD (setSl 8) gNilD))))))
    (sRet (eTup (aCons (eCall 1 fitself (aCons (eVar 1) (pure []))) (aCons (eCall 5 fcase_of_deed (aCons (eVar 5) (aCons (eVar 10) (aCons (eVar 8) (aCons (eVar 3) (aCons (eVar 2) (pure []))))))) (pure [])))))) sNil)
    (sSeq (sIf (tOf (eOp fEq (eIdx (eVar 0) (eC (.int 0))) (eC (.str "take")))) (sRet (eCall 2 fcases_unmet (aCons (eVar 0) (aCons (eVar 1) (pure []))))) sNil)
    (sSeq (sAsg (eVar 0) (gTupD 4 (gConsD (setSl 6) (gConsD (setSl 7) (gConsD (setSl 8) (gConsD (setSl 9) gNilD))))))
    (sRet (eTup (aStar (eCall 2 fcases_unmet (aCons (eVar 0) (aCons (eVar 1) (pure [])))) (aCons (eCall 5 fcase_of_deed (aCons (eVar 9) (aCons (eTup (aCons (eVar 7) (pure []))) (aCons (eVar 8) (aCons (eVar 3) (aCons (eVar 2) (pure []))))))) (pure [])))))))))))
def fcases_apart : Fd := runF 11 bcases_apart
theorem okcases_apart {f : Addr} {fd : FuncData} (Fn : Fun K "cases_apart" "cases_apart" stcases_apart f fd) (citself : Fnk P w K mg base "itself" 1 1 fitself) (ccase_of_deed : Fnk P w K mg base "case_of_deed" 5 2 fcase_of_deed) (ccases_unmet : Fnk P w K mg base "cases_unmet" 2 1 fcases_unmet) : DG.FnG P w K mg base 3 f fd ["deed", "atom", "room"] (spD K w mg 3 fcases_apart) := by
    exact fn_ok Fn sccases_apart fun cdv A outer s H E hg hr => by
      have hN := sccases_apart.nd
      exact (s_cons (s_asg (d_idx (d_var 0 (pv 0)) d_int) (g_tup rfl (g_cons (g_name 4 hN) (g_cons (g_name 5 hN) g_nil))))
    (s_cons (s_set 3 hN (d_idx (d_var 1 (pv 1)) d_int))
    (s_cons (s_if (dt_cmp (o_ne (huB hr)) (d_var 4 (pv 4)) (d_idx (d_var 1 (pv 1)) d_int) (nomark _)) (s_one (s_ret (d_tup (d_cons (d_call (Fnk.has citself hg hr passB) (runF_nosl _ _) rfl (d_cons (d_var 1 (pv 1)) d_nil (star_cons rfl))) d_nil (star_cons rfl))))) s_nil)
    (s_cons (s_if (dt_cmp (o_eq (huB hr)) (d_idx (d_var 0 (pv 0)) d_int) d_str (nomark _)) (s_cons (s_asg (d_var 0 (pv 0)) (g_tup rfl (g_cons (g_name 6 hN) (g_cons (g_name 6 hN) (g_cons (g_name 10 hN) (g_cons (g_name 8 hN) g_nil))))))
    (s_one (s_ret (d_tup (d_cons (d_call (Fnk.has citself hg hr passB) (runF_nosl _ _) rfl (d_cons (d_var 1 (pv 1)) d_nil (star_cons rfl))) (d_cons (d_call (Fnk.has ccase_of_deed hg hr passB) (runF_nosl _ _) rfl (d_cons (d_var 5 (pv 5)) (d_cons (d_var 10 (pv 10)) (d_cons (d_var 8 (pv 8)) (d_cons (d_var 3 (pv 3)) (d_cons (d_var 2 (pv 2)) d_nil (star_cons rfl)) (star_cons rfl)) (star_cons rfl)) (star_cons rfl)) (star_cons rfl))) d_nil (star_cons rfl)) (star_cons rfl)))))) s_nil)
    (s_cons (s_if (dt_cmp (o_eq (huB hr)) (d_idx (d_var 0 (pv 0)) d_int) d_str (nomark _)) (s_one (s_ret (d_call (Fnk.has ccases_unmet hg hr passB) (runF_nosl _ _) rfl (d_cons (d_var 0 (pv 0)) (d_cons (d_var 1 (pv 1)) d_nil (star_cons rfl)) (star_cons rfl))))) s_nil)
    (s_cons (s_asg (d_var 0 (pv 0)) (g_tup rfl (g_cons (g_name 6 hN) (g_cons (g_name 7 hN) (g_cons (g_name 8 hN) (g_cons (g_name 9 hN) g_nil))))))
    (s_one (s_ret (d_tup (d_star (d_call (Fnk.has ccases_unmet hg hr passB) (runF_nosl _ _) rfl (d_cons (d_var 0 (pv 0)) (d_cons (d_var 1 (pv 1)) d_nil (star_cons rfl)) (star_cons rfl))) (d_cons (d_call (Fnk.has ccase_of_deed hg hr passB) (runF_nosl _ _) rfl (d_cons (d_var 9 (pv 9)) (d_cons (d_tup (d_cons (d_var 7 (pv 7)) d_nil (star_cons rfl))) (d_cons (d_var 8 (pv 8)) (d_cons (d_var 3 (pv 3)) (d_cons (d_var 2 (pv 2)) d_nil (star_cons rfl)) (star_cons rfl)) (star_cons rfl)) (star_cons rfl)) (star_cons rfl))) d_nil (star_cons rfl)) star_star))))))))))

abbrev stcases : Stmt := top 20
theorem sccases : FnScope ["deed", "atom"] ["deed", "atom"] (defScope stcases) := ⟨rfl, rfl, rfl, by decide +kernel, rfl, by decide +kernel, by decide +kernel⟩
def bcases : MS :=
    (sRet (eCall 3 fcases_apart (aCons (eVar 0) (aCons (eVar 1) (aCons (eC (.int 8)) (pure []))))))
def fcases : Fd := runF 2 bcases
theorem okcases {f : Addr} {fd : FuncData} (Fn : Fun K "cases" "cases" stcases f fd) (ccases_apart : Fnk P w K mg base "cases_apart" 3 3 fcases_apart) (g_MOST_VARIABLES : ∃ t, mg "MOST_VARIABLES" = some (.int 8 t)) : DG.FnG P w K mg base 4 f fd ["deed", "atom"] (spD K w mg 2 fcases) := by
    exact fn_ok Fn sccases fun cdv A outer s H E hg hr => by
      have hN := sccases.nd
      exact (s_one (s_ret (d_call (Fnk.has ccases_apart hg hr passB) (runF_nosl _ _) rfl (d_cons (d_var 0 (pv 0)) (d_cons (d_var 1 (pv 1)) (d_cons (d_globI g_MOST_VARIABLES) d_nil (star_cons rfl)) (star_cons rfl)) (star_cons rfl)))))

abbrev stnormal : Stmt := top 21
theorem scnormal : FnScope ["part", "names", "atoms", "atom", "pairs", "head", "body", "unlike", "pair", "place", "variable"] ["part"] (defScope stnormal) := ⟨rfl, rfl, rfl, by decide +kernel, rfl, by decide +kernel, by decide +kernel⟩
def bnormal : MS :=
    (sSeq (sAsg (eVar 0) (gTupD 3 (gConsD (setSl 5) (gConsD (setSl 6) (gConsD (setSl 7) gNilD)))))
    (sSeq (sSet 1 (eDc [9, 10] (srcEnumT (eCall 1 fvariables_of (aCons (eVar 0) (pure [])))) (stepK (gTupD 2 (gConsD (setSl 9) (gConsD (setSl 10) gNilD))) tYesD (eVar 10) (eOp fSub (eC (.int (-1))) (eVar 9)))))
    (sSeq (sSet 2 (newL []))
    (sSeq (sFor (srcSeq (eCall 2 fatoms_with (aCons (eVar 6) (aCons (eVar 1) (pure []))))) (setSl 3) (sIf (tOf (eOp fNotIn (eVar 3) (eVar 2))) (sExp (eApp (eVar 2) (eVar 3))) sNil))
    (sSeq (sSet 4 (eLc [8] (srcSeq (eVar 7)) (stepC (setSl 8) (tOf (eOp fLtD (eBest false (eVar 8)) (eC (.int 0)))) (eTupOf (eSortQ (eCall 2 fput_in (aCons (eVar 8) (aCons (eVar 1) (pure [])))))))))
    (sRet (eTup (aCons (eCall 2 fput_in (aCons (eVar 5) (aCons (eVar 1) (pure [])))) (aCons (eTupOf (eVar 2)) (aCons (eCall 1 fset_of (aCons (eVar 4) (pure []))) (pure [])))))))))))
def fnormal : Fd := runF 11 bnormal
theorem oknormal {f : Addr} {fd : FuncData} (Fn : Fun K "normal" "normal" stnormal f fd) (b_enumerate : mg "enumerate" = none) (b_min : mg "min" = none) (b_sorted : mg "sorted" = none) (b_tuple : mg "tuple" = none) (cset_of : Fnk P w K mg base "set_of" 1 1 fset_of) (cvariables_of : Fnk P w K mg base "variables_of" 1 1 fvariables_of) (cput_in : Fnk P w K mg base "put_in" 2 1 fput_in) (catoms_with : Fnk P w K mg base "atoms_with" 2 2 fatoms_with) : DG.FnG P w K mg base 3 f fd ["part"] (spD K w mg 1 fnormal) := by
    exact fn_ok Fn scnormal fun cdv A outer s H E hg hr => by
      have hN := scnormal.nd
      exact (s_cons (s_asg (d_var 0 (pv 0)) (g_tup rfl (g_cons (g_name 5 hN) (g_cons (g_name 6 hN) (g_cons (g_name 7 hN) g_nil)))))
    (s_cons (s_set 1 hN (d_dc (own := [("place", 9), ("variable", 10)]) rfl hN (blkOk_by (by rfl)) (by decide) (i_enumT b_enumerate (d_call (Fnk.has cvariables_of hg hr passB) (runF_nosl _ _) rfl (d_cons (d_var 0 (pv 0)) d_nil (star_cons rfl)))) (fun _ _ _ _ _ => (g_tup rfl (g_cons (g_name 9 hN) (g_cons (g_name 10 hN) g_nil)))) (fun _ _ _ _ _ => ts_nil) (fun _ _ _ _ _ => (d_var 10 (pv 10))) (fun _ _ _ _ _ => (d_op o_sub (d_const _ (by rfl)) (d_var 9 (pv 9))))))
    (s_cons (s_set 2 hN (d_lstC (by rfl) (by decide)))
    (s_cons (s_for (passes_of rfl) rfl (i_seq (d_call (Fnk.has catoms_with hg hr passB) (runF_nosl _ _) rfl (d_cons (d_var 6 (pv 6)) (d_cons (d_var 1 (pv 1)) d_nil (star_cons rfl)) (star_cons rfl)))) (g_name 3 hN) (s_one (s_if (dt_cmp (o_notIn (huB hr)) (d_var 3 (pv 3)) (d_var 2 (pv 2)) (by with_unfolding_all rfl)) (s_one (s_exp (d_app (d_var 2 (pv 2)) (d_var 3 (pv 3))))) s_nil)))
    (s_cons (s_setLc 4 (own := [("pair", 8)]) rfl hN (blkOk_by (by rfl)) (by decide) (i_seq (d_var 7 (pv 7))) (fun _ _ _ _ _ => (g_name 8 hN)) (fun _ _ _ _ _ => (ts_one (dt_cmp (o_ltD (huB hr)) (d_min1 rfl (d_var 8 (pv 8)) b_min) d_int (nomark _)))) (fun _ _ _ _ _ => (d_tupOf (d_sortQ (huB hr) (d_call (Fnk.has cput_in hg hr passL) (runF_nosl _ _) rfl (d_cons (d_var 8 (pv 8)) (d_cons (d_var 1 (pv 1)) d_nil (star_cons rfl)) (star_cons rfl))) b_sorted) b_tuple)))
    (s_one (s_ret (d_tup (d_cons (d_call (Fnk.has cput_in hg hr passB) (runF_nosl _ _) rfl (d_cons (d_var 5 (pv 5)) (d_cons (d_var 1 (pv 1)) d_nil (star_cons rfl)) (star_cons rfl))) (d_cons (d_tupOf (d_var 2 (pv 2)) b_tuple) (d_cons (d_call (Fnk.has cset_of hg hr passB) (runF_nosl _ _) rfl (d_cons (d_var 4 (pv 4)) d_nil (star_cons rfl))) d_nil (star_cons rfl)) (star_cons rfl)) (star_cons rfl))))))))))

abbrev stmade_same : Stmt := top 22
theorem scmade_same : FnScope ["equations", "same", "equation", "low", "high", "term", "stands"] ["equations"] (defScope stmade_same) := ⟨rfl, rfl, rfl, by decide +kernel, rfl, by decide +kernel, by decide +kernel⟩
def bmade_same : MS :=
    (sSeq (sSet 1 eD0)
    (sSeq (sFor (srcSeq (eVar 0)) (setSl 2) (sSeq (sAsg (eSortQ (eCall 2 fput_in (aCons (eVar 2) (aCons (eVar 1) (pure []))))) (gLstD 2 (gConsD (setSl 3) (gConsD (setSl 4) gNilD))))
    (sSeq (sIf (tOf (eOp fEq (eVar 3) (eVar 4))) sCt sNil)
    (sSeq (sIf (tOf (eOp fGe (eVar 3) (eC (.int 0)))) (sRet (eC .none)) sNil)
    (sSeq (sSet 1 (eDcI [5, 6] 1 (stepK (gTupD 2 (gConsD (setSl 5) (gConsD (setSl 6) gNilD))) tYesD (eVar 5) (eIf (tOf (eOp fEq (eVar 6) (eVar 3))) (eVar 4) (eVar 6)))))
    (sDSet (eVar 1) (eVar 3) (eVar 4)))))))
    (sRet (eVar 1))))
def fmade_same : Fd := runF 7 bmade_same
theorem okmade_same {f : Addr} {fd : FuncData} (Fn : Fun K "made_same" "made_same" stmade_same f fd) (b_sorted : mg "sorted" = none) (cput_in : Fnk P w K mg base "put_in" 2 1 fput_in) : DG.FnG P w K mg base 2 f fd ["equations"] (spD K w mg 1 fmade_same) := by
    exact fn_ok Fn scmade_same fun cdv A outer s H E hg hr => by
      have hN := scmade_same.nd
      exact (s_cons (s_set 1 hN d_d0)
    (s_cons (s_for (passes_of rfl) rfl (i_seq (d_var 0 (pv 0))) (g_name 2 hN) (s_cons (s_asg (d_sortQ (huB hr) (d_call (Fnk.has cput_in hg hr passB) (runF_nosl _ _) rfl (d_cons (d_var 2 (pv 2)) (d_cons (d_var 1 (pv 1)) d_nil (star_cons rfl)) (star_cons rfl))) b_sorted) (g_lst rfl (g_cons (g_name 3 hN) (g_cons (g_name 4 hN) g_nil))))
    (s_cons (s_if (dt_cmp (o_eq (huB hr)) (d_var 3 (pv 3)) (d_var 4 (pv 4)) (nomark _)) (s_one s_ct) s_nil)
    (s_cons (s_if (dt_cmp o_ge (d_var 3 (pv 3)) d_int (nomark _)) (s_one (s_ret d_non)) s_nil)
    (s_cons (s_setDcI 1 (own := [("term", 5), ("stands", 6)]) rfl hN (blkOk_by (by rfl)) (by decide) (pv 1) (fun _ _ _ _ _ => (g_tup rfl (g_cons (g_name 5 hN) (g_cons (g_name 6 hN) g_nil)))) (fun _ _ _ _ _ => ts_nil) (fun _ _ _ _ _ => (d_var 5 (pv 5))) (fun _ _ _ _ _ => (d_if (dt_cmp (o_eq (huB hr)) (d_var 6 (pv 6)) (d_var 3 (pv 3)) (nomark _)) (d_var 4 (pv 4)) (d_var 6 (pv 6)))))
    (s_one (s_dset (huB hr) (d_var 1 (pv 1)) (d_var 3 (pv 3)) (d_var 4 (pv 4)))))))))
    (s_one (s_ret (d_var 1 (pv 1))))))

abbrev stpart_before : Stmt := top 23
theorem scpart_before : FnScope ["part", "choice", "same", "atoms", "pairs", "head", "_", "unlike", "atom", "equation", "some", "equations", "pair"] ["part", "choice"] (defScope stpart_before) := ⟨rfl, rfl, rfl, by decide +kernel, rfl, by decide +kernel, by decide +kernel⟩
def bpart_before : MS :=
    (sSeq (sAsg (eVar 0) (gTupD 3 (gConsD (setSl 5) (gConsD (setSl 6) (gConsD (setSl 7) gNilD)))))
    (sSeq (sSet 2 (eCall 1 fmade_same (aCons (eC2 (.ls true []) accL [11, 6, 6, 9] [9] (srcSeq (eVar 1)) (preC (gTupD 3 (gConsD (setSl 11) (gConsD (setSl 6) (gConsD (setSl 6) gNilD)))) tYesD (srcSeq (eVar 11))) (stepC (setSl 9) tYesD (eVar 9))) (pure []))))
    (sSeq (sIf (tOf (eIsN id (eVar 2))) (sRet (eC .none)) sNil)
    (sSeq (sSet 3 (eC2 (.ls true []) accL [6, 10, 6, 8] [8] (srcSeq (eVar 1)) (preC (gTupD 3 (gConsD (setSl 6) (gConsD (setSl 10) (gConsD (setSl 6) gNilD)))) tYesD (srcSeq (eVar 10))) (stepC (setSl 8) tYesD (eVar 8))))
    (sSeq (sSet 4 (eLst (aStar (eVar 7) (aStar (eC2 (.ls true []) accL [6, 6, 10, 12] [12] (srcSeq (eVar 1)) (preC (gTupD 3 (gConsD (setSl 6) (gConsD (setSl 6) (gConsD (setSl 10) gNilD)))) tYesD (srcSeq (eVar 10))) (stepC (setSl 12) tYesD (eVar 12))) (pure [])))))
    (sSeq (sIf (tNotD (tOf (eCall 2 fare_unlike (aCons (eVar 4) (aCons (eVar 2) (pure [])))))) (sRet (eC .none)) sNil)
    (sRet (eCall 1 fnormal (aCons (eTup (aCons (eCall 2 fput_in (aCons (eVar 5) (aCons (eVar 2) (pure [])))) (aCons (eCall 2 fatoms_with (aCons (eVar 3) (aCons (eVar 2) (pure [])))) (aCons (eTupOf (eLc [12] (srcSeq (eVar 4)) (stepC (setSl 12) tYesD (eCall 2 fput_in (aCons (eVar 12) (aCons (eVar 2) (pure []))))))) (pure []))))) (pure []))))))))))
def fpart_before : Fd := runF 13 bpart_before
theorem okpart_before {f : Addr} {fd : FuncData} (Fn : Fun K "part_before" "part_before" stpart_before f fd) (b_tuple : mg "tuple" = none) (cput_in : Fnk P w K mg base "put_in" 2 1 fput_in) (catoms_with : Fnk P w K mg base "atoms_with" 2 2 fatoms_with) (care_unlike : Fnk P w K mg base "are_unlike" 2 1 fare_unlike) (cnormal : Fnk P w K mg base "normal" 1 3 fnormal) (cmade_same : Fnk P w K mg base "made_same" 1 2 fmade_same) : DG.FnG P w K mg base 4 f fd ["part", "choice"] (spD K w mg 2 fpart_before) := by
    exact fn_ok Fn scpart_before fun cdv A outer s H E hg hr => by
      have hN := scpart_before.nd
      exact (s_cons (s_asg (d_var 0 (pv 0)) (g_tup rfl (g_cons (g_name 5 hN) (g_cons (g_name 6 hN) (g_cons (g_name 7 hN) g_nil)))))
    (s_cons (s_set 2 hN (d_call (Fnk.has cmade_same hg hr passB) (runF_nosl _ _) rfl (d_cons (d_lc2 (own := [("equations", 11), ("_", 6), ("_", 6), ("equation", 9)]) (vs1 := [9]) rfl hN (blkOk_by (by rfl)) (by decide) (by decide) (by decide) (i_seq (d_var 1 (pv 1))) (fun _ _ _ _ _ => (g_tup rfl (g_cons (g_name 11 hN) (g_cons (g_name 6 hN) (g_cons (g_name 6 hN) g_nil))))) (fun _ _ _ _ _ => ts_nil) (fun _ _ _ _ _ => (i_seq (d_var 11 (pv 11)))) (fun _ _ _ _ _ => (g_name 9 hN)) (fun _ _ _ _ _ => ts_nil) (fun _ _ _ _ _ => (d_var 9 (pv 9)))) d_nil (star_cons rfl))))
    (s_cons (s_if (dt_isN (d_var 2 (pv 2)) (nomark _)) (s_one (s_ret d_non)) s_nil)
    (s_cons (s_setLc2 3 (own := [("_", 6), ("some", 10), ("_", 6), ("atom", 8)]) (vs1 := [8]) rfl hN (blkOk_by (by rfl)) (by decide) (by decide) (by decide) (i_seq (d_var 1 (pv 1))) (fun _ _ _ _ _ => (g_tup rfl (g_cons (g_name 6 hN) (g_cons (g_name 10 hN) (g_cons (g_name 6 hN) g_nil))))) (fun _ _ _ _ _ => ts_nil) (fun _ _ _ _ _ => (i_seq (d_var 10 (pv 10)))) (fun _ _ _ _ _ => (g_name 8 hN)) (fun _ _ _ _ _ => ts_nil) (fun _ _ _ _ _ => (d_var 8 (pv 8))))
    (s_cons (s_set 4 hN (d_lst (d_star (d_var 7 (pv 7)) (d_star (d_lc2 (own := [("_", 6), ("_", 6), ("some", 10), ("pair", 12)]) (vs1 := [12]) rfl hN (blkOk_by (by rfl)) (by decide) (by decide) (by decide) (i_seq (d_var 1 (pv 1))) (fun _ _ _ _ _ => (g_tup rfl (g_cons (g_name 6 hN) (g_cons (g_name 6 hN) (g_cons (g_name 10 hN) g_nil))))) (fun _ _ _ _ _ => ts_nil) (fun _ _ _ _ _ => (i_seq (d_var 10 (pv 10)))) (fun _ _ _ _ _ => (g_name 12 hN)) (fun _ _ _ _ _ => ts_nil) (fun _ _ _ _ _ => (d_var 12 (pv 12)))) d_nil star_star) star_star)))
    (s_cons (s_if (dt_not (dt_val (d_call (Fnk.has care_unlike hg hr passB) (runF_nosl _ _) rfl (d_cons (d_var 4 (pv 4)) (d_cons (d_var 2 (pv 2)) d_nil (star_cons rfl)) (star_cons rfl))))) (s_one (s_ret d_non)) s_nil)
    (s_one (s_ret (d_call (Fnk.has cnormal hg hr passB) (runF_nosl _ _) rfl (d_cons (d_tup (d_cons (d_call (Fnk.has cput_in hg hr passB) (runF_nosl _ _) rfl (d_cons (d_var 5 (pv 5)) (d_cons (d_var 2 (pv 2)) d_nil (star_cons rfl)) (star_cons rfl))) (d_cons (d_call (Fnk.has catoms_with hg hr passB) (runF_nosl _ _) rfl (d_cons (d_var 3 (pv 3)) (d_cons (d_var 2 (pv 2)) d_nil (star_cons rfl)) (star_cons rfl))) (d_cons (d_tupOf (d_lc (own := [("pair", 12)]) rfl hN (blkOk_by (by rfl)) (by decide) (i_seq (d_var 4 (pv 4))) (fun _ _ _ _ _ => (g_name 12 hN)) (fun _ _ _ _ _ => ts_nil) (fun _ _ _ _ _ => (d_call (Fnk.has cput_in hg hr passL) (runF_nosl _ _) rfl (d_cons (d_var 12 (pv 12)) (d_cons (d_var 2 (pv 2)) d_nil (star_cons rfl)) (star_cons rfl))))) b_tuple) d_nil (star_cons rfl)) (star_cons rfl)) (star_cons rfl))) d_nil (star_cons rfl)))))))))))

abbrev stchoices_of : Stmt := top 24
theorem scchoices_of : FnScope ["deed", "part", "found", "index", "atom", "each", "choice", "case"] ["deed", "part"] (defScope stchoices_of) := ⟨rfl, rfl, rfl, by decide +kernel, rfl, by decide +kernel, by decide +kernel⟩
def bchoices_of : MS :=
    (sSeq (sSet 2 (newL [(.tuple [])]))
    (sSeq (sFor (srcEnumT (eIdx (eVar 1) (eC (.int 1)))) (gTupD 2 (gConsD (setSl 3) (gConsD (setSl 4) gNilD))) (sSeq (sSet 5 (eCall 3 fcases_apart (aCons (eVar 0) (aCons (eVar 4) (aCons (eMul (eC (.int 1000)) (eAdd (eVar 3) (eC (.int 1)))) (pure []))))))
    (sSet 2 (eC2 (.ls true []) accL [6, 7] [7] (srcSeq (eVar 2)) (preC (setSl 6) tYesD (srcSeq (eVar 5))) (stepC (setSl 7) tYesD (eTup (aStar (eVar 6) (aCons (eVar 7) (pure [])))))))))
    (sRet (eVar 2))))
def fchoices_of : Fd := runF 8 bchoices_of
theorem okchoices_of {f : Addr} {fd : FuncData} (Fn : Fun K "choices_of" "choices_of" stchoices_of f fd) (b_enumerate : mg "enumerate" = none) (ccases_apart : Fnk P w K mg base "cases_apart" 3 3 fcases_apart) (g_ROOM : ∃ t, mg "ROOM" = some (.int 1000 t)) : DG.FnG P w K mg base 4 f fd ["deed", "part"] (spD K w mg 2 fchoices_of) := by
    exact fn_ok Fn scchoices_of fun cdv A outer s H E hg hr => by
      have hN := scchoices_of.nd
      exact (s_cons (s_set 2 hN (d_lstC (by rfl) (by decide)))
    (s_cons (s_for (passes_of rfl) rfl (i_enumT b_enumerate (d_idx (d_var 1 (pv 1)) d_int)) (g_tup rfl (g_cons (g_name 3 hN) (g_cons (g_name 4 hN) g_nil))) (s_cons (s_set 5 hN (d_call (Fnk.has ccases_apart hg hr passB) (runF_nosl _ _) rfl (d_cons (d_var 0 (pv 0)) (d_cons (d_var 4 (pv 4)) (d_cons (d_mul (d_globI g_ROOM) (d_add (d_var 3 (pv 3)) d_int)) d_nil (star_cons rfl)) (star_cons rfl)) (star_cons rfl))))
    (s_one (s_setLc2 2 (own := [("choice", 6), ("case", 7)]) (vs1 := [7]) rfl hN (blkOk_by (by rfl)) (by decide) (by decide) (by decide) (i_seq (d_var 2 (pv 2))) (fun _ _ _ _ _ => (g_name 6 hN)) (fun _ _ _ _ _ => ts_nil) (fun _ _ _ _ _ => (i_seq (d_var 5 (pv 5)))) (fun _ _ _ _ _ => (g_name 7 hN)) (fun _ _ _ _ _ => ts_nil) (fun _ _ _ _ _ => (d_tup (d_star (d_var 6 (pv 6)) (d_cons (d_var 7 (pv 7)) d_nil (star_cons rfl)) star_star)))))))
    (s_one (s_ret (d_var 2 (pv 2))))))

abbrev stchoices_at : Stmt := top 25
theorem scchoices_at : FnScope ["deed", "question", "total", "part", "many", "atom"] ["deed", "question"] (defScope stchoices_at) := ⟨rfl, rfl, rfl, by decide +kernel, rfl, by decide +kernel, by decide +kernel⟩
def bchoices_at : MS :=
    (sSeq (sSet 2 (eC (.int 0)))
    (sSeq (sFor (srcSeq (eIdx (eVar 1) (eC (.int 1)))) (setSl 3) (sSeq (sSet 4 (eC (.int 1)))
    (sSeq (sFor (srcSeq (eIdx (eVar 3) (eC (.int 1)))) (setSl 5) (sSet 4 (eMul (eVar 4) (eFn lenD (eCall 2 fcases (aCons (eVar 0) (aCons (eVar 5) (pure []))))))))
    (sSet 2 (eAdd (eVar 2) (eVar 4))))))
    (sRet (eVar 2))))
def fchoices_at : Fd := runF 6 bchoices_at
theorem okchoices_at {f : Addr} {fd : FuncData} (Fn : Fun K "choices_at" "choices_at" stchoices_at f fd) (b_len : mg "len" = none) (ccases : Fnk P w K mg base "cases" 2 4 fcases) : DG.FnG P w K mg base 5 f fd ["deed", "question"] (spD K w mg 2 fchoices_at) := by
    exact fn_ok Fn scchoices_at fun cdv A outer s H E hg hr => by
      have hN := scchoices_at.nd
      exact (s_cons (s_set 2 hN d_int)
    (s_cons (s_for (passes_of rfl) rfl (i_seq (d_idx (d_var 1 (pv 1)) d_int)) (g_name 3 hN) (s_cons (s_set 4 hN d_int)
    (s_cons (s_for (passes_of rfl) rfl (i_seq (d_idx (d_var 3 (pv 3)) d_int)) (g_name 5 hN) (s_one (s_set 4 hN (d_mul (d_var 4 (pv 4)) (d_len (d_call (Fnk.has ccases hg hr passB) (runF_nosl _ _) rfl (d_cons (d_var 0 (pv 0)) (d_cons (d_var 5 (pv 5)) d_nil (star_cons rfl)) (star_cons rfl))) rfl b_len)))))
    (s_one (s_set 2 hN (d_add (d_var 2 (pv 2)) (d_var 4 (pv 4))))))))
    (s_one (s_ret (d_var 2 (pv 2))))))

abbrev stis_too_large : Stmt := top 26
theorem scis_too_large : FnScope ["part"] ["part"] (defScope stis_too_large) := ⟨rfl, rfl, rfl, by decide +kernel, rfl, by decide +kernel, by decide +kernel⟩
def bis_too_large : MS :=
    (sRet (eOrD (eOp fGt (eFn lenD (eIdx (eVar 0) (eC (.int 1)))) (eC (.int 6))) (eOp fGt (eFn lenD (eCall 1 fvariables_of (aCons (eVar 0) (pure [])))) (eC (.int 8)))))
def fis_too_large : Fd := runF 1 bis_too_large
theorem okis_too_large {f : Addr} {fd : FuncData} (Fn : Fun K "is_too_large" "is_too_large" stis_too_large f fd) (b_len : mg "len" = none) (cvariables_of : Fnk P w K mg base "variables_of" 1 1 fvariables_of) (g_MOST_ATOMS : ∃ t, mg "MOST_ATOMS" = some (.int 6 t)) (g_MOST_VARIABLES : ∃ t, mg "MOST_VARIABLES" = some (.int 8 t)) : DG.FnG P w K mg base 2 f fd ["part"] (spD K w mg 1 fis_too_large) := by
    exact fn_ok Fn scis_too_large fun cdv A outer s H E hg hr => by
      have hN := scis_too_large.nd
      exact (s_one (s_ret (d_or (d_cmp o_gt (d_len (d_idx (d_var 0 (pv 0)) d_int) rfl b_len) (d_globI g_MOST_ATOMS) (nomark _)) (d_one (d_cmp o_gt (d_len (d_call (Fnk.has cvariables_of hg hr passB) (runF_nosl _ _) rfl (d_cons (d_var 0 (pv 0)) d_nil (star_cons rfl))) rfl b_len) (d_globI g_MOST_VARIABLES) (nomark _))))))

abbrev stled_back_once : Stmt := top 27
theorem scled_back_once : FnScope ["deed", "question", "tries", "found", "part", "arity", "parts", "choice", "before"] ["deed", "question", "tries"] (defScope stled_back_once) := ⟨rfl, rfl, rfl, by decide +kernel, rfl, by decide +kernel, by decide +kernel⟩
def bled_back_once : MS :=
    (sSeq (sIf (tOf (eOp fGt (eCall 2 fchoices_at (aCons (eVar 0) (aCons (eVar 1) (pure [])))) (eVar 2))) (sRaise "LimitExceeded" ["limit"] (aCons (eVar 2) (pure []))) sNil)
    (sSeq (sAsg (eVar 1) (gTupD 2 (gConsD (setSl 5) (gConsD (setSl 6) gNilD))))
    (sSeq (sSet 3 (newL []))
    (sSeq (sFor (srcSeq (eVar 6)) (setSl 4) (sFor (srcSeq (eCall 2 fchoices_of (aCons (eVar 0) (aCons (eVar 4) (pure []))))) (setSl 7) (sSeq (sSet 8 (eCall 2 fpart_before (aCons (eVar 4) (aCons (eVar 7) (pure [])))))
    (sSeq (sIf (tOf (eOp fIs (eVar 8) (eC .none))) sCt sNil)
    (sSeq (sIf (tOf (eCall 1 fis_too_large (aCons (eVar 8) (pure [])))) (sRaise "LimitExceeded" ["limit"] (aCons (eVar 2) (pure []))) sNil)
    (sExp (eApp (eVar 3) (eVar 8))))))))
    (sRet (eTup (aCons (eVar 5) (aCons (eCall 1 fset_of (aCons (eVar 3) (pure []))) (pure [])))))))))
def fled_back_once : Fd := runF 9 bled_back_once
theorem okled_back_once {f : Addr} {fd : FuncData} (Fn : Fun K "led_back_once" "led_back_once" stled_back_once f fd) (cset_of : Fnk P w K mg base "set_of" 1 1 fset_of) (cpart_before : Fnk P w K mg base "part_before" 2 4 fpart_before) (cchoices_of : Fnk P w K mg base "choices_of" 2 4 fchoices_of) (cchoices_at : Fnk P w K mg base "choices_at" 2 5 fchoices_at) (cis_too_large : Fnk P w K mg base "is_too_large" 1 2 fis_too_large) (m_LimitExceeded : MkO P w K mg base "LimitExceeded" ["limit"]) : DG.FnG P w K mg base 6 f fd ["deed", "question", "tries"] (spD K w mg 3 fled_back_once) := by
    exact fn_ok Fn scled_back_once fun cdv A outer s H E hg hr => by
      have hN := scled_back_once.nd
      exact (s_cons (s_if (dt_cmp o_gt (d_call (Fnk.has cchoices_at hg hr passB) (runF_nosl _ _) rfl (d_cons (d_var 0 (pv 0)) (d_cons (d_var 1 (pv 1)) d_nil (star_cons rfl)) (star_cons rfl))) (d_var 2 (pv 2)) (nomark _)) (s_one (s_raise rfl (takes_of rfl rfl rfl rfl) m_LimitExceeded (hr.mono (by decide)) (by decide) (by decide) rfl (d_cons (d_var 2 (pv 2)) d_nil (star_cons rfl)))) s_nil)
    (s_cons (s_asg (d_var 1 (pv 1)) (g_tup rfl (g_cons (g_name 5 hN) (g_cons (g_name 6 hN) g_nil))))
    (s_cons (s_set 3 hN (d_lstC (by rfl) (by decide)))
    (s_cons (s_for (passes_of rfl) rfl (i_seq (d_var 6 (pv 6))) (g_name 4 hN) (s_one (s_for (passes_of rfl) rfl (i_seq (d_call (Fnk.has cchoices_of hg hr passB) (runF_nosl _ _) rfl (d_cons (d_var 0 (pv 0)) (d_cons (d_var 4 (pv 4)) d_nil (star_cons rfl)) (star_cons rfl)))) (g_name 7 hN) (s_cons (s_set 8 hN (d_call (Fnk.has cpart_before hg hr passB) (runF_nosl _ _) rfl (d_cons (d_var 4 (pv 4)) (d_cons (d_var 7 (pv 7)) d_nil (star_cons rfl)) (star_cons rfl))))
    (s_cons (s_if (dt_cmp o_is (d_var 8 (pv 8)) d_non (nomark _)) (s_one s_ct) s_nil)
    (s_cons (s_if (dt_val (d_call (Fnk.has cis_too_large hg hr passB) (runF_nosl _ _) rfl (d_cons (d_var 8 (pv 8)) d_nil (star_cons rfl)))) (s_one (s_raise rfl (takes_of rfl rfl rfl rfl) m_LimitExceeded (hr.mono (by decide)) (by decide) (by decide) rfl (d_cons (d_var 2 (pv 2)) d_nil (star_cons rfl)))) s_nil)
    (s_one (s_exp (d_app (d_var 3 (pv 3)) (d_var 8 (pv 8)))))))))))
    (s_one (s_ret (d_tup (d_cons (d_var 5 (pv 5)) (d_cons (d_call (Fnk.has cset_of hg hr passB) (runF_nosl _ _) rfl (d_cons (d_var 3 (pv 3)) d_nil (star_cons rfl))) d_nil (star_cons rfl)) (star_cons rfl)))))))))

abbrev stled_back : Stmt := top 28
theorem scled_back : FnScope ["program", "question", "tries", "before", "deed", "arity", "parts", "part"] ["program", "question", "tries"] (defScope stled_back) := ⟨rfl, rfl, rfl, by decide +kernel, rfl, by decide +kernel, by decide +kernel⟩
def bled_back : MS :=
    (sSeq (sSet 3 (eVar 1))
    (sSeq (sFor (srcRev (eVar 0)) (setSl 4) (sSet 3 (eCall 3 fled_back_once (aCons (eVar 4) (aCons (eVar 3) (aCons (eVar 2) (pure [])))))))
    (sSeq (sAsg (eVar 3) (gTupD 2 (gConsD (setSl 5) (gConsD (setSl 6) gNilD))))
    (sRet (eTup (aCons (eVar 5) (aCons (eCall 1 fset_of (aCons (eLc [7] (srcSeq (eVar 6)) (stepC (setSl 7) tYesD (eCall 1 fnormal (aCons (eVar 7) (pure []))))) (pure []))) (pure []))))))))
def fled_back : Fd := runF 8 bled_back
theorem okled_back {f : Addr} {fd : FuncData} (Fn : FunD K "led_back" "led_back" (defArgs stled_back) (defBody stled_back) (defScope stled_back) [] [("tries", .int 300)] f fd) (b_reversed : mg "reversed" = none) (cset_of : Fnk P w K mg base "set_of" 1 1 fset_of) (cnormal : Fnk P w K mg base "normal" 1 3 fnormal) (cled_back_once : Fnk P w K mg base "led_back_once" 3 6 fled_back_once) : DG.FnW P w K mg base 7 f fd ["program", "question", "tries"] (spD K w mg 3 fled_back) := by
    exact fn_okW Fn scled_back fun cdv A outer s H E hg hr => by
      have hN := scled_back.nd
      exact (s_cons (s_set 3 hN (d_var 1 (pv 1)))
    (s_cons (s_for (passes_of rfl) rfl (i_rev b_reversed (d_var 0 (pv 0))) (g_name 4 hN) (s_one (s_set 3 hN (d_call (Fnk.has cled_back_once hg hr passB) (runF_nosl _ _) rfl (d_cons (d_var 4 (pv 4)) (d_cons (d_var 3 (pv 3)) (d_cons (d_var 2 (pv 2)) d_nil (star_cons rfl)) (star_cons rfl)) (star_cons rfl))))))
    (s_cons (s_asg (d_var 3 (pv 3)) (g_tup rfl (g_cons (g_name 5 hN) (g_cons (g_name 6 hN) g_nil))))
    (s_one (s_ret (d_tup (d_cons (d_var 5 (pv 5)) (d_cons (d_call (Fnk.has cset_of hg hr passB) (runF_nosl _ _) rfl (d_cons (d_lc (own := [("part", 7)]) rfl hN (blkOk_by (by rfl)) (by decide) (i_seq (d_var 6 (pv 6))) (fun _ _ _ _ _ => (g_name 7 hN)) (fun _ _ _ _ _ => ts_nil) (fun _ _ _ _ _ => (d_call (Fnk.has cnormal hg hr passL) (runF_nosl _ _) rfl (d_cons (d_var 7 (pv 7)) d_nil (star_cons rfl))))) d_nil (star_cons rfl))) d_nil (star_cons rfl)) (star_cons rfl))))))))

abbrev st_law_pen : Stmt := top 30
theorem sc_law_pen : FnScope ["script"] ["script"] (defScope st_law_pen) := ⟨rfl, rfl, rfl, by decide +kernel, rfl, by decide +kernel, by decide +kernel⟩
def b_law_pen : MS :=
    (sRet (eLst (aCons (eLstOf (eSl (eVar 0) oNone (oSome (eC (.int 63))))) (aCons (eC (.int 0)) (aCons (eC (.int 0)) (aCons (newL [(.int 1), (.int 5)]) (pure [])))))))
def f_law_pen : Fd := runF 1 b_law_pen
theorem ok_law_pen {f : Addr} {fd : FuncData} (Fn : Fun K "_law_pen" "_law_pen" st_law_pen f fd) (b_list : mg "list" = none) : DG.FnG P w K mg base 1 f fd ["script"] (spD K w mg 1 f_law_pen) := by
    exact fn_ok Fn sc_law_pen fun cdv A outer s H E hg hr => by
      have hN := sc_law_pen.nd
      exact (s_one (s_ret (d_lst (d_cons (d_lstOf (d_sl (d_var 0 (pv 0)) p_none (p_some d_int)) b_list) (d_cons d_int (d_cons d_int (d_cons (d_lstC (by rfl) (by decide)) d_nil (star_cons rfl)) (star_cons rfl)) (star_cons rfl)) (star_cons rfl)))))

abbrev st_law_fresh : Stmt := top 31
theorem sc_law_fresh : FnScope ["pen", "cell", "prime", "state", "found", "lap", "seat", "given"] ["pen"] (defScope st_law_fresh) := ⟨rfl, rfl, rfl, by decide +kernel, rfl, by decide +kernel, by decide +kernel⟩
def b_law_fresh : MS :=
    (sSeq (sPar 6 7 (aCons (eIdx (eVar 0) (eC (.int 1))) (aCons (eIdx (eVar 0) (eC (.int 0))) (pure []))))
    (sSeq (sAsg (eAdd (eVar 6) (eC (.int 1))) (gSubD (eVar 0) (eC (.int 1))))
    (sSeq (sSet 1 (eIf (tOf (eOp fNe (eVar 7) (newL []))) (eIdx (eVar 7) (eOp fMod (eFn intD (eVar 6)) (eFn lenD (eVar 7)))) (eC (.int 0))))
    (sSeq (sIf (tAndD (tOf (eOp fLtD (eVar 6) (eFn lenD (eVar 7)))) (tOf (eOp fGe (eVar 1) (eOp fPow (eC (.int 10)) (eC (.int 18)))))) (sRet (eOp fSub (eVar 1) (eOp fPow (eC (.int 10)) (eC (.int 18))))) sNil)
    (sSeq (sSet 2 (eC (.int 2305843009213693951)))
    (sSeq (sSet 3 (eOp fMod (eFn intD (eAdd (eAdd (eOp fMul (eVar 1) (eC (.int 48271))) (eOp fMul (eC (.int 60013)) (eVar 6))) (eC (.int 31)))) (eVar 2)))
    (sSeq (sSet 4 (eVar 3))
    (sSeq (sFor (srcRng (eC (.int 6))) (setSl 5) (sSeq (sSet 3 (eOp fMod (eFn intD (eAdd (eAdd (eOp fMul (eVar 3) (eVar 3)) (eOp fMul (eOp fMul (eC (.int 70139)) (eAdd (eVar 5) (eC (.int 5)))) (eAdd (eVar 6) (eC (.int 1))))) (eVar 1))) (eVar 2)))
    (sSet 4 (eAdd (eOp fMul (eVar 4) (eVar 2)) (eVar 3)))))
    (sRet (eVar 4))))))))))
def f_law_fresh : Fd := runF 8 b_law_fresh
theorem ok_law_fresh {f : Addr} {fd : FuncData} (Fn : Fun K "_law_fresh" "_law_fresh" st_law_fresh f fd) (b_int : mg "int" = none) (b_len : mg "len" = none) (b_range : mg "range" = none) : DG.FnG P w K mg base 1 f fd ["pen"] (spD K w mg 1 f_law_fresh) := by
    exact fn_ok Fn sc_law_fresh fun cdv A outer s H E hg hr => by
      have hN := sc_law_fresh.nd
      exact (s_cons (s_par (i := 6) (j := 7) rfl hN (d_cons (d_idx (d_var 0 (pv 0)) d_int) (d_cons (d_idx (d_var 0 (pv 0)) d_int) d_nil (star_cons rfl)) (star_cons rfl)))
    (s_cons (s_asg (d_add (d_var 6 (pv 6)) d_int) (g_sub (d_var 0 (pv 0)) d_int))
    (s_cons (s_set 1 hN (d_if (dt_cmp (o_ne (huB hr)) (d_var 7 (pv 7)) (d_lstC (by rfl) (by decide)) (nomark _)) (d_idx (d_var 7 (pv 7)) (d_op o_mod (d_intOf (d_var 6 (pv 6)) b_int) (d_len (d_var 7 (pv 7)) rfl b_len))) d_int))
    (s_cons (s_if (PW.pt (dw_and (dt_cmp (o_ltD (huB hr)) (d_var 6 (pv 6)) (d_len (d_var 7 (pv 7)) rfl b_len) (nomark _)) (dw_and1 (dt_cmp o_ge (d_var 1 (pv 1)) (d_op o_pow d_int d_int) (nomark _))))) (s_one (s_ret (d_op o_sub (d_var 1 (pv 1)) (d_op o_pow d_int d_int)))) s_nil)
    (s_cons (s_set 2 hN d_int)
    (s_cons (s_set 3 hN (d_op o_mod (d_intOf (d_add (d_add (d_op o_mul (d_var 1 (pv 1)) d_int) (d_op o_mul d_int (d_var 6 (pv 6)))) d_int) b_int) (d_var 2 (pv 2))))
    (s_cons (s_set 4 hN (d_var 3 (pv 3)))
    (s_cons (s_for (passes_of rfl) rfl (i_rng rfl b_range d_int) (g_name 5 hN) (s_cons (s_set 3 hN (d_op o_mod (d_intOf (d_add (d_add (d_op o_mul (d_var 3 (pv 3)) (d_var 3 (pv 3))) (d_op o_mul (d_op o_mul d_int (d_add (d_var 5 (pv 5)) d_int)) (d_add (d_var 6 (pv 6)) d_int))) (d_var 1 (pv 1))) b_int) (d_var 2 (pv 2))))
    (s_one (s_set 4 hN (d_add (d_op o_mul (d_var 4 (pv 4)) (d_var 2 (pv 2))) (d_var 3 (pv 3)))))))
    (s_one (s_ret (d_var 4 (pv 4))))))))))))

abbrev st_law_draw : Stmt := top 32
theorem sc_law_draw : FnScope ["pen", "bound", "digit"] ["pen", "bound"] (defScope st_law_draw) := ⟨rfl, rfl, rfl, by decide +kernel, rfl, by decide +kernel, by decide +kernel⟩
def b_law_draw : MS :=
    (sSeq (sIf (tOf (eOp fLtD (eIdx (eVar 0) (eC (.int 2))) (eVar 1))) (sAsg (eCall 1 f_law_fresh (aCons (eVar 0) (pure []))) (gSubD (eVar 0) (eC (.int 2)))) sNil)
    (sSeq (sSet 2 (eOp fMod (eFn intD (eIdx (eVar 0) (eC (.int 2)))) (eVar 1)))
    (sSeq (sAsg (eOp fDiv (eFn intD (eIdx (eVar 0) (eC (.int 2)))) (eVar 1)) (gSubD (eVar 0) (eC (.int 2))))
    (sRet (eVar 2)))))
def f_law_draw : Fd := runF 3 b_law_draw
theorem ok_law_draw {f : Addr} {fd : FuncData} (Fn : Fun K "_law_draw" "_law_draw" st_law_draw f fd) (b_int : mg "int" = none) (c_law_fresh : Fnk P w K mg base "_law_fresh" 1 1 f_law_fresh) : DG.FnG P w K mg base 2 f fd ["pen", "bound"] (spD K w mg 2 f_law_draw) := by
    exact fn_ok Fn sc_law_draw fun cdv A outer s H E hg hr => by
      have hN := sc_law_draw.nd
      exact (s_cons (s_if (dt_cmp (o_ltD (huB hr)) (d_idx (d_var 0 (pv 0)) d_int) (d_var 1 (pv 1)) (nomark _)) (s_one (s_asg (d_call (Fnk.has c_law_fresh hg hr passB) (runF_nosl _ _) rfl (d_cons (d_var 0 (pv 0)) d_nil (star_cons rfl))) (g_sub (d_var 0 (pv 0)) d_int))) s_nil)
    (s_cons (s_set 2 hN (d_op o_mod (d_intOf (d_idx (d_var 0 (pv 0)) d_int) b_int) (d_var 1 (pv 1))))
    (s_cons (s_asg (d_op o_div (d_intOf (d_idx (d_var 0 (pv 0)) d_int) b_int) (d_var 1 (pv 1))) (g_sub (d_var 0 (pv 0)) d_int))
    (s_one (s_ret (d_var 2 (pv 2)))))))

abbrev st_law_outcome : Stmt := top 33
theorem sc_law_outcome : FnScope ["call", "e"] ["call"] (defScope st_law_outcome) := ⟨rfl, rfl, rfl, by decide +kernel, rfl, by decide +kernel, by decide +kernel⟩
theorem ok_law_outcome {f : Addr} {fd : FuncData} (Fn : Fun K "_law_outcome" "_law_outcome" st_law_outcome f fd) (hm : mg "_law_outcome" = some (.ref f)) (hk : PySem.W.keepIn K (.ref f) = true) (hb : Binds K fd ["call"] []) : OutFn K mg "_law_outcome" "call" "LimitExceeded" "e" "limit" "limit" :=
  ⟨⟨f, st_law_outcome, fd, _, _, _, _, _, _, _, _, _, _, _, _, _, hm, hk, Fn, hb, sc_law_outcome, by first | exact .inl rfl | exact .inr (.inl rfl), rfl, rfl, rfl, rfl⟩⟩

abbrev st_law_takes_right : Stmt := top 34
theorem sc_law_takes_right : FnScope ["thing", "wide", "loop", "told", "due", "one", "take", "pairs", "bare", "part"] ["thing"] (defScope st_law_takes_right) := ⟨rfl, rfl, rfl, by decide +kernel, rfl, by decide +kernel, by decide +kernel⟩
def b_law_takes_right : MS :=
    (sSeq (sPar 6 7 (aCons (eTup (aCons (eC (.str "take")) (aCons (eTup (aCons (eC (.int 0)) (aCons (eTup (aCons (eVar 0) (aCons (eC (.int (-1))) (pure [])))) (pure [])))) (aCons (eC (.tuple [(.tuple [(.int (-1)), (.int 9)])])) (pure []))))) (aCons (eCall 2 fquestion_of (aCons (eC (.tuple [(.int 2), (.int 1)])) (aCons (eC (.int 0)) (pure [])))) (pure []))))
    (sSeq (sSet 1 (eTup (aCons (eC (.int 2)) (aCons (eTup (aCons (eTup (aCons (eC (.tuple [(.int (-1)), (.int (-2))])) (aCons (eC (.tuple [(.tuple [(.int 0), (.tuple [(.int (-1)), (.int (-2))])])])) (aCons (eTup (aCons (eTup (aCons (eC (.int (-1))) (aCons (eVar 0) (pure [])))) (pure []))) (pure []))))) (aCons (eC (.tuple [(.tuple [(.int (-1)), (.int 9)]), (.tuple [(.tuple [(.int 0), (.tuple [(.int (-1)), (.int 9)])])]), (.tuple [])])) (pure [])))) (pure [])))))
    (sSeq (sIf (tOrD (tOf (eOp fNe (eCall 2 fchoices_at (aCons (eVar 6) (aCons (eVar 7) (pure [])))) (eC (.int 2)))) (tOf (eOp fNe (eCallD 2 fled_back 300 (aCons (eTup (aCons (eVar 6) (pure []))) (aCons (eVar 7) (pure [])))) (eVar 1)))) (sRet (eC (.bool false))) sNil)
    (sSeq (sSet 2 (eTup (aCons (eC (.str "take")) (aCons (eC (.tuple [(.int 0), (.tuple [(.int (-4)), (.int (-4))])])) (aCons (eTup (aCons (eTup (aCons (eC (.int (-4))) (aCons (eVar 0) (pure [])))) (pure []))) (pure []))))))
    (sSeq (sSet 3 (eCallD 2 fled_back 300 (aCons (eTup (aCons (eVar 2) (pure []))) (aCons (eC (.tuple [(.int 0), (.tuple [(.tuple [(.tuple []), (.tuple [(.tuple [(.int 0), (.tuple [(.int (-1)), (.int (-2))])])]), (.tuple [])]), (.tuple [(.tuple []), (.tuple [(.tuple [(.int 1), (.tuple [(.int (-1))])])]), (.tuple [(.tuple [(.int (-1)), (.int 2)])])])])])) (pure [])))))
    (sSeq (sSet 4 (eLst (aCons (eC (.tuple [(.tuple []), (.tuple [(.tuple [(.int 0), (.tuple [(.int (-1)), (.int (-2))])])]), (.tuple [(.tuple [(.int (-2)), (.int (-1))])])])) (aCons (eTup (aCons (eC (.tuple [])) (aCons (eTup (aCons (eTup (aCons (eC (.int 0)) (aCons (eTup (aCons (eVar 0) (aCons (eC (.int (-1))) (pure [])))) (pure [])))) (pure []))) (aCons (eC (.tuple [])) (pure []))))) (aCons (eC (.tuple [(.tuple []), (.tuple [(.tuple [(.int 1), (.tuple [(.int (-1))])])]), (.tuple [(.tuple [(.int (-1)), (.int 2)])])])) (pure []))))))
    (sSeq (sIf (tOrD (tOf (eOp fNe (eVar 3) (eTup (aCons (eC (.int 0)) (aCons (eTupOf (eSortQ (eVar 4))) (pure [])))))) (tOf (eOp fNe (eCall 2 fchoices_at (aCons (eVar 2) (aCons (eVar 3) (pure [])))) (eC (.int 5))))) (sRet (eC (.bool false))) sNil)
    (sSeq (sPar 8 9 (aCons (eC (.tuple [(.str "take"), (.tuple [(.int 0), (.tuple [(.int (-1)), (.int (-2))])]), (.tuple [])])) (aCons (eTup (aCons (eC (.str "take")) (aCons (eTup (aCons (eC (.int 0)) (aCons (eTup (aCons (eVar 0) (aCons (eC (.int (-1))) (pure [])))) (pure [])))) (aCons (eC (.tuple [])) (pure []))))) (pure []))))
    (sSeq (sIf (tOrD (tOf (eOp fNe (eCallD 2 fled_back 300 (aCons (eTup (aCons (eVar 8) (pure []))) (aCons (eVar 7) (pure [])))) (eC (.tuple [(.int 2), (.tuple [])])))) (tOf (eOp fNe (eCall 2 fchoices_at (aCons (eVar 8) (aCons (eVar 7) (pure [])))) (eC (.int 0))))) (sRet (eC (.bool false))) sNil)
    (sSeq (sSet 5 (eTup (aCons (eC (.int 0)) (aCons (eTup (aCons (eTup (aCons (eC (.tuple [])) (aCons (eTup (aCons (eTup (aCons (eC (.int 0)) (aCons (eTup (aCons (eVar 0) (aCons (eVar 0) (pure [])))) (pure [])))) (pure []))) (aCons (eC (.tuple [])) (pure []))))) (pure []))) (pure [])))))
    (sSeq (sIf (tOrD (tOf (eOp fNe (eCallD 2 fled_back 300 (aCons (eTup (aCons (eVar 9) (pure []))) (aCons (eVar 5) (pure [])))) (eC (.tuple [(.int 0), (.tuple [])])))) (tOf (eOp fNe (eCall 2 fchoices_at (aCons (eVar 9) (aCons (eVar 5) (pure [])))) (eC (.int 1))))) (sRet (eC (.bool false))) sNil)
    (sRet (eOp fEq (eCall 2 fchoices_at (aCons (eC (.tuple [(.str "take"), (.tuple [(.int 0), (.tuple [(.int (-1)), (.int (-2))])]), (.tuple [(.tuple [(.int 2), (.int 3)])])])) (aCons (eVar 5) (pure [])))) (eC (.int 1)))))))))))))))
def f_law_takes_right : Fd := runF 10 b_law_takes_right
set_option maxHeartbeats 2000007 in
theorem ok_law_takes_right {f : Addr} {fd : FuncData} (Fn : Fun K "_law_takes_right" "_law_takes_right" st_law_takes_right f fd) (b_sorted : mg "sorted" = none) (b_tuple : mg "tuple" = none) (cquestion_of : Fnk P w K mg base "question_of" 2 1 fquestion_of) (cchoices_at : Fnk P w K mg base "choices_at" 2 5 fchoices_at) (cled_back : FnkW P w K mg base "led_back" 2 7 fled_back "tries" 300) : DG.FnG P w K mg base 8 f fd ["thing"] (spD K w mg 1 f_law_takes_right) := by
    exact fn_ok Fn sc_law_takes_right fun cdv A outer s H E hg hr => by
      have hN := sc_law_takes_right.nd
      exact (s_cons (s_par (i := 6) (j := 7) rfl hN (d_cons (d_tup (d_cons d_str (d_cons (d_tup (d_cons d_int (d_cons (d_tup (d_cons (d_var 0 (pv 0)) (d_cons (d_const _ (by rfl)) d_nil (star_cons rfl)) (star_cons rfl))) d_nil (star_cons rfl)) (star_cons rfl))) (d_cons (d_const _ (by rfl)) d_nil (star_cons rfl)) (star_cons rfl)) (star_cons rfl))) (d_cons (d_call (Fnk.has cquestion_of hg hr passB) (runF_nosl _ _) rfl (d_cons (d_const _ (by rfl)) (d_cons d_int d_nil (star_cons rfl)) (star_cons rfl))) d_nil (star_cons rfl)) (star_cons rfl)))
    (s_cons (s_set 1 hN (d_tup (d_cons d_int (d_cons (d_tup (d_cons (d_tup (d_cons (d_const _ (by rfl)) (d_cons (d_const _ (by rfl)) (d_cons (d_tup (d_cons (d_tup (d_cons (d_const _ (by rfl)) (d_cons (d_var 0 (pv 0)) d_nil (star_cons rfl)) (star_cons rfl))) d_nil (star_cons rfl))) d_nil (star_cons rfl)) (star_cons rfl)) (star_cons rfl))) (d_cons (d_const _ (by rfl)) d_nil (star_cons rfl)) (star_cons rfl))) d_nil (star_cons rfl)) (star_cons rfl))))
    (s_cons (s_if (PW.pt (dw_or (dt_cmp (o_ne (huB hr)) (d_call (Fnk.has cchoices_at hg hr passB) (runF_nosl _ _) rfl (d_cons (d_var 6 (pv 6)) (d_cons (d_var 7 (pv 7)) d_nil (star_cons rfl)) (star_cons rfl))) d_int (nomark _)) (dw_or1 (dt_cmp (o_ne (huB hr)) (d_callD cled_back hg hr passB (runF_nosl _ _) rfl (d_cons (d_tup (d_cons (d_var 6 (pv 6)) d_nil (star_cons rfl))) (d_cons (d_var 7 (pv 7)) d_nil (star_cons rfl)) (star_cons rfl))) (d_var 1 (pv 1)) (nomark _))))) (s_one (s_ret d_bl)) s_nil)
    (s_cons (s_set 2 hN (d_tup (d_cons d_str (d_cons (d_const _ (by rfl)) (d_cons (d_tup (d_cons (d_tup (d_cons (d_const _ (by rfl)) (d_cons (d_var 0 (pv 0)) d_nil (star_cons rfl)) (star_cons rfl))) d_nil (star_cons rfl))) d_nil (star_cons rfl)) (star_cons rfl)) (star_cons rfl))))
    (s_cons (s_set 3 hN (d_callD cled_back hg hr passB (runF_nosl _ _) rfl (d_cons (d_tup (d_cons (d_var 2 (pv 2)) d_nil (star_cons rfl))) (d_cons (d_const _ (by rfl)) d_nil (star_cons rfl)) (star_cons rfl))))
    (s_cons (s_set 4 hN (d_lst (d_cons (d_const _ (by rfl)) (d_cons (d_tup (d_cons (d_const _ (by rfl)) (d_cons (d_tup (d_cons (d_tup (d_cons d_int (d_cons (d_tup (d_cons (d_var 0 (pv 0)) (d_cons (d_const _ (by rfl)) d_nil (star_cons rfl)) (star_cons rfl))) d_nil (star_cons rfl)) (star_cons rfl))) d_nil (star_cons rfl))) (d_cons (d_const _ (by rfl)) d_nil (star_cons rfl)) (star_cons rfl)) (star_cons rfl))) (d_cons (d_const _ (by rfl)) d_nil (star_cons rfl)) (star_cons rfl)) (star_cons rfl))))
    (s_cons (s_if (PW.pt (dw_or (dt_cmp (o_ne (huB hr)) (d_var 3 (pv 3)) (d_tup (d_cons d_int (d_cons (d_tupOf (d_sortQ (huB hr) (d_var 4 (pv 4)) b_sorted) b_tuple) d_nil (star_cons rfl)) (star_cons rfl))) (nomark _)) (dw_or1 (dt_cmp (o_ne (huB hr)) (d_call (Fnk.has cchoices_at hg hr passB) (runF_nosl _ _) rfl (d_cons (d_var 2 (pv 2)) (d_cons (d_var 3 (pv 3)) d_nil (star_cons rfl)) (star_cons rfl))) d_int (nomark _))))) (s_one (s_ret d_bl)) s_nil)
    (s_cons (s_par (i := 8) (j := 9) rfl hN (d_cons (d_const _ (by rfl)) (d_cons (d_tup (d_cons d_str (d_cons (d_tup (d_cons d_int (d_cons (d_tup (d_cons (d_var 0 (pv 0)) (d_cons (d_const _ (by rfl)) d_nil (star_cons rfl)) (star_cons rfl))) d_nil (star_cons rfl)) (star_cons rfl))) (d_cons (d_const _ (by rfl)) d_nil (star_cons rfl)) (star_cons rfl)) (star_cons rfl))) d_nil (star_cons rfl)) (star_cons rfl)))
    (s_cons (s_if (PW.pt (dw_or (dt_cmp (o_ne (huB hr)) (d_callD cled_back hg hr passB (runF_nosl _ _) rfl (d_cons (d_tup (d_cons (d_var 8 (pv 8)) d_nil (star_cons rfl))) (d_cons (d_var 7 (pv 7)) d_nil (star_cons rfl)) (star_cons rfl))) (d_const _ (by rfl)) (nomark _)) (dw_or1 (dt_cmp (o_ne (huB hr)) (d_call (Fnk.has cchoices_at hg hr passB) (runF_nosl _ _) rfl (d_cons (d_var 8 (pv 8)) (d_cons (d_var 7 (pv 7)) d_nil (star_cons rfl)) (star_cons rfl))) d_int (nomark _))))) (s_one (s_ret d_bl)) s_nil)
    (s_cons (s_set 5 hN (d_tup (d_cons d_int (d_cons (d_tup (d_cons (d_tup (d_cons (d_const _ (by rfl)) (d_cons (d_tup (d_cons (d_tup (d_cons d_int (d_cons (d_tup (d_cons (d_var 0 (pv 0)) (d_cons (d_var 0 (pv 0)) d_nil (star_cons rfl)) (star_cons rfl))) d_nil (star_cons rfl)) (star_cons rfl))) d_nil (star_cons rfl))) (d_cons (d_const _ (by rfl)) d_nil (star_cons rfl)) (star_cons rfl)) (star_cons rfl))) d_nil (star_cons rfl))) d_nil (star_cons rfl)) (star_cons rfl))))
    (s_cons (s_if (PW.pt (dw_or (dt_cmp (o_ne (huB hr)) (d_callD cled_back hg hr passB (runF_nosl _ _) rfl (d_cons (d_tup (d_cons (d_var 9 (pv 9)) d_nil (star_cons rfl))) (d_cons (d_var 5 (pv 5)) d_nil (star_cons rfl)) (star_cons rfl))) (d_const _ (by rfl)) (nomark _)) (dw_or1 (dt_cmp (o_ne (huB hr)) (d_call (Fnk.has cchoices_at hg hr passB) (runF_nosl _ _) rfl (d_cons (d_var 9 (pv 9)) (d_cons (d_var 5 (pv 5)) d_nil (star_cons rfl)) (star_cons rfl))) d_int (nomark _))))) (s_one (s_ret d_bl)) s_nil)
    (s_one (s_ret (d_cmp (o_eq (huB hr)) (d_call (Fnk.has cchoices_at hg hr passB) (runF_nosl _ _) rfl (d_cons (d_const _ (by rfl)) (d_cons (d_var 5 (pv 5)) d_nil (star_cons rfl)) (star_cons rfl))) d_int (nomark _)))))))))))))))

abbrev st_law_puts_right : Stmt := top 35
theorem sc_law_puts_right : FnScope ["thing", "both", "other", "put", "twice", "kept", "made"] ["thing"] (defScope st_law_puts_right) := ⟨rfl, rfl, rfl, by decide +kernel, rfl, by decide +kernel, by decide +kernel⟩
def b_law_puts_right : MS :=
    (sSeq (sParV 2 (aCons (eTup (aCons (eC (.str "put")) (aCons (eTup (aCons (eC (.int 0)) (aCons (eTup (aCons (eVar 0) (aCons (eC (.int (-1))) (pure [])))) (pure [])))) (aCons (eC (.tuple [(.tuple [(.int 1), (.tuple [(.int (-1))])])])) (aCons (eC (.tuple [(.tuple [(.int (-1)), (.int 7)])])) (pure [])))))) (aCons (eTup (aCons (eC (.int 0)) (aCons (eTup (aCons (eTup (aCons (eC (.tuple [])) (aCons (eMul (eC (.tuple [(.tuple [(.int 0), (.tuple [(.int (-1)), (.int (-2))])])])) (eC (.int 2))) (aCons (eC (.tuple [])) (pure []))))) (pure []))) (pure [])))) (pure []))) (gConsV (setSl 3) (gConsV (setSl 4) gNilV)))
    (sSeq (sAsg (eC (.tuple [(.tuple [(.tuple []), (.tuple [(.tuple [(.int 0), (.tuple [(.int (-1)), (.int (-2))])])]), (.tuple [])]), (.tuple [(.tuple []), (.tuple [(.tuple [(.int 1), (.tuple [(.int (-1))])])]), (.tuple [(.tuple [(.int (-1)), (.int 7)])])])])) (gTupD 2 (gConsD (setSl 5) (gConsD (setSl 6) gNilD))))
    (sSeq (sSet 1 (eTup (aCons (eC (.tuple [])) (aCons (eTup (aCons (eTup (aCons (eC (.int 0)) (aCons (eTup (aCons (eVar 0) (aCons (eC (.int (-1))) (pure [])))) (pure [])))) (aCons (eC (.tuple [(.int 1), (.tuple [(.int (-1))])])) (pure [])))) (aCons (eC (.tuple [(.tuple [(.int (-1)), (.int 7)])])) (pure []))))))
    (sSeq (sSet 2 (eTup (aCons (eC (.tuple [])) (aCons (eTup (aCons (eC (.tuple [(.int 1), (.tuple [(.int (-1))])])) (aCons (eTup (aCons (eC (.int 0)) (aCons (eTup (aCons (eVar 0) (aCons (eC (.int (-1))) (pure [])))) (pure [])))) (pure [])))) (aCons (eC (.tuple [(.tuple [(.int (-1)), (.int 7)])])) (pure []))))))
    (sSeq (sIf (tOrD (tOf (eOp fNe (eCall 2 fchoices_at (aCons (eVar 3) (aCons (eVar 4) (pure [])))) (eC (.int 4)))) (tOf (eOp fNe (eCallD 2 fled_back 300 (aCons (eTup (aCons (eVar 3) (pure []))) (aCons (eVar 4) (pure [])))) (eTup (aCons (eC (.int 0)) (aCons (eTupOf (eSortQ (eLst (aCons (eVar 5) (aCons (eVar 6) (aCons (eVar 1) (aCons (eVar 2) (pure [])))))))) (pure []))))))) (sRet (eC (.bool false))) sNil)
    (sSeq (sIf (tOf (eOp fNe (eCallD 2 fled_back 300 (aCons (eTup (aCons (eVar 3) (pure []))) (aCons (eCallD 2 fled_back 300 (aCons (eC (.tuple [])) (aCons (eVar 4) (pure [])))) (pure [])))) (eTup (aCons (eC (.int 0)) (aCons (eTupOf (eSortQ (eLst (aCons (eVar 5) (aCons (eVar 6) (pure [])))))) (pure [])))))) (sRet (eC (.bool false))) sNil)
    (sRet (eOp fEq (eOut "LimitExceeded" "limit" "limit" (eCallK 2 fled_back (aCons (eTup (aCons (eVar 3) (pure []))) (aCons (eVar 4) (pure []))) (eC (.int 3)))) (newL [(.str "limit"), (.int 3)])))))))))
def f_law_puts_right : Fd := runF 7 b_law_puts_right
set_option maxHeartbeats 2000007 in
theorem ok_law_puts_right {f c : Addr} {fd : FuncData} (Fn : DG.FunC K "_law_puts_right" "_law_puts_right" st_law_puts_right f fd c) (b_sorted : mg "sorted" = none) (b_tuple : mg "tuple" = none) (cchoices_at : Fnk P w K mg base "choices_at" 2 5 fchoices_at) (cled_back : FnkW P w K mg base "led_back" 2 7 fled_back "tries" 300) (hT : ClsTb K mg tb) (o_law_outcome : OutFn K mg "_law_outcome" "call" "LimitExceeded" "e" "limit" "limit") (x_LimitExceeded : ∃ Cc, IsM K mg tb "LimitExceeded" Cc) (la : LamAt base mg c (lamQ "_law_puts_right")) : DG.FnG P w K mg base 10 f fd ["thing"] (spD K w mg 1 f_law_puts_right) := by
    exact fn_okC Fn sc_law_puts_right fun A outer s H E hg hr => by
      have hN := sc_law_puts_right.nd
      exact (s_cons (s_parV rfl (d_cons (d_tup (d_cons d_str (d_cons (d_tup (d_cons d_int (d_cons (d_tup (d_cons (d_var 0 (pv 0)) (d_cons (d_const _ (by rfl)) d_nil (star_cons rfl)) (star_cons rfl))) d_nil (star_cons rfl)) (star_cons rfl))) (d_cons (d_const _ (by rfl)) (d_cons (d_const _ (by rfl)) d_nil (star_cons rfl)) (star_cons rfl)) (star_cons rfl)) (star_cons rfl))) (d_cons (d_tup (d_cons d_int (d_cons (d_tup (d_cons (d_tup (d_cons (d_const _ (by rfl)) (d_cons (d_mul (d_const _ (by rfl)) d_int) (d_cons (d_const _ (by rfl)) d_nil (star_cons rfl)) (star_cons rfl)) (star_cons rfl))) d_nil (star_cons rfl))) d_nil (star_cons rfl)) (star_cons rfl))) d_nil (star_cons rfl)) (star_cons rfl)) (v_cons (g_name 3 hN) (v_cons (g_name 4 hN) v_nil)))
    (s_cons (s_asg (d_const _ (by rfl)) (g_tup rfl (g_cons (g_name 5 hN) (g_cons (g_name 6 hN) g_nil))))
    (s_cons (s_set 1 hN (d_tup (d_cons (d_const _ (by rfl)) (d_cons (d_tup (d_cons (d_tup (d_cons d_int (d_cons (d_tup (d_cons (d_var 0 (pv 0)) (d_cons (d_const _ (by rfl)) d_nil (star_cons rfl)) (star_cons rfl))) d_nil (star_cons rfl)) (star_cons rfl))) (d_cons (d_const _ (by rfl)) d_nil (star_cons rfl)) (star_cons rfl))) (d_cons (d_const _ (by rfl)) d_nil (star_cons rfl)) (star_cons rfl)) (star_cons rfl))))
    (s_cons (s_set 2 hN (d_tup (d_cons (d_const _ (by rfl)) (d_cons (d_tup (d_cons (d_const _ (by rfl)) (d_cons (d_tup (d_cons d_int (d_cons (d_tup (d_cons (d_var 0 (pv 0)) (d_cons (d_const _ (by rfl)) d_nil (star_cons rfl)) (star_cons rfl))) d_nil (star_cons rfl)) (star_cons rfl))) d_nil (star_cons rfl)) (star_cons rfl))) (d_cons (d_const _ (by rfl)) d_nil (star_cons rfl)) (star_cons rfl)) (star_cons rfl))))
    (s_cons (s_if (PW.pt (dw_or (dt_cmp (o_ne (huB hr)) (d_call (Fnk.has cchoices_at hg hr passB) (runF_nosl _ _) rfl (d_cons (d_var 3 (pv 3)) (d_cons (d_var 4 (pv 4)) d_nil (star_cons rfl)) (star_cons rfl))) d_int (nomark _)) (dw_or1 (dt_cmp (o_ne (huB hr)) (d_callD cled_back hg hr passB (runF_nosl _ _) rfl (d_cons (d_tup (d_cons (d_var 3 (pv 3)) d_nil (star_cons rfl))) (d_cons (d_var 4 (pv 4)) d_nil (star_cons rfl)) (star_cons rfl))) (d_tup (d_cons d_int (d_cons (d_tupOf (d_sortQ (huB hr) (d_lst (d_cons (d_var 5 (pv 5)) (d_cons (d_var 6 (pv 6)) (d_cons (d_var 1 (pv 1)) (d_cons (d_var 2 (pv 2)) d_nil (star_cons rfl)) (star_cons rfl)) (star_cons rfl)) (star_cons rfl))) b_sorted) b_tuple) d_nil (star_cons rfl)) (star_cons rfl))) (nomark _))))) (s_one (s_ret d_bl)) s_nil)
    (s_cons (s_if (dt_cmp (o_ne (huB hr)) (d_callD cled_back hg hr passB (runF_nosl _ _) rfl (d_cons (d_tup (d_cons (d_var 3 (pv 3)) d_nil (star_cons rfl))) (d_cons (d_callD cled_back hg hr passB (runF_nosl _ _) rfl (d_cons (d_const _ (by rfl)) (d_cons (d_var 4 (pv 4)) d_nil (star_cons rfl)) (star_cons rfl))) d_nil (star_cons rfl)) (star_cons rfl))) (d_tup (d_cons d_int (d_cons (d_tupOf (d_sortQ (huB hr) (d_lst (d_cons (d_var 5 (pv 5)) (d_cons (d_var 6 (pv 6)) d_nil (star_cons rfl)) (star_cons rfl))) b_sorted) b_tuple) d_nil (star_cons rfl)) (star_cons rfl))) (nomark _)) (s_one (s_ret d_bl)) s_nil)
    (s_one (s_ret (d_cmp (o_eq (huB hr)) (d_out (k := 7) o_law_outcome x_LimitExceeded hT la rfl hg hr (fun A outer s H E f' c' hg hr hpl => (d_callK cled_back hg hr hpl (runF_nosl _ _) rfl (d_cons (d_tup (d_cons (d_var 3 (pv 3)) d_nil (star_cons rfl))) (d_cons (d_var 4 (pv 4)) d_nil (star_cons rfl)) (star_cons rfl)) d_int))) (d_lstC (by rfl) (by decide)) (nomark _))))))))))

abbrev st_law_turns_right : Stmt := top 36
theorem sc_law_turns_right : FnScope ["thing", "due", "flat", "some", "turn", "pairs"] ["thing"] (defScope st_law_turns_right) := ⟨rfl, rfl, rfl, by decide +kernel, rfl, by decide +kernel, by decide +kernel⟩
def b_law_turns_right : MS :=
    (sSeq (sPar 4 5 (aCons (eTup (aCons (eC (.str "turn")) (aCons (eC (.tuple [(.int 0), (.tuple [(.int (-1)), (.int (-2))])])) (aCons (eTup (aCons (eTup (aCons (eC (.int (-2))) (aCons (eVar 0) (pure [])))) (pure []))) (aCons (eC (.tuple [(.int (-2)), (.int (-1))])) (pure [])))))) (aCons (eCall 2 fquestion_of (aCons (eC (.tuple [(.int 2)])) (aCons (eC (.int 0)) (pure [])))) (pure []))))
    (sSeq (sSet 1 (eLst (aCons (eTup (aCons (eTup (aCons (eC (.int (-1))) (aCons (eVar 0) (pure [])))) (aCons (eTup (aCons (eTup (aCons (eC (.int 0)) (aCons (eTup (aCons (eC (.int (-1))) (aCons (eVar 0) (pure [])))) (pure [])))) (pure []))) (aCons (eC (.tuple [])) (pure []))))) (aCons (eTup (aCons (eC (.tuple [(.int (-2)), (.int (-1))])) (aCons (eC (.tuple [(.tuple [(.int 0), (.tuple [(.int (-1)), (.int (-2))])])])) (aCons (eTup (aCons (eTup (aCons (eC (.int (-2))) (aCons (eVar 0) (pure [])))) (pure []))) (pure []))))) (pure [])))))
    (sSeq (sIf (tOrD (tOf (eOp fNe (eCallD 2 fled_back 300 (aCons (eTup (aCons (eVar 4) (pure []))) (aCons (eVar 5) (pure [])))) (eTup (aCons (eC (.int 2)) (aCons (eTupOf (eSortQ (eVar 1))) (pure [])))))) (tOf (eOp fNe (eCall 2 fchoices_at (aCons (eVar 4) (aCons (eVar 5) (pure [])))) (eC (.int 2))))) (sRet (eC (.bool false))) sNil)
    (sSeq (sSet 2 (eTup (aCons (eC (.str "turn")) (aCons (eC (.tuple [(.int 0), (.tuple [(.int (-1)), (.int (-2))])])) (aCons (eC (.tuple [])) (aCons (eTup (aCons (eVar 0) (aCons (eVar 0) (pure [])))) (pure [])))))))
    (sSeq (sIf (tOf (eOp fNe (eCallD 2 fled_back 300 (aCons (eTup (aCons (eVar 2) (pure []))) (aCons (eVar 5) (pure [])))) (eTup (aCons (eC (.int 2)) (aCons (eTup (aCons (eTup (aCons (eTup (aCons (eVar 0) (aCons (eVar 0) (pure [])))) (aCons (eC (.tuple [(.tuple [(.int 0), (.tuple [(.int (-1)), (.int (-2))])])])) (aCons (eC (.tuple [])) (pure []))))) (pure []))) (pure [])))))) (sRet (eC (.bool false))) sNil)
    (sSeq (sSet 3 (eCallD 2 fled_back 300 (aCons (eTup (aCons (eVar 2) (aCons (eVar 4) (pure [])))) (aCons (eVar 5) (pure [])))))
    (sRet (eOp fEq (eVar 3) (eTup (aCons (eC (.int 2)) (aCons (eTup (aCons (eTup (aCons (eTup (aCons (eVar 0) (aCons (eVar 0) (pure [])))) (aCons (eC (.tuple [(.tuple [(.int 0), (.tuple [(.int (-1)), (.int (-2))])])])) (aCons (eC (.tuple [])) (pure []))))) (pure []))) (pure []))))))))))))
def f_law_turns_right : Fd := runF 6 b_law_turns_right
set_option maxHeartbeats 2000007 in
theorem ok_law_turns_right {f : Addr} {fd : FuncData} (Fn : Fun K "_law_turns_right" "_law_turns_right" st_law_turns_right f fd) (b_sorted : mg "sorted" = none) (b_tuple : mg "tuple" = none) (cquestion_of : Fnk P w K mg base "question_of" 2 1 fquestion_of) (cchoices_at : Fnk P w K mg base "choices_at" 2 5 fchoices_at) (cled_back : FnkW P w K mg base "led_back" 2 7 fled_back "tries" 300) : DG.FnG P w K mg base 8 f fd ["thing"] (spD K w mg 1 f_law_turns_right) := by
    exact fn_ok Fn sc_law_turns_right fun cdv A outer s H E hg hr => by
      have hN := sc_law_turns_right.nd
      exact (s_cons (s_par (i := 4) (j := 5) rfl hN (d_cons (d_tup (d_cons d_str (d_cons (d_const _ (by rfl)) (d_cons (d_tup (d_cons (d_tup (d_cons (d_const _ (by rfl)) (d_cons (d_var 0 (pv 0)) d_nil (star_cons rfl)) (star_cons rfl))) d_nil (star_cons rfl))) (d_cons (d_const _ (by rfl)) d_nil (star_cons rfl)) (star_cons rfl)) (star_cons rfl)) (star_cons rfl))) (d_cons (d_call (Fnk.has cquestion_of hg hr passB) (runF_nosl _ _) rfl (d_cons (d_const _ (by rfl)) (d_cons d_int d_nil (star_cons rfl)) (star_cons rfl))) d_nil (star_cons rfl)) (star_cons rfl)))
    (s_cons (s_set 1 hN (d_lst (d_cons (d_tup (d_cons (d_tup (d_cons (d_const _ (by rfl)) (d_cons (d_var 0 (pv 0)) d_nil (star_cons rfl)) (star_cons rfl))) (d_cons (d_tup (d_cons (d_tup (d_cons d_int (d_cons (d_tup (d_cons (d_const _ (by rfl)) (d_cons (d_var 0 (pv 0)) d_nil (star_cons rfl)) (star_cons rfl))) d_nil (star_cons rfl)) (star_cons rfl))) d_nil (star_cons rfl))) (d_cons (d_const _ (by rfl)) d_nil (star_cons rfl)) (star_cons rfl)) (star_cons rfl))) (d_cons (d_tup (d_cons (d_const _ (by rfl)) (d_cons (d_const _ (by rfl)) (d_cons (d_tup (d_cons (d_tup (d_cons (d_const _ (by rfl)) (d_cons (d_var 0 (pv 0)) d_nil (star_cons rfl)) (star_cons rfl))) d_nil (star_cons rfl))) d_nil (star_cons rfl)) (star_cons rfl)) (star_cons rfl))) d_nil (star_cons rfl)) (star_cons rfl))))
    (s_cons (s_if (PW.pt (dw_or (dt_cmp (o_ne (huB hr)) (d_callD cled_back hg hr passB (runF_nosl _ _) rfl (d_cons (d_tup (d_cons (d_var 4 (pv 4)) d_nil (star_cons rfl))) (d_cons (d_var 5 (pv 5)) d_nil (star_cons rfl)) (star_cons rfl))) (d_tup (d_cons d_int (d_cons (d_tupOf (d_sortQ (huB hr) (d_var 1 (pv 1)) b_sorted) b_tuple) d_nil (star_cons rfl)) (star_cons rfl))) (nomark _)) (dw_or1 (dt_cmp (o_ne (huB hr)) (d_call (Fnk.has cchoices_at hg hr passB) (runF_nosl _ _) rfl (d_cons (d_var 4 (pv 4)) (d_cons (d_var 5 (pv 5)) d_nil (star_cons rfl)) (star_cons rfl))) d_int (nomark _))))) (s_one (s_ret d_bl)) s_nil)
    (s_cons (s_set 2 hN (d_tup (d_cons d_str (d_cons (d_const _ (by rfl)) (d_cons (d_const _ (by rfl)) (d_cons (d_tup (d_cons (d_var 0 (pv 0)) (d_cons (d_var 0 (pv 0)) d_nil (star_cons rfl)) (star_cons rfl))) d_nil (star_cons rfl)) (star_cons rfl)) (star_cons rfl)) (star_cons rfl))))
    (s_cons (s_if (dt_cmp (o_ne (huB hr)) (d_callD cled_back hg hr passB (runF_nosl _ _) rfl (d_cons (d_tup (d_cons (d_var 2 (pv 2)) d_nil (star_cons rfl))) (d_cons (d_var 5 (pv 5)) d_nil (star_cons rfl)) (star_cons rfl))) (d_tup (d_cons d_int (d_cons (d_tup (d_cons (d_tup (d_cons (d_tup (d_cons (d_var 0 (pv 0)) (d_cons (d_var 0 (pv 0)) d_nil (star_cons rfl)) (star_cons rfl))) (d_cons (d_const _ (by rfl)) (d_cons (d_const _ (by rfl)) d_nil (star_cons rfl)) (star_cons rfl)) (star_cons rfl))) d_nil (star_cons rfl))) d_nil (star_cons rfl)) (star_cons rfl))) (nomark _)) (s_one (s_ret d_bl)) s_nil)
    (s_cons (s_set 3 hN (d_callD cled_back hg hr passB (runF_nosl _ _) rfl (d_cons (d_tup (d_cons (d_var 2 (pv 2)) (d_cons (d_var 4 (pv 4)) d_nil (star_cons rfl)) (star_cons rfl))) (d_cons (d_var 5 (pv 5)) d_nil (star_cons rfl)) (star_cons rfl))))
    (s_one (s_ret (d_cmp (o_eq (huB hr)) (d_var 3 (pv 3)) (d_tup (d_cons d_int (d_cons (d_tup (d_cons (d_tup (d_cons (d_tup (d_cons (d_var 0 (pv 0)) (d_cons (d_var 0 (pv 0)) d_nil (star_cons rfl)) (star_cons rfl))) (d_cons (d_const _ (by rfl)) (d_cons (d_const _ (by rfl)) d_nil (star_cons rfl)) (star_cons rfl)) (star_cons rfl))) d_nil (star_cons rfl))) d_nil (star_cons rfl)) (star_cons rfl))) (nomark _))))))))))

abbrev st_law_sizes_right : Stmt := top 37
theorem sc_law_sizes_right : FnScope ["body", "put", "far", "wide", "star", "part", "thing", "at"] [] (defScope st_law_sizes_right) := ⟨rfl, rfl, rfl, by decide +kernel, rfl, by decide +kernel, by decide +kernel⟩
def b_law_sizes_right : MS :=
    (sSeq (sSet 0 (eTupOf (eLc [6] (srcRng2 (eC (.int 1)) (eC (.int 5))) (stepC (setSl 6) tYesD (eTup (aCons (eC (.int 0)) (aCons (eTup (aCons (eVar 6) (pure []))) (pure []))))))))
    (sSeq (sSet 1 (eC (.tuple [(.str "put"), (.tuple [(.int 0), (.tuple [(.int (-1))])]), (.tuple [(.tuple [(.int 1), (.tuple [(.int (-1))])]), (.tuple [(.int 1), (.tuple [(.int 9)])])]), (.tuple [])])))
    (sSeq (sIf (tOrD (tOf (eOp fNe (eFn lenD (eIdx (eCallD 2 fled_back 300 (aCons (eTup (aCons (eVar 1) (pure []))) (aCons (eTup (aCons (eC (.int 0)) (aCons (eTup (aCons (eTup (aCons (eC (.tuple [])) (aCons (eVar 0) (aCons (eC (.tuple [])) (pure []))))) (pure []))) (pure [])))) (pure [])))) (eC (.int 1)))) (eC (.int 16)))) (tOf (eOp fNe (eCall 2 fchoices_at (aCons (eVar 1) (aCons (eTup (aCons (eC (.int 0)) (aCons (eTup (aCons (eTup (aCons (eC (.tuple [])) (aCons (eVar 0) (aCons (eC (.tuple [])) (pure []))))) (pure []))) (pure [])))) (pure [])))) (eC (.int 16))))) (sRet (eC (.bool false))) sNil)
    (sSeq (sSet 2 (eC (.tuple [(.str "put"), (.tuple [(.int 0), (.tuple [(.int (-1))])]), (.tuple [(.tuple [(.int 1), (.tuple [(.int (-1))])]), (.tuple [(.int 1), (.tuple [(.int (-2))])])]), (.tuple [])])))
    (sSeq (sSet 3 (eTupOf (eLc [7] (srcRng (eC (.int 4))) (stepC (setSl 7) tYesD (eTup (aCons (eC (.int 0)) (aCons (eTup (aCons (eOp fSub (eC (.int (-1))) (eVar 7)) (pure []))) (pure []))))))))
    (sSeq (sIf (tOf (eOp fNe (eOut "LimitExceeded" "limit" "limit" (eCallK 2 fled_back (aCons (eTup (aCons (eVar 2) (pure []))) (aCons (eTup (aCons (eC (.int 0)) (aCons (eTup (aCons (eTup (aCons (eC (.tuple [])) (aCons (eVar 3) (aCons (eC (.tuple [])) (pure []))))) (pure []))) (pure [])))) (pure []))) (eC (.int 900)))) (newL [(.str "limit"), (.int 900)]))) (sRet (eC (.bool false))) sNil)
    (sSeq (sIf (tOf (eOp fNe (eFn lenD (eIdx (eCallD 2 fled_back 300 (aCons (eTup (aCons (eVar 2) (pure []))) (aCons (eTup (aCons (eC (.int 0)) (aCons (eTup (aCons (eTup (aCons (eC (.tuple [])) (aCons (eSl (eVar 3) oNone (oSome (eC (.int 3)))) (aCons (eC (.tuple [])) (pure []))))) (pure []))) (pure [])))) (pure [])))) (eC (.int 1)))) (eC (.int 8)))) (sRet (eC (.bool false))) sNil)
    (sSeq (sSet 4 (eC (.tuple [(.str "put"), (.tuple [(.int 0), (.tuple [(.int (-1))])]), (.tuple [(.tuple [(.int 1), (.tuple [(.int (-1)), (.int (-2))])]), (.tuple [(.int 1), (.tuple [(.int (-1)), (.int (-3))])])]), (.tuple [])])))
    (sSeq (sIf (tOf (eOp fNe (eOut "LimitExceeded" "limit" "limit" (eCallD 2 fled_back 300 (aCons (eTup (aCons (eVar 4) (pure []))) (aCons (eTup (aCons (eC (.int 0)) (aCons (eTup (aCons (eTup (aCons (eC (.tuple [])) (aCons (eSl (eVar 3) oNone (oSome (eC (.int 3)))) (aCons (eC (.tuple [])) (pure []))))) (pure []))) (pure [])))) (pure []))))) (newL [(.str "limit"), (.int 300)]))) (sRet (eC (.bool false))) sNil)
    (sSeq (sIf (tOf (eOp fNe (eFn lenD (eIdx (eCallD 2 fled_back 300 (aCons (eTup (aCons (eVar 4) (pure []))) (aCons (eTup (aCons (eC (.int 0)) (aCons (eTup (aCons (eTup (aCons (eC (.tuple [])) (aCons (eSl (eVar 3) oNone (oSome (eC (.int 2)))) (aCons (eC (.tuple [])) (pure []))))) (pure []))) (pure [])))) (pure [])))) (eC (.int 1)))) (eC (.int 4)))) (sRet (eC (.bool false))) sNil)
    (sSeq (sSet 5 (eC (.tuple [(.tuple [(.int (-7)), (.int 3)]), (.tuple [(.tuple [(.int 0), (.tuple [(.int (-2))])]), (.tuple [(.int 0), (.tuple [(.int (-7))])]), (.tuple [(.int 0), (.tuple [(.int (-2))])]), (.tuple [(.int 0), (.tuple [(.int 5)])])]), (.tuple [(.tuple [(.int (-7)), (.int (-2))]), (.tuple [(.int (-2)), (.int 4)]), (.tuple [(.int 3), (.int 5)])])])))
    (sRet (eOp fEq (eCall 1 fnormal (aCons (eVar 5) (pure []))) (eC (.tuple [(.tuple [(.int (-2)), (.int 3)]), (.tuple [(.tuple [(.int 0), (.tuple [(.int (-1))])]), (.tuple [(.int 0), (.tuple [(.int (-2))])]), (.tuple [(.int 0), (.tuple [(.int 5)])])]), (.tuple [(.tuple [(.int (-2)), (.int (-1))]), (.tuple [(.int (-1)), (.int 4)])])])))))))))))))))
def f_law_sizes_right : Fd := runF 8 b_law_sizes_right
set_option maxHeartbeats 2000007 in
theorem ok_law_sizes_right {f c : Addr} {fd : FuncData} (Fn : DG.FunC K "_law_sizes_right" "_law_sizes_right" st_law_sizes_right f fd c) (b_len : mg "len" = none) (b_range : mg "range" = none) (b_tuple : mg "tuple" = none) (cnormal : Fnk P w K mg base "normal" 1 3 fnormal) (cchoices_at : Fnk P w K mg base "choices_at" 2 5 fchoices_at) (cled_back : FnkW P w K mg base "led_back" 2 7 fled_back "tries" 300) (hT : ClsTb K mg tb) (o_law_outcome : OutFn K mg "_law_outcome" "call" "LimitExceeded" "e" "limit" "limit") (x_LimitExceeded : ∃ Cc, IsM K mg tb "LimitExceeded" Cc) (la : LamAt base mg c (lamQ "_law_sizes_right")) : DG.FnG P w K mg base 10 f fd [] (spD K w mg 0 f_law_sizes_right) := by
    exact fn_okC Fn sc_law_sizes_right fun A outer s H E hg hr => by
      have hN := sc_law_sizes_right.nd
      exact (s_cons (s_set 0 hN (d_tupOf (d_lc (own := [("thing", 6)]) rfl hN (blkOk_by (by rfl)) (by decide) (i_rng2 rfl b_range d_int d_int) (fun _ _ _ _ _ => (g_name 6 hN)) (fun _ _ _ _ _ => ts_nil) (fun _ _ _ _ _ => (d_tup (d_cons d_int (d_cons (d_tup (d_cons (d_var 6 (pv 6)) d_nil (star_cons rfl))) d_nil (star_cons rfl)) (star_cons rfl))))) b_tuple))
    (s_cons (s_set 1 hN (d_const _ (by rfl)))
    (s_cons (s_if (PW.pt (dw_or (dt_cmp (o_ne (huB hr)) (d_len (d_idx (d_callD cled_back hg hr passB (runF_nosl _ _) rfl (d_cons (d_tup (d_cons (d_var 1 (pv 1)) d_nil (star_cons rfl))) (d_cons (d_tup (d_cons d_int (d_cons (d_tup (d_cons (d_tup (d_cons (d_const _ (by rfl)) (d_cons (d_var 0 (pv 0)) (d_cons (d_const _ (by rfl)) d_nil (star_cons rfl)) (star_cons rfl)) (star_cons rfl))) d_nil (star_cons rfl))) d_nil (star_cons rfl)) (star_cons rfl))) d_nil (star_cons rfl)) (star_cons rfl))) d_int) rfl b_len) d_int (nomark _)) (dw_or1 (dt_cmp (o_ne (huB hr)) (d_call (Fnk.has cchoices_at hg hr passB) (runF_nosl _ _) rfl (d_cons (d_var 1 (pv 1)) (d_cons (d_tup (d_cons d_int (d_cons (d_tup (d_cons (d_tup (d_cons (d_const _ (by rfl)) (d_cons (d_var 0 (pv 0)) (d_cons (d_const _ (by rfl)) d_nil (star_cons rfl)) (star_cons rfl)) (star_cons rfl))) d_nil (star_cons rfl))) d_nil (star_cons rfl)) (star_cons rfl))) d_nil (star_cons rfl)) (star_cons rfl))) d_int (nomark _))))) (s_one (s_ret d_bl)) s_nil)
    (s_cons (s_set 2 hN (d_const _ (by rfl)))
    (s_cons (s_set 3 hN (d_tupOf (d_lc (own := [("at", 7)]) rfl hN (blkOk_by (by rfl)) (by decide) (i_rng rfl b_range d_int) (fun _ _ _ _ _ => (g_name 7 hN)) (fun _ _ _ _ _ => ts_nil) (fun _ _ _ _ _ => (d_tup (d_cons d_int (d_cons (d_tup (d_cons (d_op o_sub (d_const _ (by rfl)) (d_var 7 (pv 7))) d_nil (star_cons rfl))) d_nil (star_cons rfl)) (star_cons rfl))))) b_tuple))
    (s_cons (s_if (dt_cmp (o_ne (huB hr)) (d_out (k := 7) o_law_outcome x_LimitExceeded hT la rfl hg hr (fun A outer s H E f' c' hg hr hpl => (d_callK cled_back hg hr hpl (runF_nosl _ _) rfl (d_cons (d_tup (d_cons (d_var 2 (pv 2)) d_nil (star_cons rfl))) (d_cons (d_tup (d_cons d_int (d_cons (d_tup (d_cons (d_tup (d_cons (d_const _ (by rfl)) (d_cons (d_var 3 (pv 3)) (d_cons (d_const _ (by rfl)) d_nil (star_cons rfl)) (star_cons rfl)) (star_cons rfl))) d_nil (star_cons rfl))) d_nil (star_cons rfl)) (star_cons rfl))) d_nil (star_cons rfl)) (star_cons rfl)) d_int))) (d_lstC (by rfl) (by decide)) (nomark _)) (s_one (s_ret d_bl)) s_nil)
    (s_cons (s_if (dt_cmp (o_ne (huB hr)) (d_len (d_idx (d_callD cled_back hg hr passB (runF_nosl _ _) rfl (d_cons (d_tup (d_cons (d_var 2 (pv 2)) d_nil (star_cons rfl))) (d_cons (d_tup (d_cons d_int (d_cons (d_tup (d_cons (d_tup (d_cons (d_const _ (by rfl)) (d_cons (d_sl (d_var 3 (pv 3)) p_none (p_some d_int)) (d_cons (d_const _ (by rfl)) d_nil (star_cons rfl)) (star_cons rfl)) (star_cons rfl))) d_nil (star_cons rfl))) d_nil (star_cons rfl)) (star_cons rfl))) d_nil (star_cons rfl)) (star_cons rfl))) d_int) rfl b_len) d_int (nomark _)) (s_one (s_ret d_bl)) s_nil)
    (s_cons (s_set 4 hN (d_const _ (by rfl)))
    (s_cons (s_if (dt_cmp (o_ne (huB hr)) (d_out (k := 7) o_law_outcome x_LimitExceeded hT la rfl hg hr (fun A outer s H E f' c' hg hr hpl => (d_callD cled_back hg hr hpl (runF_nosl _ _) rfl (d_cons (d_tup (d_cons (d_var 4 (pv 4)) d_nil (star_cons rfl))) (d_cons (d_tup (d_cons d_int (d_cons (d_tup (d_cons (d_tup (d_cons (d_const _ (by rfl)) (d_cons (d_sl (d_var 3 (pv 3)) p_none (p_some d_int)) (d_cons (d_const _ (by rfl)) d_nil (star_cons rfl)) (star_cons rfl)) (star_cons rfl))) d_nil (star_cons rfl))) d_nil (star_cons rfl)) (star_cons rfl))) d_nil (star_cons rfl)) (star_cons rfl))))) (d_lstC (by rfl) (by decide)) (nomark _)) (s_one (s_ret d_bl)) s_nil)
    (s_cons (s_if (dt_cmp (o_ne (huB hr)) (d_len (d_idx (d_callD cled_back hg hr passB (runF_nosl _ _) rfl (d_cons (d_tup (d_cons (d_var 4 (pv 4)) d_nil (star_cons rfl))) (d_cons (d_tup (d_cons d_int (d_cons (d_tup (d_cons (d_tup (d_cons (d_const _ (by rfl)) (d_cons (d_sl (d_var 3 (pv 3)) p_none (p_some d_int)) (d_cons (d_const _ (by rfl)) d_nil (star_cons rfl)) (star_cons rfl)) (star_cons rfl))) d_nil (star_cons rfl))) d_nil (star_cons rfl)) (star_cons rfl))) d_nil (star_cons rfl)) (star_cons rfl))) d_int) rfl b_len) d_int (nomark _)) (s_one (s_ret d_bl)) s_nil)
    (s_cons (s_set 5 hN (d_const _ (by rfl)))
    (s_one (s_ret (d_cmp (o_eq (huB hr)) (d_call (Fnk.has cnormal hg hr passB) (runF_nosl _ _) rfl (d_cons (d_var 5 (pv 5)) d_nil (star_cons rfl))) (d_const _ (by rfl)) (nomark _)))))))))))))))

abbrev stlaw : Stmt := top 38
theorem sclaw : FnScope ["script", "thing"] ["script"] (defScope stlaw) := ⟨rfl, rfl, rfl, by decide +kernel, rfl, by decide +kernel, by decide +kernel⟩
def blaw : MS :=
    (sSeq (sSet 1 (eCall 2 f_law_draw (aCons (eCall 1 f_law_pen (aCons (eVar 0) (pure []))) (aCons (eC (.int 9)) (pure [])))))
    (sSeq (sIf (tOrD (tNotD (tOf (eCall 1 f_law_takes_right (aCons (eVar 1) (pure []))))) (tNotD (tOf (eCall 1 f_law_puts_right (aCons (eVar 1) (pure [])))))) (sRet (eC (.bool false))) sNil)
    (sRet (eAndD (eCall 1 f_law_turns_right (aCons (eVar 1) (pure []))) (eCall 0 f_law_sizes_right (pure []))))))
def flaw : Fd := runF 2 blaw
theorem oklaw {f : Addr} {fd : FuncData} (Fn : Fun K "law" "law" stlaw f fd) (c_law_pen : Fnk P w K mg base "_law_pen" 1 1 f_law_pen) (c_law_draw : Fnk P w K mg base "_law_draw" 2 2 f_law_draw) (c_law_takes_right : Fnk P w K mg base "_law_takes_right" 1 8 f_law_takes_right) (c_law_puts_right : Fnk P w K mg base "_law_puts_right" 1 10 f_law_puts_right) (c_law_turns_right : Fnk P w K mg base "_law_turns_right" 1 8 f_law_turns_right) (c_law_sizes_right : Fnk P w K mg base "_law_sizes_right" 0 10 f_law_sizes_right) : DG.FnG P w K mg base 11 f fd ["script"] (spD K w mg 1 flaw) := by
    exact fn_ok Fn sclaw fun cdv A outer s H E hg hr => by
      have hN := sclaw.nd
      exact (s_cons (s_set 1 hN (d_call (Fnk.has c_law_draw hg hr passB) (runF_nosl _ _) rfl (d_cons (d_call (Fnk.has c_law_pen hg hr passB) (runF_nosl _ _) rfl (d_cons (d_var 0 (pv 0)) d_nil (star_cons rfl))) (d_cons d_int d_nil (star_cons rfl)) (star_cons rfl))))
    (s_cons (s_if (PW.pt (dw_or (dt_not (dt_val (d_call (Fnk.has c_law_takes_right hg hr passB) (runF_nosl _ _) rfl (d_cons (d_var 1 (pv 1)) d_nil (star_cons rfl))))) (dw_or1 (dt_not (dt_val (d_call (Fnk.has c_law_puts_right hg hr passB) (runF_nosl _ _) rfl (d_cons (d_var 1 (pv 1)) d_nil (star_cons rfl)))))))) (s_one (s_ret d_bl)) s_nil)
    (s_one (s_ret (d_and (d_call (Fnk.has c_law_turns_right hg hr passB) (runF_nosl _ _) rfl (d_cons (d_var 1 (pv 1)) d_nil (star_cons rfl))) (d_one (d_call0 (Fnk.has c_law_sizes_right hg hr passB) (runF_nosl _ _) rfl)))))))

end
end K12
namespace K12
open PySem DL L2
abbrev Yes (f : Fd) (xs : List VD) : Prop := ∀ c : Cl, f xs ⟨[], [c]⟩ = .ok (.dat (.bool true), ⟨[], [c]⟩)
theorem z0 : Yes f_law_sizes_right [] := fun c => by kernel_rfl
theorem takes_0 : Yes f_law_takes_right [.dat (.int 0)] := fun c => by kernel_rfl
theorem puts_0 : Yes f_law_puts_right [.dat (.int 0)] := fun c => by kernel_rfl
theorem turns_0 : Yes f_law_turns_right [.dat (.int 0)] := fun c => by kernel_rfl
theorem takes_1 : Yes f_law_takes_right [.dat (.int 1)] := fun c => by kernel_rfl
theorem puts_1 : Yes f_law_puts_right [.dat (.int 1)] := fun c => by kernel_rfl
theorem turns_1 : Yes f_law_turns_right [.dat (.int 1)] := fun c => by kernel_rfl
theorem takes_2 : Yes f_law_takes_right [.dat (.int 2)] := fun c => by kernel_rfl
theorem puts_2 : Yes f_law_puts_right [.dat (.int 2)] := fun c => by kernel_rfl
theorem turns_2 : Yes f_law_turns_right [.dat (.int 2)] := fun c => by kernel_rfl
theorem takes_3 : Yes f_law_takes_right [.dat (.int 3)] := fun c => by kernel_rfl
theorem puts_3 : Yes f_law_puts_right [.dat (.int 3)] := fun c => by kernel_rfl
theorem turns_3 : Yes f_law_turns_right [.dat (.int 3)] := fun c => by kernel_rfl
theorem takes_4 : Yes f_law_takes_right [.dat (.int 4)] := fun c => by kernel_rfl
theorem puts_4 : Yes f_law_puts_right [.dat (.int 4)] := fun c => by kernel_rfl
theorem turns_4 : Yes f_law_turns_right [.dat (.int 4)] := fun c => by kernel_rfl
theorem takes_5 : Yes f_law_takes_right [.dat (.int 5)] := fun c => by kernel_rfl
theorem puts_5 : Yes f_law_puts_right [.dat (.int 5)] := fun c => by kernel_rfl
theorem turns_5 : Yes f_law_turns_right [.dat (.int 5)] := fun c => by kernel_rfl
theorem takes_6 : Yes f_law_takes_right [.dat (.int 6)] := fun c => by kernel_rfl
theorem puts_6 : Yes f_law_puts_right [.dat (.int 6)] := fun c => by kernel_rfl
theorem turns_6 : Yes f_law_turns_right [.dat (.int 6)] := fun c => by kernel_rfl
theorem takes_7 : Yes f_law_takes_right [.dat (.int 7)] := fun c => by kernel_rfl
theorem puts_7 : Yes f_law_puts_right [.dat (.int 7)] := fun c => by kernel_rfl
theorem turns_7 : Yes f_law_turns_right [.dat (.int 7)] := fun c => by kernel_rfl
theorem takes_8 : Yes f_law_takes_right [.dat (.int 8)] := fun c => by kernel_rfl
theorem puts_8 : Yes f_law_puts_right [.dat (.int 8)] := fun c => by kernel_rfl
theorem turns_8 : Yes f_law_turns_right [.dat (.int 8)] := fun c => by kernel_rfl
theorem nine {t : Int} (h0 : 0 ≤ t) (h9 : t < 9) {P : Int → Prop} (p0 : P 0) (p1 : P 1) (p2 : P 2) (p3 : P 3) (p4 : P 4) (p5 : P 5) (p6 : P 6) (p7 : P 7) (p8 : P 8) : P t := by
  have : t = 0 ∨ t = 1 ∨ t = 2 ∨ t = 3 ∨ t = 4 ∨ t = 5 ∨ t = 6 ∨ t = 7 ∨ t = 8 := by omega
  rcases this with rfl | rfl | rfl | rfl | rfl | rfl | rfl | rfl | rfl <;> assumption
end K12
/-! MA1: the pen: what its defs do. -/
namespace MA
instance dflt : DL.TabT := ⟨[]⟩
open PySem DL L2
theorem seq_nx {t u : MS} {S S' : DS} (h : t S = .ok (.nx, S')) : sSeq t u S = u S' := by
  unfold sSeq; rw [M.bind_run, h]; rfl
theorem seq_rt {t u : MS} {S S' : DS} {x : VD} (h : t S = .ok (.rt x, S')) : sSeq t u S = .ok (.rt x, S') := by
  unfold sSeq; rw [M.bind_run, h]; rfl
theorem bindE {α β : Type} {t : M α} {f : α → M β} {S S' : DS} {a : α} (h : t S = .ok (a, S')) : (t >>= f) S = f a S' := by
  rw [M.bind_run, h]; rfl
theorem setE {i : Nat} {t : M VD} {S S' : DS} {x : VD} (h : t S = .ok (x, S')) : sSet i t S = .ok (.nx, { S' with sl := S'.sl.set i (some x) }) := by
  unfold sSet; rw [bindE h]; rfl
theorem retE {t : M VD} {S S' : DS} {x : VD} (h : t S = .ok (x, S')) : sRet t S = .ok (.rt x, S') := by
  unfold sRet; rw [bindE h]; rfl
abbrev Pen (gs : List Int) (seat pool : Int) (k : PyData) : List PyData := [.list (gs.map .int), .int seat, .int pool, k]
theorem ltD_int (i j : Int) : fLtD (.int i) (.int j) = some (.bool (W.dataLt (.int i) (.int j))) := by simp [fLtD, W.alike, isN, PyData.depth]
theorem plain_ints : ∀ gs : List Int, PyData.plainAll (gs.map .int) = true
  | [] => rfl
  | g :: gs => by simp [PyData.plainAll, PyData.plain, plain_ints gs]
theorem depth_ints : ∀ gs : List Int, PyData.depthAll (gs.map .int) = 0
  | [] => rfl
  | g :: gs => by simp [PyData.depthAll, PyData.depth, depth_ints gs]
theorem ne_nil (gs : List Int) : fNe (.list (gs.map .int)) (.list []) = some (.bool (!gs.isEmpty)) := by
  unfold fNe eqD
  rw [show (PyData.list (gs.map .int)).plain = true from plain_ints gs, show (PyData.list []).plain = true from rfl]
  simp only [PyData.depth, depth_ints]
  cases gs <;> simp [PyData.depthAll, PyData.eqv, PyData.eqvAll]
/-! ### expressions over a state -/
section
variable {S : DS}
theorem varE {i : Nat} {x : VD} (h : S.sl[i]? = some (some x)) : eVar i S = .ok (x, S) := by unfold eVar; rw [h]
theorem cE {d : PyData} : eC d S = .ok (.dat d, S) := rfl
theorem opE {f : PyData → PyData → Option PyData} {ta tb : M VD} {S1 S2 : DS} {x y : VD} {d e r : PyData} {v : V} (h1 : ta S = .ok (x, S1)) (h2 : tb S1 = .ok (y, S2)) (p1 : peekS S2 x = some d) (p2 : peekS S2 y = some e) (hr : f d e = some r) (hv : scalV r = some v) : eOp f ta tb S = .ok (.dat r, S2) := by
  unfold eOp
  rw [bindE h1, bindE h2, bindE (show peek x S2 = .ok (d, S2) by unfold peek; rw [p1]), bindE (show peek y S2 = .ok (e, S2) by unfold peek; rw [p2]), bindE (show ofO (f d e) S2 = .ok (r, S2) by unfold ofO; rw [hr])]
  unfold DL.scal; rw [hv]; rfl
theorem opI {f : PyData → PyData → Option PyData} {ta tb : M VD} {i j k : Int} (h1 : ta S = .ok (.dat (.int i), S)) (h2 : tb S = .ok (.dat (.int j), S)) (hr : f (.int i) (.int j) = some (.int k)) : eOp f ta tb S = .ok (.dat (.int k), S) := opE h1 h2 rfl rfl hr rfl
theorem opB {f : PyData → PyData → Option PyData} {ta tb : M VD} {i j : Int} {k : Bool} (h1 : ta S = .ok (.dat (.int i), S)) (h2 : tb S = .ok (.dat (.int j), S)) (hr : f (.int i) (.int j) = some (.bool k)) : eOp f ta tb S = .ok (.dat (.bool k), S) := opE h1 h2 rfl rfl hr rfl
theorem addI {ta tb : M VD} {i j : Int} (h1 : ta S = .ok (.dat (.int i), S)) (h2 : tb S = .ok (.dat (.int j), S)) : eAdd ta tb S = .ok (.dat (.int (i + j)), S) := by
  unfold eAdd
  rw [bindE h1, bindE h2, bindE (show peek (.dat (.int i)) S = .ok (.int i, S) from rfl), bindE (show peek (.dat (.int j)) S = .ok (.int j, S) from rfl)]
  rfl
theorem fnE {f : PyData → Option PyData} {ta : M VD} {x : VD} {d r : PyData} {v : V} (h1 : ta S = .ok (x, S)) (p1 : peekS S x = some d) (hr : f d = some r) (hv : scalV r = some v) : eFn f ta S = .ok (.dat r, S) := by
  unfold eFn
  rw [bindE h1, bindE (show peek x S = .ok (d, S) by unfold peek; rw [p1]), bindE (show ofO (f d) S = .ok (r, S) by unfold ofO; rw [hr])]
  unfold DL.scal; rw [hv]; rfl
theorem intI {ta : M VD} {i : Int} (h1 : ta S = .ok (.dat (.int i), S)) : eFn intD ta S = .ok (.dat (.int i), S) := fnE h1 rfl rfl rfl
theorem idxE {ta tb : M VD} {S1 S2 : DS} {x : VD} {c r : PyData} {i : Int} (h1 : ta S = .ok (x, S1)) (h2 : tb S1 = .ok (.dat (.int i), S2)) (p1 : peekS S2 x = some c) (hr : idxD c (.int i) = some r) : eIdx ta tb S = .ok (.dat r, S2) := by
  unfold eIdx
  rw [bindE h1, bindE h2, bindE (show peek x S2 = .ok (c, S2) by unfold peek; rw [p1]), bindE (show peek (.dat (.int i)) S2 = .ok (.int i, S2) from rfl), bindE (show ofO (idxD c (.int i)) S2 = .ok (r, S2) by unfold ofO; rw [hr])]
  rfl
theorem tofE {t : M VD} {b : Bool} {S1 : DS} (h : t S = .ok (.dat (.bool b), S1)) : tOf t S = .ok (b, S1) := by unfold tOf; rw [bindE h]; rfl
theorem sifE {c : M Bool} {t u : MS} {b : Bool} {S1 : DS} (h : c S = .ok (b, S1)) : sIf c t u S = (if b then t else u) S1 := by unfold sIf; rw [bindE h]
theorem andE {t u : M Bool} {a b : Bool} (h1 : t S = .ok (a, S)) (h2 : u S = .ok (b, S)) : tAndD t u S = .ok (a && b, S) := by
  unfold tAndD; rw [bindE h1]; cases a
  · rfl
  · exact h2
theorem eifE {c : M Bool} {t u : M VD} {b : Bool} (h : c S = .ok (b, S)) : eIf c t u S = (if b then t else u) S := by unfold eIf; rw [bindE h]
theorem consE {a : M VD} {t : M (List VD)} {S1 S2 : DS} {x : VD} {xs : List VD} (h1 : a S = .ok (x, S1)) (h2 : t S1 = .ok (xs, S2)) : aCons a t S = .ok (x :: xs, S2) := by unfold aCons; rw [bindE h1, bindE h2]; rfl
/-- pen[k] = v -/
theorem penSet {j : Nat} {to te : M VD} {ds : List PyData} {k : Int} {v : Int} {q : Nat} {S1 : DS} (ht : te S = .ok (.dat (.int v), S1)) (ho : to S1 = .ok (.rf j, S1)) (hc : S1.ce[j]? = some (.ls true ds)) (hq : ixN ds.length k = some q) : sAsg te (gSubD to (eC (.int k))) S = .ok (.nx, { S1 with ce := S1.ce.set j (.ls true (ds.set q (.int v))) }) := by
  unfold sAsg
  rw [bindE ht]
  unfold noX gSubD
  rw [bindE ho, bindE (show eC (.int k) S1 = .ok (.dat (.int k), S1) from rfl)]
  unfold setC
  rw [bindE (show toD (.dat (.int v)) S1 = .ok (.int v, S1) from rfl)]
  dsimp only
  rw [hc]
  dsimp only
  rw [hq]
end
end MA
/-! MA2: the pen. -/
namespace MA
open PySem DL L2
def b_law_pen : MS :=
    (sRet (eLst (aCons (eLstOf (eSl (eVar 0) oNone (oSome (eC (.int 63))))) (aCons (eC (.int 0)) (aCons (eC (.int 0)) (aCons (eLst (aCons (eC (.int 1)) (aCons (eC (.int 5)) (pure [])))) (pure [])))))))
def f_law_pen : Fd := runF 1 b_law_pen
def b_law_fresh : MS :=
    (sSeq (sPar 6 7 (aCons (eIdx (eVar 0) (eC (.int 1))) (aCons (eIdx (eVar 0) (eC (.int 0))) (pure []))))
    (sSeq (sAsg (eAdd (eVar 6) (eC (.int 1))) (gSubD (eVar 0) (eC (.int 1))))
    (sSeq (sSet 1 (eIf (tOf (eOp fNe (eVar 7) (eLst (pure [])))) (eIdx (eVar 7) (eOp fMod (eFn intD (eVar 6)) (eFn lenD (eVar 7)))) (eC (.int 0))))
    (sSeq (sIf (tAndD (tOf (eOp fLtD (eVar 6) (eFn lenD (eVar 7)))) (tOf (eOp fGe (eVar 1) (eOp fPow (eC (.int 10)) (eC (.int 18)))))) (sRet (eOp fSub (eVar 1) (eOp fPow (eC (.int 10)) (eC (.int 18))))) sNil)
    (sSeq (sSet 2 (eC (.int 2305843009213693951)))
    (sSeq (sSet 3 (eOp fMod (eFn intD (eAdd (eAdd (eOp fMul (eVar 1) (eC (.int 48271))) (eOp fMul (eC (.int 60013)) (eVar 6))) (eC (.int 31)))) (eVar 2)))
    (sSeq (sSet 4 (eVar 3))
    (sSeq (sFor (srcRng (eC (.int 6))) (setSl 5) (sSeq (sSet 3 (eOp fMod (eFn intD (eAdd (eAdd (eOp fMul (eVar 3) (eVar 3)) (eOp fMul (eOp fMul (eC (.int 70139)) (eAdd (eVar 5) (eC (.int 5)))) (eAdd (eVar 6) (eC (.int 1))))) (eVar 1))) (eVar 2)))
    (sSet 4 (eAdd (eOp fMul (eVar 4) (eVar 2)) (eVar 3)))))
    (sRet (eVar 4))))))))))
def f_law_fresh : Fd := runF 8 b_law_fresh
def b_law_draw : MS :=
    (sSeq (sIf (tOf (eOp fLtD (eIdx (eVar 0) (eC (.int 2))) (eVar 1))) (sAsg (eCall 1 f_law_fresh (aCons (eVar 0) (pure []))) (gSubD (eVar 0) (eC (.int 2)))) sNil)
    (sSeq (sSet 2 (eOp fMod (eFn intD (eIdx (eVar 0) (eC (.int 2)))) (eVar 1)))
    (sSeq (sAsg (eOp fDiv (eFn intD (eIdx (eVar 0) (eC (.int 2)))) (eVar 1)) (gSubD (eVar 0) (eC (.int 2))))
    (sRet (eVar 2)))))
def f_law_draw : Fd := runF 3 b_law_draw
def b_law_one_of : MS :=
    (sRet (eIdx (eVar 1) (eCall 2 f_law_draw (aCons (eVar 0) (aCons (eFn lenD (eVar 1)) (pure []))))))
def f_law_one_of : Fd := runF 2 b_law_one_of
theorem mulL {i j : Int} (h : -(2 ^ 64) < i ∧ i < 2 ^ 64) : fMul (.int i) (.int j) = some (.int (i * j)) := if_pos (.inl h)
theorem mulR {i j : Int} (h : -(2 ^ 64) < j ∧ j < 2 ^ 64) : fMul (.int i) (.int j) = some (.int (i * j)) := if_pos (.inr h)
theorem modI {i j : Int} (h : 0 < j) : fMod (.int i) (.int j) = some (.int (i % j)) := if_pos h
theorem divI {i j : Int} (h : 0 < j ∧ j < 1073741824) : fDiv (.int i) (.int j) = some (.int (i / j)) := if_pos h
theorem powI {i j : Int} (h : 0 ≤ j ∧ j ≤ 1000 ∧ i.natAbs < 2 ^ 64) : fPow (.int i) (.int j) = some (.int (i ^ j.toNat)) := if_pos h
/-- one turn of the loop -/
theorem lap_ok {S : DS} {j : Nat} {cell seat state found lap : Int} {gv l0 : Option VD} (hS : S.sl = [some (.rf j), some (.dat (.int cell)), some (.dat (.int 2305843009213693951)), some (.dat (.int state)), some (.dat (.int found)), some (.dat (.int lap)), some (.dat (.int seat)), gv]) (h0 : 0 ≤ state) (h1 : state < 2305843009213693951) (hl : 0 ≤ lap ∧ lap < 6) :
    ∃ s' f' : Int, 0 ≤ s' ∧ s' < 2305843009213693951 ∧ (sSeq (sSet 3 (eOp fMod (eFn intD (eAdd (eAdd (eOp fMul (eVar 3) (eVar 3)) (eOp fMul (eOp fMul (eC (.int 70139)) (eAdd (eVar 5) (eC (.int 5)))) (eAdd (eVar 6) (eC (.int 1))))) (eVar 1))) (eVar 2)))
    (sSet 4 (eAdd (eOp fMul (eVar 4) (eVar 2)) (eVar 3)))) S = .ok (.nx, ⟨[some (.rf j), some (.dat (.int cell)), some (.dat (.int 2305843009213693951)), some (.dat (.int s')), some (.dat (.int f')), some (.dat (.int lap)), some (.dat (.int seat)), gv], S.ce⟩) := by
  obtain ⟨sl, ce⟩ := S
  dsimp only at hS
  subst hS
  refine ⟨(state * state + 70139 * (lap + 5) * (seat + 1) + cell) % 2305843009213693951, found * 2305843009213693951 + (state * state + 70139 * (lap + 5) * (seat + 1) + cell) % 2305843009213693951, Int.emod_nonneg _ (by decide), Int.emod_lt_of_pos _ (by decide), ?_⟩
  rw [seq_nx (setE (opI (intI (addI (addI (opI (varE rfl) (varE rfl) (mulL ⟨by omega, by omega⟩)) (opI (opI cE (addI (varE rfl) cE) (mulL ⟨by omega, by omega⟩)) (addI (varE rfl) cE) (mulL ⟨by omega, by omega⟩))) (varE rfl))) (varE rfl) (modI (by decide))))]
  exact setE (addI (opI (varE rfl) (varE rfl) (mulR ⟨by omega, by omega⟩)) (varE rfl))
abbrev lapB : MS := (sSeq (sSet 3 (eOp fMod (eFn intD (eAdd (eAdd (eOp fMul (eVar 3) (eVar 3)) (eOp fMul (eOp fMul (eC (.int 70139)) (eAdd (eVar 5) (eC (.int 5)))) (eAdd (eVar 6) (eC (.int 1))))) (eVar 1))) (eVar 2)))
    (sSet 4 (eAdd (eOp fMul (eVar 4) (eVar 2)) (eVar 3))))
theorem laps_ok {j : Nat} {cell seat : Int} {gv : Option VD} {ce : List Cl} : ∀ (ls : List Int) (state found : Int) (lv : Option VD), (∀ l ∈ ls, 0 ≤ l ∧ l < 6) → 0 ≤ state → state < 2305843009213693951 → ∃ (s' f' : Int) (lv' : Option VD),
    forD (setSl 5) lapB (ls.map .int) ⟨[some (.rf j), some (.dat (.int cell)), some (.dat (.int 2305843009213693951)), some (.dat (.int state)), some (.dat (.int found)), lv, some (.dat (.int seat)), gv], ce⟩ =
      .ok (.nx, ⟨[some (.rf j), some (.dat (.int cell)), some (.dat (.int 2305843009213693951)), some (.dat (.int s')), some (.dat (.int f')), lv', some (.dat (.int seat)), gv], ce⟩)
  | [], state, found, lv, _, _, _ => ⟨state, found, lv, rfl⟩
  | l :: ls, state, found, lv, hl, h0, h1 => by
    obtain ⟨s1, f1, a1, a2, e1⟩ := lap_ok (S := ⟨[some (.rf j), some (.dat (.int cell)), some (.dat (.int 2305843009213693951)), some (.dat (.int state)), some (.dat (.int found)), some (.dat (.int l)), some (.dat (.int seat)), gv], ce⟩) (gv := gv) (l0 := none) rfl h0 h1 (hl l List.mem_cons_self)
    obtain ⟨s2, f2, lv2, e2⟩ := laps_ok ls s1 f1 (some (.dat (.int l))) (fun x hx => hl x (List.mem_cons_of_mem _ hx)) a1 a2
    refine ⟨s2, f2, lv2, ?_⟩
    show forD (setSl 5) lapB (PyData.int l :: ls.map .int) _ = _
    unfold forD
    rw [bindE (show noX (setSl 5 (.dat (.int l))) ⟨[some (.rf j), some (.dat (.int cell)), some (.dat (.int 2305843009213693951)), some (.dat (.int state)), some (.dat (.int found)), lv, some (.dat (.int seat)), gv], ce⟩ = .ok (.nx, ⟨[some (.rf j), some (.dat (.int cell)), some (.dat (.int 2305843009213693951)), some (.dat (.int state)), some (.dat (.int found)), some (.dat (.int l)), some (.dat (.int seat)), gv], ce⟩) from rfl), bindE e1]
    exact e2
theorem cell_in (gs : List Int) (seat : Int) (h : gs ≠ []) : ∃ c : Int, idxD (.list (gs.map .int)) (.int (seat % (gs.length : Int))) = some (.int c) := by
  have hp : (0 : Int) < gs.length := by
    have := List.length_pos_iff.mpr h
    omega
  have h1 := Int.emod_nonneg seat (Int.ne_of_gt hp)
  have h2 := Int.emod_lt_of_pos seat hp
  have hn : (seat % (gs.length : Int)).toNat < gs.length := by omega
  refine ⟨gs[(seat % (gs.length : Int)).toNat]'hn, ?_⟩
  show atI (gs.map PyData.int) _ = _
  unfold atI ixN
  rw [if_pos h1, if_pos (by simpa using h2)]
  simp [List.getElem?_eq_getElem hn]
theorem peekRf {S : DS} {j : Nat} {b : Bool} {ds : List PyData} (h : S.ce[j]? = some (.ls b ds)) : peekS S (.rf j) = some (.list ds) := by unfold peekS; dsimp only; rw [h]
/-- a new number from the pen: the seat goes on -/
theorem fresh_ok {gs : List Int} {seat pool : Int} {k : PyData} {ce : List Cl} {j : Nat} (h : ce[j]? = some (.ls true (Pen gs seat pool k))) : ∃ v : Int, f_law_fresh [.rf j] ⟨[], ce⟩ = .ok (.dat (.int v), ⟨[], ce.set j (.ls true (Pen gs (seat + 1) pool k))⟩) := by
  have hj : j < ce.length := (List.getElem?_eq_some_iff.mp h).1
  have h' : (ce.set j (.ls true (Pen gs (seat + 1) pool k)))[j]? = some (.ls true (Pen gs (seat + 1) pool k)) := List.getElem?_set_self hj
  unfold f_law_fresh runF
  suffices z : ∃ v S', b_law_fresh ⟨[some (.rf j), none, none, none, none, none, none, none], ce⟩ = .ok (.rt (.dat (.int v)), S') ∧ S'.ce = ce.set j (.ls true (Pen gs (seat + 1) pool k)) ++ [(.ls true [])] by
    obtain ⟨v, S', e, e2⟩ := z
    refine ⟨v, ?_⟩
    show (match b_law_fresh ⟨[some (.rf j), none, none, none, none, none, none, none], ce⟩ with | .ok (.rt x, S') => gc ce.length x S'.ce | .ok (.nx, S') => gc ce.length (.dat .none) S'.ce | .ok (_, _) => .bad | .exc x S' => .exc x ⟨[], S'.ce.take ce.length⟩ | .bad => .bad) = _
    rw [e]
    show gc ce.length (.dat (.int v)) S'.ce = _
    rw [e2]
    show R.ok (_, (⟨[], (ce.set j (.ls true (Pen gs (seat + 1) pool k) : Cl) ++ [(.ls true [] : Cl)]).take ce.length⟩ : DS)) = _
    rw [List.take_left' (by simp)]
  have st1 : sPar 6 7 (aCons (eIdx (eVar 0) (eC (.int 1))) (aCons (eIdx (eVar 0) (eC (.int 0))) (pure []))) ⟨[some (.rf j), none, none, none, none, none, none, none], ce⟩ = .ok (.nx, ⟨[some (.rf j), none, none, none, none, none, some (.dat (.int seat)), some (.dat (.list (gs.map .int)))], ce⟩) := by
    unfold sPar
    rw [bindE (consE (idxE (varE rfl) cE (peekRf h) rfl) (consE (idxE (varE rfl) cE (peekRf h) rfl) rfl))]
    rfl
  have st2 : sAsg (eAdd (eVar 6) (eC (.int 1))) (gSubD (eVar 0) (eC (.int 1))) ⟨[some (.rf j), none, none, none, none, none, some (.dat (.int seat)), some (.dat (.list (gs.map .int)))], ce⟩ = .ok (.nx, ⟨[some (.rf j), none, none, none, none, none, some (.dat (.int seat)), some (.dat (.list (gs.map .int)))], ce.set j (.ls true (Pen gs (seat + 1) pool k))⟩) :=
    penSet (ds := Pen gs seat pool k) (q := 1) (k := 1) (v := seat + 1) (addI (varE rfl) cE) (varE rfl) h rfl
  generalize hc1 : ce.set j (.ls true (Pen gs (seat + 1) pool k)) = c1 at *
  have st3 : ∃ cell : Int, sSet 1 (eIf (tOf (eOp fNe (eVar 7) (eLst (pure [])))) (eIdx (eVar 7) (eOp fMod (eFn intD (eVar 6)) (eFn lenD (eVar 7)))) (eC (.int 0))) ⟨[some (.rf j), none, none, none, none, none, some (.dat (.int seat)), some (.dat (.list (gs.map .int)))], c1⟩ =
      .ok (.nx, ⟨[some (.rf j), some (.dat (.int cell)), none, none, none, none, some (.dat (.int seat)), some (.dat (.list (gs.map .int)))], c1 ++ [(.ls true [])]⟩) := by
    have test : tOf (eOp fNe (eVar 7) (eLst (pure []))) ⟨[some (.rf j), none, none, none, none, none, some (.dat (.int seat)), some (.dat (.list (gs.map .int)))], c1⟩ = .ok (!gs.isEmpty, ⟨[some (.rf j), none, none, none, none, none, some (.dat (.int seat)), some (.dat (.list (gs.map .int)))], c1 ++ [(.ls true [])]⟩) :=
      tofE (opE (varE rfl) (show eLst (pure []) _ = .ok (.rf c1.length, _) from rfl) rfl (peekRf (b := true) (ds := []) (by simp)) (ne_nil gs) rfl)
    cases hg : gs with
    | nil =>
      subst hg
      refine ⟨0, setE (x := .dat (.int 0)) (S' := ⟨[some (.rf j), none, none, none, none, none, some (.dat (.int seat)), some (.dat (.list (([] : List Int).map .int)))], c1 ++ [(.ls true [])]⟩) ?_⟩
      unfold eIf
      rw [bindE test]
      rfl
    | cons g r =>
      obtain ⟨c, hcell⟩ := cell_in gs seat (by rw [hg]; exact List.cons_ne_nil _ _)
      rw [hg] at test hcell
      refine ⟨c, setE (x := .dat (.int c)) (S' := ⟨[some (.rf j), none, none, none, none, none, some (.dat (.int seat)), some (.dat (.list ((g :: r).map .int)))], c1 ++ [(.ls true [])]⟩) ?_⟩
      unfold eIf
      rw [bindE test]
      refine idxE (varE rfl) (opI (intI (varE rfl)) (fnE (varE rfl) rfl (show lenD (.list ((g :: r).map .int)) = some (.int ((g :: r).length : Nat)) by simp [lenD, asSeq]) rfl) (modI ?_)) rfl hcell; simp only [List.length_cons]; omega
  obtain ⟨cell, st3⟩ := st3
  generalize hc2 : c1 ++ [(.ls true [])] = c2 at *
  have pw : ∀ S : DS, eOp fPow (eC (.int 10)) (eC (.int 18)) S = .ok (.dat (.int (10 ^ 18)), S) := fun S => opI cE cE (powI ⟨by decide, by decide, by decide⟩)
  have st4 : tAndD (tOf (eOp fLtD (eVar 6) (eFn lenD (eVar 7)))) (tOf (eOp fGe (eVar 1) (eOp fPow (eC (.int 10)) (eC (.int 18))))) ⟨[some (.rf j), some (.dat (.int cell)), none, none, none, none, some (.dat (.int seat)), some (.dat (.list (gs.map .int)))], c2⟩ =
      .ok (W.dataLt (.int seat) (.int gs.length) && decide ((10 : Int) ^ 18 ≤ cell), ⟨[some (.rf j), some (.dat (.int cell)), none, none, none, none, some (.dat (.int seat)), some (.dat (.list (gs.map .int)))], c2⟩) :=
    andE (tofE (opB (varE rfl) (fnE (varE rfl) rfl (show lenD (.list (gs.map .int)) = some (.int gs.length) by simp [lenD, asSeq]) rfl) (ltD_int _ _))) (tofE (opB (varE rfl) (pw _) rfl))
  unfold b_law_fresh
  rw [seq_nx st1, seq_nx st2, seq_nx st3]
  cases hb : (W.dataLt (.int seat) (.int gs.length) && decide ((10 : Int) ^ 18 ≤ cell)) with
  | true =>
    rw [hb] at st4
    refine ⟨cell - 10 ^ 18, ⟨_, c2⟩, seq_rt (by rw [sifE st4]; exact retE (opI (varE rfl) (pw _) rfl)), rfl⟩
  | false =>
    rw [hb] at st4
    have st5 : sIf (tAndD (tOf (eOp fLtD (eVar 6) (eFn lenD (eVar 7)))) (tOf (eOp fGe (eVar 1) (eOp fPow (eC (.int 10)) (eC (.int 18)))))) (sRet (eOp fSub (eVar 1) (eOp fPow (eC (.int 10)) (eC (.int 18))))) sNil ⟨[some (.rf j), some (.dat (.int cell)), none, none, none, none, some (.dat (.int seat)), some (.dat (.list (gs.map .int)))], c2⟩ =
        .ok (.nx, ⟨[some (.rf j), some (.dat (.int cell)), none, none, none, none, some (.dat (.int seat)), some (.dat (.list (gs.map .int)))], c2⟩) := by
      rw [sifE st4]; rfl
    obtain ⟨s', f', lv, lo⟩ := laps_ok (j := j) (cell := cell) (seat := seat) (gv := some (.dat (.list (gs.map .int)))) (ce := c2) [0, 1, 2, 3, 4, 5] ((cell * 48271 + 60013 * seat + 31) % 2305843009213693951) ((cell * 48271 + 60013 * seat + 31) % 2305843009213693951) none (by decide) (Int.emod_nonneg _ (by decide)) (Int.emod_lt_of_pos _ (by decide))
    refine ⟨f', ⟨[some (.rf j), some (.dat (.int cell)), some (.dat (.int 2305843009213693951)), some (.dat (.int s')), some (.dat (.int f')), lv, some (.dat (.int seat)), some (.dat (.list (gs.map .int)))], c2⟩, ?_, rfl⟩
    rw [seq_nx st5, seq_nx (setE cE), seq_nx (setE (opI (intI (addI (addI (opI (varE rfl) cE (mulR ⟨by decide, by decide⟩)) (opI cE (varE rfl) (mulL ⟨by decide, by decide⟩))) cE)) (varE rfl) (modI (by decide)))), seq_nx (setE (varE rfl))]
    have lp : sFor (srcRng (eC (.int 6))) (setSl 5) lapB ⟨[some (.rf j), some (.dat (.int cell)), some (.dat (.int 2305843009213693951)), some (.dat (.int ((cell * 48271 + 60013 * seat + 31) % 2305843009213693951))), some (.dat (.int ((cell * 48271 + 60013 * seat + 31) % 2305843009213693951))), none, some (.dat (.int seat)), some (.dat (.list (gs.map .int)))], c2⟩ = .ok (.nx, ⟨[some (.rf j), some (.dat (.int cell)), some (.dat (.int 2305843009213693951)), some (.dat (.int s')), some (.dat (.int f')), lv, some (.dat (.int seat)), some (.dat (.list (gs.map .int)))], c2⟩) := by
      unfold sFor
      rw [bindE (show srcRng (eC (.int 6)) _ = .ok (rngD 0 6, _) from rfl)]
      exact lo
    refine (seq_nx lp).trans (retE (varE rfl))
theorem callE {n : Nat} {den : Fd} {t : M (List VD)} {S S1 S2 : DS} {xs : List VD} {x : VD} (h1 : t S = .ok (xs, S1)) (hn : xs.length = n) (h2 : den xs ⟨[], S1.ce⟩ = .ok (x, S2)) : eCall n den t S = .ok (x, ⟨S1.sl, S2.ce⟩) := by
  unfold eCall
  rw [bindE h1, bindE (show chk (decide (xs.length = n)) S1 = .ok ((), S1) by unfold chk; rw [decide_eq_true hn]; rfl)]
  rw [h2]
/-- a digit from the pen -/
theorem draw_ok {gs : List Int} {seat pool b : Int} {k : PyData} {ce : List Cl} {j : Nat} (h : ce[j]? = some (.ls true (Pen gs seat pool k))) (hb : 0 < b ∧ b < 1073741824) : ∃ d seat' pool' : Int, 0 ≤ d ∧ d < b ∧ f_law_draw [.rf j, .dat (.int b)] ⟨[], ce⟩ = .ok (.dat (.int d), ⟨[], ce.set j (.ls true (Pen gs seat' pool' k))⟩) := by
  have hj : j < ce.length := (List.getElem?_eq_some_iff.mp h).1
  have st1 : ∃ s1 p1 : Int, sIf (tOf (eOp fLtD (eIdx (eVar 0) (eC (.int 2))) (eVar 1))) (sAsg (eCall 1 f_law_fresh (aCons (eVar 0) (pure []))) (gSubD (eVar 0) (eC (.int 2)))) sNil ⟨[some (.rf j), some (.dat (.int b)), none], ce⟩ = .ok (.nx, ⟨[some (.rf j), some (.dat (.int b)), none], ce.set j (.ls true (Pen gs s1 p1 k))⟩) := by
    have test : tOf (eOp fLtD (eIdx (eVar 0) (eC (.int 2))) (eVar 1)) ⟨[some (.rf j), some (.dat (.int b)), none], ce⟩ = .ok (W.dataLt (.int pool) (.int b), ⟨[some (.rf j), some (.dat (.int b)), none], ce⟩) := tofE (opB (idxE (varE rfl) cE (peekRf h) rfl) (varE rfl) (ltD_int _ _))
    cases hw : W.dataLt (.int pool) (.int b) with
    | true =>
      rw [hw] at test
      obtain ⟨v, hv⟩ := fresh_ok h
      refine ⟨seat + 1, v, ?_⟩
      rw [sifE test]
      have c1 := callE (n := 1) (den := f_law_fresh) (xs := [.rf j]) (S := ⟨[some (.rf j), some (.dat (.int b)), none], ce⟩) (S1 := ⟨[some (.rf j), some (.dat (.int b)), none], ce⟩) (t := aCons (eVar 0) (pure [])) (consE (varE (i := 0) rfl) rfl) rfl hv
      have z := penSet (to := eVar 0) (ds := Pen gs (seat + 1) pool k) (q := 2) (k := 2) c1 (varE rfl) (List.getElem?_set_self hj) rfl
      refine z.trans ?_
      show R.ok (Fl.nx, (⟨_, (ce.set j (.ls true (Pen gs (seat + 1) pool k))).set j (.ls true (Pen gs (seat + 1) v k))⟩ : DS)) = _
      rw [List.set_set]
    | false =>
      rw [hw] at test
      refine ⟨seat, pool, ?_⟩
      rw [sifE test, show ce.set j (.ls true (Pen gs seat pool k)) = ce from by
        apply List.ext_getElem?
        intro i
        by_cases e : i = j
        · subst e; rw [List.getElem?_set_self hj, h]
        · rw [List.getElem?_set_ne (Ne.symm e)]]
      rfl
  obtain ⟨s1, p1, st1⟩ := st1
  refine ⟨p1 % b, s1, p1 / b, Int.emod_nonneg _ (by omega), Int.emod_lt_of_pos _ hb.1, ?_⟩
  have h1 : (ce.set j (.ls true (Pen gs s1 p1 k)))[j]? = some (.ls true (Pen gs s1 p1 k)) := List.getElem?_set_self hj
  have st2 : sSet 2 (eOp fMod (eFn intD (eIdx (eVar 0) (eC (.int 2)))) (eVar 1)) ⟨[some (.rf j), some (.dat (.int b)), none], ce.set j (.ls true (Pen gs s1 p1 k))⟩ = .ok (.nx, ⟨[some (.rf j), some (.dat (.int b)), some (.dat (.int (p1 % b)))], ce.set j (.ls true (Pen gs s1 p1 k))⟩) :=
    setE (S' := ⟨[some (.rf j), some (.dat (.int b)), none], ce.set j (.ls true (Pen gs s1 p1 k))⟩) (opI (intI (idxE (varE rfl) cE (peekRf h1) rfl)) (varE rfl) (modI hb.1))
  have st3 := penSet (to := eVar 0) (S := ⟨[some (.rf j), some (.dat (.int b)), some (.dat (.int (p1 % b)))], ce.set j (.ls true (Pen gs s1 p1 k))⟩) (ds := Pen gs s1 p1 k) (q := 2) (k := 2) (opI (intI (idxE (varE (i := 0) rfl) (cE (d := .int 2)) (peekRf h1) rfl)) (varE (i := 1) rfl) (divI hb)) (varE rfl) h1 rfl
  unfold f_law_draw runF
  have e : b_law_draw ⟨[some (.rf j), some (.dat (.int b)), none], ce⟩ = .ok (.rt (.dat (.int (p1 % b))), ⟨[some (.rf j), some (.dat (.int b)), some (.dat (.int (p1 % b)))], ce.set j (.ls true (Pen gs s1 (p1 / b) k))⟩) := by
    unfold b_law_draw
    rw [seq_nx st1, seq_nx st2, seq_nx st3]
    refine (retE (varE (i := 2) rfl)).trans ?_
    show R.ok (_, (⟨_, (ce.set j (.ls true (Pen gs s1 p1 k))).set j (.ls true (Pen gs s1 (p1 / b) k))⟩ : DS)) = _
    rw [List.set_set]
  show (match b_law_draw ⟨[some (.rf j), some (.dat (.int b)), none], ce⟩ with | .ok (.rt x, S') => gc ce.length x S'.ce | .ok (.nx, S') => gc ce.length (.dat .none) S'.ce | .ok (_, _) => .bad | .exc x S' => .exc x ⟨[], S'.ce.take ce.length⟩ | .bad => .bad) = _
  rw [e]
  show R.ok (_, (⟨[], (ce.set j (.ls true (Pen gs s1 (p1 / b) k))).take ce.length⟩ : DS)) = _; rw [List.take_of_length_le (by simp)]
/-- one of a list -/
theorem one_of_ok {gs : List Int} {seat pool : Int} {k : PyData} {ce : List Cl} {j i : Nat} {ds : List PyData} {fl : Bool} (h : ce[j]? = some (.ls true (Pen gs seat pool k))) (hi : ce[i]? = some (.ls fl ds)) (hij : i ≠ j) (h0 : ds ≠ []) (hl : ds.length < 1073741824) :
    ∃ (d : PyData) (seat' pool' : Int), d ∈ ds ∧ f_law_one_of [.rf j, .rf i] ⟨[], ce⟩ = .ok (.dat d, ⟨[], ce.set j (.ls true (Pen gs seat' pool' k))⟩) := by
  have hj : j < ce.length := (List.getElem?_eq_some_iff.mp h).1
  have hp := List.length_pos_iff.mpr h0
  obtain ⟨m, s1, p1, m0, m1, hd⟩ := draw_ok (b := (ds.length : Int)) h ⟨by omega, by omega⟩
  have hm : m.toNat < ds.length := by omega
  refine ⟨ds[m.toNat], s1, p1, List.getElem_mem _, ?_⟩
  have hn : (ce.set j (.ls true (Pen gs s1 p1 k)))[i]? = some (.ls fl ds) := by rw [List.getElem?_set_ne (Ne.symm hij)]; exact hi
  have call := callE (n := 2) (den := f_law_draw) (xs := [.rf j, .dat (.int ds.length)]) (S := ⟨[some (.rf j), some (.rf i)], ce⟩) (S1 := ⟨[some (.rf j), some (.rf i)], ce⟩) (t := aCons (eVar 0) (aCons (eFn lenD (eVar 1)) (pure []))) (consE (varE (i := 0) rfl) (consE (fnE (varE (i := 1) rfl) (peekRf hi) (show lenD (.list ds) = some (.int ds.length) by simp [lenD, asSeq]) rfl) rfl)) rfl hd
  have e : b_law_one_of ⟨[some (.rf j), some (.rf i)], ce⟩ = .ok (.rt (.dat ds[m.toNat]), ⟨[some (.rf j), some (.rf i)], ce.set j (.ls true (Pen gs s1 p1 k))⟩) := by
    unfold b_law_one_of
    refine retE (idxE (varE rfl) call (peekRf hn) ?_)
    show atI ds m = _
    unfold atI ixN
    rw [if_pos m0, if_pos m1]
    exact List.getElem?_eq_getElem hm
  unfold f_law_one_of runF
  show (match b_law_one_of ⟨[some (.rf j), some (.rf i)], ce⟩ with | .ok (.rt x, S') => gc ce.length x S'.ce | .ok (.nx, S') => gc ce.length (.dat .none) S'.ce | .ok (_, _) => .bad | .exc x S' => .exc x ⟨[], S'.ce.take ce.length⟩ | .bad => .bad) = _
  rw [e]
  show R.ok (_, (⟨[], (ce.set j (.ls true (Pen gs s1 p1 k))).take ce.length⟩ : DS)) = _; rw [List.take_of_length_le (by simp)]
end MA
/-! MA3: lists of bools, comprehensions, repr: on any cells. -/
namespace MA
open PySem DL L2
theorem toDs_dat : ∀ (ds : List PyData) (S : DS), toDs (ds.map .dat) S = .ok (ds, S)
  | [], _ => rfl
  | d :: ds, S => by
    show (toD (.dat d) >>= fun d => toDs (ds.map .dat) >>= fun ds => pure (d :: ds)) S = _
    rw [bindE (show toD (.dat d) S = .ok (d, S) from rfl), bindE (toDs_dat ds S)]
    rfl
section
variable {S : DS}
theorem lstE {t : M (List VD)} {S1 : DS} {ds : List PyData} (h : t S = .ok (ds.map .dat, S1)) (hl : ds.length ≤ 1000) : eLst t S = .ok (.rf S1.ce.length, ⟨S1.sl, S1.ce ++ [(.ls true ds)]⟩) := by
  unfold eLst
  rw [bindE h, bindE (toDs_dat ds S1), bindE (show chk (decide (ds.length ≤ 1000)) S1 = .ok ((), S1) by unfold chk; rw [decide_eq_true hl]; rfl)]
  rfl
theorem addLL {ta tb : M VD} {i : Nat} {f : Bool} {xs ys : List PyData} (h1 : ta S = .ok (.rf i, S)) (h2 : tb S = .ok (.rf S.ce.length, ⟨S.sl, S.ce ++ [(.ls true ys)]⟩)) (hi : S.ce[i]? = some (.ls f xs)) (hz : xs.length + ys.length ≤ 1000) :
    eAdd ta tb S = .ok (.rf (S.ce.length + 1), ⟨S.sl, S.ce ++ [(.ls true ys)] ++ [(.ls true (xs ++ ys))]⟩) := by
  have hl : i < S.ce.length := (List.getElem?_eq_some_iff.mp hi).1
  have p1 : peekS ⟨S.sl, S.ce ++ [(.ls true ys)]⟩ (.rf i) = some (.list xs) := peekRf (b := f) (ds := xs) (by show (S.ce ++ [(.ls true ys)])[i]? = _; rw [List.getElem?_append_left hl]; exact hi)
  have p2 : peekS ⟨S.sl, S.ce ++ [(.ls true ys)]⟩ (.rf S.ce.length) = some (.list ys) := peekRf (b := true) (ds := ys) (by show (S.ce ++ [(.ls true ys)])[S.ce.length]? = _; simp)
  unfold eAdd
  rw [bindE h1, bindE h2, bindE (show peek (.rf i) _ = .ok (.list xs, _) by unfold peek; rw [p1]), bindE (show peek (.rf S.ce.length) _ = .ok (.list ys, _) by unfold peek; rw [p2])]
  unfold addD
  dsimp only
  rw [bindE (show chk (decide (xs.length + ys.length ≤ 16777216)) _ = .ok ((), _) by unfold chk; rw [decide_eq_true (by omega)]; rfl)]
  show R.ok (VD.rf (S.ce ++ [(Cl.ls true ys)]).length, _) = _
  rw [List.length_append]
  rfl
theorem plain_bools : ∀ bs : List Bool, PyData.plainAll (bs.map .bool) = true
  | [] => rfl
  | g :: gs => by simp [PyData.plainAll, PyData.plain, plain_bools gs]
theorem depth_bools : ∀ bs : List Bool, PyData.depthAll (bs.map .bool) = 0
  | [] => rfl
  | g :: gs => by simp [PyData.depthAll, PyData.depth, depth_bools gs]
theorem eqv_bools : ∀ bs : List Bool, PyData.eqvAll (bs.map .bool) (bs.map .bool) = true
  | [] => rfl
  | g :: gs => by simp [PyData.eqvAll, PyData.eqv, eqv_bools gs]
theorem ne_bools (bs : List Bool) : fNe (.list (bs.map .bool)) (.list (bs.map .bool)) = some (.bool false) := by
  unfold fNe eqD
  rw [show (PyData.list (bs.map .bool)).plain = true from plain_bools bs]
  simp [PyData.depth, depth_bools, PyData.eqv, eqv_bools]
theorem eq_ints (i j : Int) : fEq (.int i) (.int j) = some (.bool (i == j)) := by
  simp [fEq, eqD, PyData.plain, PyData.depth, PyData.eqv]
theorem eq_strs (y : Str) : fEq (.str y) (.str y) = some (.bool true) := by
  simp [fEq, eqD, PyData.plain, PyData.depth, PyData.eqv]
/-- a comprehension whose step leaves the cells alone -/
theorem lc_go {step : PyData → M (Option PyData)} {n0 : Nat} {sl0 : List (Option VD)} {f : PyData → PyData} {ce : List Cl} (hn : ce.length = n0) : ∀ (ds acc : List PyData), (∀ d ∈ ds, ∀ ce', ∃ sl', step d ⟨sl0, ce'⟩ = .ok (some (f d), ⟨sl', ce'⟩)) → acc.length + ds.length ≤ 1000 →
    lcGo step n0 sl0 ds (ce ++ [(.ls true acc)]) = some (ce ++ [(.ls true (acc ++ ds.map f))])
  | [], acc, _, _ => by simp [lcGo]
  | d :: ds, acc, hs, hz => by
    obtain ⟨sl', e⟩ := hs d List.mem_cons_self (ce ++ [(.ls true acc)])
    unfold lcGo
    rw [e]
    dsimp only
    have g : (ce ++ [(.ls true acc)])[n0]? = some (.ls true acc) := by rw [← hn]; simp
    rw [g]
    dsimp only
    have hz' : acc.length < 16777216 := by simp at hz; omega
    rw [if_pos hz', List.take_left' hn, lc_go hn ds (acc ++ [f d]) (fun x hx => hs x (List.mem_cons_of_mem _ hx)) (by simp at hz ⊢; omega)]
    simp
/-- [p == x for p in range(n)] -/
theorem comp_ok {n : Nat} {k : Nat} {at_ : Int} (hn : n ≤ 1000) (hk : (wipeD S.sl [4])[k]? = some (some (.dat (.int at_)))) (h4 : k ≠ 4) (hl : 4 < (wipeD S.sl [4]).length) : eLc [4] (srcRng (eC (.int n))) (stepC (setSl 4) tYesD (eOp fEq (eVar 4) (eVar k))) S = .ok (.rf S.ce.length, ⟨S.sl, S.ce ++ [(.ls true (((List.range n).map fun (i : Nat) => ((i : Int) == at_)).map .bool))]⟩) := by
  unfold eLc
  rw [bindE (show srcRng (eC (.int n)) S = .ok (rngD 0 n, S) by
    unfold srcRng
    rw [bindE cE]
    dsimp only
    rw [bindE (show chk _ S = .ok ((), S) by unfold chk; rw [decide_eq_true (by omega)]; rfl)]
    rfl)]
  rw [lc_go (f := fun d => match d with | .int i => .bool (i == at_) | _ => .none) rfl (rngD 0 n) [] (fun d hd ce' => ?_) (by simp [rngD]; exact hn)]
  · simp [rngD, Function.comp_def]
  · obtain ⟨i, _, rfl⟩ := List.mem_map.mp hd
    refine ⟨(wipeD S.sl [4]).set 4 (some (.dat (.int (0 + (i : Int))))), ?_⟩
    unfold stepC
    rw [bindE (show setSl 4 (.dat (.int (0 + (i : Int)))) ⟨wipeD S.sl [4], ce'⟩ = .ok ((), ⟨(wipeD S.sl [4]).set 4 (some (.dat (.int (0 + (i : Int))))), ce'⟩) from rfl), bindE (show tYesD _ = .ok (true, _) from rfl)]
    dsimp only
    rw [if_pos rfl, bindE (opB (varE (by show ((wipeD S.sl [4]).set 4 _)[4]? = _; rw [List.getElem?_set_self hl])) (varE (x := .dat (.int at_)) (by show ((wipeD S.sl [4]).set 4 _)[k]? = _; rw [List.getElem?_set_ne (Ne.symm h4)]; exact hk)) (eq_ints _ _))]
    rfl
/-- repr(t) == repr(u), both of the same data -/
theorem repr_eq {t u : M VD} {S1 S2 : DS} {x y : VD} {d : PyData} {z : Str} (h1 : t S = .ok (x, S1)) (p1 : peekS S1 x = some d) (h2 : u S1 = .ok (y, S2)) (p2 : peekS S2 y = some d) (hz : reprD d = some z) : eOp fEq (eRepr t) (eRepr u) S = .ok (.dat (.bool true), S2) := by
  have e1 : eRepr t S = .ok (.dat (.str z), S1) := by
    unfold eRepr
    rw [bindE h1, bindE (show peek x S1 = .ok (d, S1) by unfold peek; rw [p1]), bindE (show ofO (reprD d) S1 = .ok (z, S1) by unfold ofO; rw [hz])]; rfl
  have e2 : eRepr u S1 = .ok (.dat (.str z), S2) := by
    unfold eRepr
    rw [bindE h2, bindE (show peek y S2 = .ok (d, S2) by unfold peek; rw [p2]), bindE (show ofO (reprD d) S2 = .ok (z, S2) by unfold ofO; rw [hz])]; rfl
  exact opE e1 e2 rfl rfl (eq_strs z) rfl
theorem andV {t u : M VD} {S1 : DS} {r : R (VD × DS)} (h1 : t S = .ok (.dat (.bool true), S1)) (h2 : u S1 = r) : eAndD t u S = r := by
  unfold eAndD
  rw [bindE (tofE h1)]
  exact h2
end
end MA
/-! MB1: dens reckoned by simp. -/
namespace MB
open PySem DL L2 MA
section
variable {α β γ : Type} {S : DS}
@[simp] theorem pureS (x : α) (S : DS) : (pure x : M α) S = .ok (x, S) := rfl
@[simp] theorem bindS (t : M α) (f : α → M β) (S : DS) : (t >>= f) S = R.bind (t S) fun p => f p.1 p.2 := rfl
@[simp] theorem bOk (p : α) (f : α → R β) : R.bind (.ok p) f = f p := rfl
@[simp] theorem bBad (f : α → R β) : R.bind .bad f = .bad := rfl
@[simp] theorem bExc (x : Exn) (S : DS) (f : α → R β) : R.bind (.exc x S) f = .exc x S := rfl
@[simp] theorem bIte (c : Prop) [Decidable c] (a b : R α) (f : α → R β) : R.bind (if c then a else b) f = if c then R.bind a f else R.bind b f := by split <;> rfl
@[simp] theorem badS (S : DS) : (M.bad : M α) S = .bad := rfl
@[simp] theorem iteS (c : Prop) [Decidable c] (a b : M α) (S : DS) : (if c then a else b) S = if c then a S else b S := by split <;> rfl
@[simp] theorem chkS (b : Bool) (S : DS) : chk b S = if b = true then .ok ((), S) else .bad := rfl
@[simp] theorem ofOS (x : α) (S : DS) : ofO (some x) S = .ok (x, S) := rfl
@[simp] theorem ofON (S : DS) : ofO (none : Option α) S = .bad := rfl
@[simp] theorem eCS (d : PyData) (S : DS) : eC d S = .ok (.dat d, S) := rfl
@[simp] theorem peekDat (d : PyData) (S : DS) : peek (.dat d) S = .ok (d, S) := rfl
@[simp] theorem peekRf (j : Nat) (S : DS) : peek (.rf j) S = (match S.ce[j]? with | some (.ls _ ds) => .ok (.list ds, S) | _ => .bad) := by
  unfold peek peekS; dsimp only; rcases S.ce[j]? with _ | _ | _ <;> rfl
@[simp] theorem toDDat (d : PyData) (S : DS) : toD (.dat d) S = .ok (d, S) := rfl
@[simp] theorem toDRf (j : Nat) (S : DS) : toD (.rf j) S = (match S.ce[j]? with | some (.ls true ds) => .ok (.list ds, { S with ce := S.ce.set j (.ls false ds) }) | some (.ls false ds) => .ok (.list ds, S) | _ => .bad) := rfl
@[simp] theorem toDsN (S : DS) : toDs [] S = .ok ([], S) := rfl
@[simp] theorem toDsC (x : VD) (xs : List VD) : toDs (x :: xs) = (do let d ← toD x; let ds ← toDs xs; pure (d :: ds)) := rfl
@[simp] theorem eVarS (i : Nat) (S : DS) : eVar i S = (match S.sl[i]? with | some (some x) => .ok (x, S) | _ => .bad) := rfl
@[simp] theorem setSlS (i : Nat) (x : VD) (S : DS) : setSl i x S = .ok ((), { S with sl := S.sl.set i (some x) }) := rfl
@[simp] theorem newLS (ds : List PyData) (S : DS) : newL ds S = .ok (.rf S.ce.length, { S with ce := S.ce ++ [(.ls true ds)] }) := rfl
@[simp] theorem eCallS (n : Nat) (den : Fd) (t : M (List VD)) (S : DS) : eCall n den t S = R.bind (t S) fun p => R.bind (chk (decide (p.1.length = n)) p.2) fun q => match den p.1 ⟨[], q.2.ce⟩ with
    | .ok (x, S') => .ok (x, ⟨q.2.sl, S'.ce⟩)
    | .exc x S' => .exc x ⟨q.2.sl, S'.ce⟩
    | .bad => .bad := rfl
/-- the end of a def -/
def endF (n : Nat) (r : R (Fl × DS)) : R (VD × DS) := match r with
  | .ok (.rt x, S') => gc n x S'.ce
  | .ok (.nx, S') => gc n (.dat .none) S'.ce
  | .ok (_, _) => .bad
  | .exc x S' => .exc x ⟨[], S'.ce.take n⟩
  | .bad => .bad
@[simp] theorem runFS (N : Nat) (body : MS) (xs : List VD) (S : DS) : runF N body xs S = endF S.ce.length (body ⟨xs.map some ++ List.replicate (N - xs.length) none, S.ce⟩) := by
  unfold runF endF
  cases body ⟨xs.map some ++ List.replicate (N - xs.length) none, S.ce⟩ with
  | ok p => obtain ⟨f, S'⟩ := p; cases f <;> rfl
  | exc x S' => rfl
  | bad => rfl
@[simp] theorem endRt (n : Nat) (x : VD) (S : DS) : endF n (.ok (.rt x, S)) = gc n x S.ce := rfl
@[simp] theorem endNx (n : Nat) (S : DS) : endF n (.ok (.nx, S)) = gc n (.dat .none) S.ce := rfl
@[simp] theorem endEx (n : Nat) (x : Exn) (S : DS) : endF n (.exc x S) = .exc x ⟨[], S.ce.take n⟩ := rfl
@[simp] theorem endBad (n : Nat) : endF n .bad = .bad := rfl
@[simp] theorem endIte (n : Nat) (c : Prop) [Decidable c] (a b : R (Fl × DS)) : endF n (if c then a else b) = if c then endF n a else endF n b := by split <;> rfl
@[simp] theorem gcDat (n : Nat) (d : PyData) (ce : Ce) : gc n (.dat d) ce = .ok (.dat d, ⟨[], ce.take n⟩) := rfl
@[simp] theorem gcRf (n j : Nat) (ce : Ce) : gc n (.rf j) ce = (if j < n then .ok (.rf j, ⟨[], ce.take n⟩) else match ce[j]? with | some c => .ok (.rf n, ⟨[], ce.take n ++ [c]⟩) | none => .bad) := rfl
@[simp] theorem takeSelf (ce : Ce) : ce.take ce.length = ce := List.take_length
@[simp] theorem takeApp (ce more : Ce) : (ce ++ more).take ce.length = ce := List.take_left' rfl
@[simp] theorem getNew (ce : Ce) (c : Cl) : (ce ++ [c])[ce.length]? = some c := by simp
@[simp] theorem seqS (t u : MS) (S : DS) : sSeq t u S = R.bind (t S) fun p => (match p.1 with | .nx => u | f => pure f) p.2 := rfl
@[simp] theorem scalI (i : Int) (S : DS) : DL.scal (.int i) S = .ok (.dat (.int i), S) := rfl
@[simp] theorem scalB (b : Bool) (S : DS) : DL.scal (.bool b) S = .ok (.dat (.bool b), S) := rfl
@[simp] theorem scalN (S : DS) : DL.scal .none S = .ok (.dat .none, S) := rfl
@[simp] theorem scalT (x : Str) (S : DS) : DL.scal (.str x) S = .ok (.dat (.str x), S) := rfl
@[simp] theorem scalIte (c : Prop) [Decidable c] (a b : PyData) : DL.scal (if c then a else b) = if c then DL.scal a else DL.scal b := by split <;> rfl
@[simp] theorem sRetS (t : M VD) (S : DS) : sRet t S = R.bind (t S) fun p => .ok (.rt p.1, p.2) := rfl
@[simp] theorem sSetS (i : Nat) (t : M VD) (S : DS) : sSet i t S = R.bind (t S) fun p => .ok (.nx, ⟨p.2.sl.set i (some p.1), p.2.ce⟩) := rfl
@[simp] theorem sIfS (c : M Bool) (t u : MS) (S : DS) : sIf c t u S = R.bind (c S) fun p => if p.1 = true then t p.2 else u p.2 := by
  show R.bind (c S) (fun p => (if p.1 = true then t else u) p.2) = _
  congr 1; funext p; exact iteS _ _ _ _
@[simp] theorem sExpS (t : M VD) (S : DS) : sExp t S = R.bind (t S) fun p => .ok (.nx, p.2) := rfl
@[simp] theorem sNilS (S : DS) : sNil S = .ok (.nx, S) := rfl
@[simp] theorem sAsgS (t : M VD) (g : VD → M Unit) (S : DS) : sAsg t g S = R.bind (t S) fun p => noX (g p.1) p.2 := rfl
@[simp] theorem noXS (t : M Unit) (S : DS) : noX t S = match t S with | .ok p => .ok (.nx, p.2) | _ => .bad := rfl
@[simp] theorem sForS (src : M (List PyData)) (g : VD → M Unit) (b : MS) (S : DS) : sFor src g b S = R.bind (src S) fun p => forD g b p.1 p.2 := rfl
@[simp] theorem sParS (i j : Nat) (t : M (List VD)) (S : DS) : sPar i j t S = R.bind (t S) fun p => (match p.1 with
  | [x, y] => (.ok (.nx, ⟨(p.2.sl.set i (some x)).set j (some y), p.2.ce⟩) : R (Fl × DS))
  | _ => .bad) := by
  show R.bind (t S) (fun p => (match p.1 with | [x, y] => (do setSl i x; setSl j y; pure .nx : MS) | _ => M.bad) p.2) = _
  congr 1; funext p
  obtain ⟨vs, S'⟩ := p
  match vs with
  | [] => rfl
  | [_] => rfl
  | [_, _] => rfl
  | _ :: _ :: _ :: _ => rfl
@[simp] theorem aConsS (a : M VD) (t : M (List VD)) (S : DS) : aCons a t S = R.bind (a S) fun p => R.bind (t p.2) fun q => .ok (p.1 :: q.1, q.2) := rfl
@[simp] theorem eLstS (t : M (List VD)) (S : DS) : eLst t S = R.bind (t S) fun p => R.bind (toDs p.1 p.2) fun q => R.bind (chk (decide (q.1.length ≤ 1000)) q.2) fun z => newL q.1 z.2 := rfl
@[simp] theorem eTupS (t : M (List VD)) (S : DS) : eTup t S = R.bind (t S) fun p => R.bind (toDs p.1 p.2) fun q => R.bind (chk (decide (q.1.length ≤ 1000)) q.2) fun z => .ok (.dat (.tuple q.1), z.2) := rfl
@[simp] theorem toDsCS (x : VD) (xs : List VD) (S : DS) : toDs (x :: xs) S = R.bind (toD x S) fun p => R.bind (toDs xs p.2) fun q => .ok (p.1 :: q.1, q.2) := rfl
@[simp] theorem eOpS (f : PyData → PyData → Option PyData) (a b : M VD) (S : DS) : eOp f a b S = R.bind (a S) fun p => R.bind (b p.2) fun q => R.bind (peek p.1 q.2) fun d => R.bind (peek q.1 d.2) fun e => R.bind (ofO (f d.1 e.1) e.2) fun r => DL.scal r.1 r.2 := rfl
@[simp] theorem eAddS (a b : M VD) (S : DS) : eAdd a b S = R.bind (a S) fun p => R.bind (b p.2) fun q => R.bind (peek p.1 q.2) fun d => R.bind (peek q.1 d.2) fun e => addD d.1 e.1 e.2 := rfl
@[simp] theorem eIdxS (a b : M VD) (S : DS) : eIdx a b S = R.bind (a S) fun p => R.bind (b p.2) fun q => R.bind (peek p.1 q.2) fun d => R.bind (peek q.1 d.2) fun e => R.bind (ofO (idxD d.1 e.1) e.2) fun r => .ok (.dat r.1, r.2) := rfl
@[simp] theorem eFnS (f : PyData → Option PyData) (a : M VD) (S : DS) : eFn f a S = R.bind (a S) fun p => R.bind (peek p.1 p.2) fun d => R.bind (ofO (f d.1) d.2) fun r => DL.scal r.1 r.2 := rfl
@[simp] theorem eTyIsS (T : String) (a : M VD) (S : DS) : eTyIs T a S = R.bind (a S) fun p => R.bind (peek p.1 p.2) fun d => .ok (.dat (.bool (decide (tyName d.1 = T))), d.2) := rfl
@[simp] theorem eIsiS (T : String) (a : M VD) (S : DS) : eIsi T a S = R.bind (a S) fun p => R.bind (peek p.1 p.2) fun d => R.bind (ofO (isT T d.1) d.2) fun r => .ok (.dat (.bool r.1), r.2) := rfl
@[simp] theorem eTupOfS (a : M VD) (S : DS) : eTupOf a S = R.bind (a S) fun p => R.bind (peek p.1 p.2) fun d => R.bind (ofO (asSeq d.1) d.2) fun r => .ok (.dat (.tuple r.1), r.2) := rfl
@[simp] theorem eLstOfS (a : M VD) (S : DS) : eLstOf a S = R.bind (a S) fun p => R.bind (peek p.1 p.2) fun d => R.bind (ofO (asSeq d.1) d.2) fun r => newL r.1 r.2 := rfl
@[simp] theorem eRevS (a : M VD) (S : DS) : eRev a S = R.bind (a S) fun p => R.bind (peek p.1 p.2) fun d => R.bind (ofO (asSeq d.1) d.2) fun r => mkSeq d.1 r.1.reverse r.2 := rfl
@[simp] theorem eReprAS (a : M VD) (S : DS) : eReprA a S = R.bind (a S) fun p => R.bind (peek p.1 p.2) fun d => R.bind (ofO (reprA d.1) d.2) fun r => .ok (.dat (.str r.1), r.2) := rfl
@[simp] theorem eSetOfS (a : M VD) (S : DS) : eSetOf a S = R.bind (a S) fun p => R.bind (peek p.1 p.2) fun d => R.bind (ofO (asSeq d.1) d.2) fun r => R.bind (chk (r.1.all setEl && decide (r.1.length < 64)) r.2) fun z => .ok (.st r.1, z.2) := rfl
@[simp] theorem eSlS (a : M VD) (l h : M (Option Int)) (S : DS) : eSl a l h S = R.bind (a S) fun p => R.bind (l p.2) fun q => R.bind (h q.2) fun z => slV p.1 q.1 z.1 z.2 := rfl
@[simp] theorem oNoneS (S : DS) : oNone S = .ok (none, S) := rfl
@[simp] theorem eIfS (c : M Bool) (t u : M VD) (S : DS) : eIf c t u S = R.bind (c S) fun p => if p.1 = true then t p.2 else u p.2 := by
  show R.bind (c S) (fun p => (if p.1 = true then t else u) p.2) = _
  congr 1; funext p; exact iteS _ _ _ _
@[simp] theorem tOfS (t : M VD) (S : DS) : tOf t S = R.bind (t S) fun p => (match p.1 with
  | .dat (.bool b) => (.ok (b, p.2) : R (Bool × DS))
  | _ => .bad) := by
  show R.bind (t S) (fun p => (match p.1 with | .dat (.bool b) => (pure b : M Bool) | _ => M.bad) p.2) = _
  congr 1; funext p
  obtain ⟨x, S'⟩ := p
  cases x with
  | dat d => cases d <;> rfl
  | _ => rfl
@[simp] theorem tAndS (t u : M Bool) (S : DS) : tAndD t u S = R.bind (t S) fun p => if p.1 = true then u p.2 else .ok (false, p.2) := by
  show R.bind (t S) (fun p => (if p.1 = true then u else pure false) p.2) = _
  congr 1; funext p; exact iteS _ _ _ _
@[simp] theorem tOrS (t u : M Bool) (S : DS) : tOrD t u S = R.bind (t S) fun p => if p.1 = true then .ok (true, p.2) else u p.2 := by
  show R.bind (t S) (fun p => (if p.1 = true then pure true else u) p.2) = _
  congr 1; funext p; exact iteS _ _ _ _
@[simp] theorem tNotS (t : M Bool) (S : DS) : tNotD t S = R.bind (t S) fun p => .ok (!p.1, p.2) := rfl
@[simp] theorem eAndS (t u : M VD) (S : DS) : eAndD t u S = R.bind (tOf t S) fun p => if p.1 = true then u p.2 else .ok (.dat (.bool false), p.2) := by
  show R.bind (tOf t S) (fun p => (if p.1 = true then u else pure (.dat (.bool false))) p.2) = _
  congr 1; funext p; exact iteS _ _ _ _
@[simp] theorem eOrS (t u : M VD) (S : DS) : eOrD t u S = R.bind (tOf t S) fun p => if p.1 = true then .ok (.dat (.bool true), p.2) else u p.2 := by
  show R.bind (tOf t S) (fun p => (if p.1 = true then pure (.dat (.bool true)) else u) p.2) = _
  congr 1; funext p; exact iteS _ _ _ _
@[simp] theorem eNotS (t : M VD) (S : DS) : eNotD t S = R.bind (tOf t S) fun p => .ok (.dat (.bool (!p.1)), p.2) := rfl
@[simp] theorem srcSeqS (t : M VD) (S : DS) : srcSeq t S = R.bind (t S) fun p => R.bind (toD p.1 p.2) fun d => ofO (asSeq d.1) d.2 := rfl
@[simp] theorem tYesS (S : DS) : tYesD S = .ok (true, S) := rfl
@[simp] theorem asSeqT (ds : List PyData) : asSeq (.tuple ds) = some ds := rfl
@[simp] theorem asSeqL (ds : List PyData) : asSeq (.list ds) = some ds := rfl
@[simp] theorem gNilS (S : DS) : gNilD [] S = .ok ((), S) := rfl
@[simp] theorem eChainS (f g : PyData → PyData → Option PyData) (a b c : M VD) (S : DS) : eChain f g a b c S = R.bind (a S) fun p => R.bind (b p.2) fun q => R.bind (peek p.1 q.2) fun d => R.bind (peek q.1 d.2) fun e => R.bind (ofO (f d.1 e.1) e.2) fun r => (match r.1 with
  | .bool true => R.bind (c r.2) fun z => R.bind (peek q.1 z.2) fun e' => R.bind (peek z.1 e'.2) fun d' => R.bind (ofO (g e'.1 d'.1) d'.2) fun r' => DL.scal r'.1 r'.2
  | .bool false => .ok (.dat (.bool false), r.2)
  | _ => .bad) := by
  show R.bind (a S) (fun p => R.bind (b p.2) fun q => R.bind (peek p.1 q.2) fun d => R.bind (peek q.1 d.2) fun e => R.bind (ofO (f d.1 e.1) e.2) fun r => _) = _
  congr 1; funext p; congr 1; funext q; congr 1; funext d; congr 1; funext e; congr 1; funext r
  obtain ⟨r, S'⟩ := r
  cases r with
  | bool b => cases b <;> rfl
  | _ => rfl
@[simp] theorem gConsS (g : VD → M Unit) (gs : List PyData → M Unit) (d : PyData) (ds : List PyData) (S : DS) : gConsD g gs (d :: ds) S = R.bind (g (.dat d) S) fun p => gs ds p.2 := rfl
@[simp] theorem gTupS (n : Nat) (gs : List PyData → M Unit) (ds : List PyData) (S : DS) : gTupD n gs (.dat (.tuple ds)) S = R.bind (chk (decide (ds.length = n)) S) fun p => gs ds p.2 := rfl
@[simp] theorem srcEnumS (t : M VD) (S : DS) : srcEnumT t S = R.bind (t S) fun p => (match p.1 with
  | .dat (.tuple ds) => (.ok (enD ds, p.2) : R (List PyData × DS))
  | _ => .bad) := by
  show R.bind (t S) (fun p => (match p.1 with | .dat (.tuple ds) => (pure (enD ds) : M (List PyData)) | _ => M.bad) p.2) = _
  congr 1; funext p
  obtain ⟨x, S'⟩ := p
  cases x with
  | dat d => cases d <;> rfl
  | _ => rfl
@[simp] theorem eLcS (vs : List Nat) (src : M (List PyData)) (step : PyData → M (Option PyData)) (S : DS) : eLc vs src step S = R.bind (src S) fun p => (match lcGo step p.2.ce.length (wipeD p.2.sl vs) p.1 (p.2.ce ++ [(.ls true [])]) with
  | some ce => (.ok (.rf p.2.ce.length, ⟨p.2.sl, ce⟩) : R (VD × DS))
  | none => .bad) := rfl
@[simp] theorem stepCS (g : VD → M Unit) (tt : M Bool) (te : M VD) (d : PyData) (S : DS) : stepC g tt te d S = R.bind (g (.dat d) S) fun p => R.bind (tt p.2) fun q => if q.1 = true then R.bind (te q.2) fun y => R.bind (toD y.1 y.2) fun e => .ok (some e.1, e.2) else .ok (none, q.2) := by
  show R.bind (g (.dat d) S) (fun p => R.bind (tt p.2) fun q => (if q.1 = true then _ else _ : M (Option PyData)) q.2) = _
  congr 1; funext p; congr 1; funext q
  obtain ⟨b, S'⟩ := q
  cases b <;> rfl
/-- a comprehension whose turns leave the cells alone (but for new ones) -/
theorem lc_pure {step : PyData → M (Option PyData)} {n0 : Nat} {sl0 : List (Option VD)} {o : PyData → Option PyData} {ce : Ce} (hn : ce.length = n0) : ∀ (ds acc : List PyData), (∀ d ∈ ds, ∀ ce', ∃ sl' more, step d ⟨sl0, ce'⟩ = .ok (o d, ⟨sl', ce' ++ more⟩)) → acc.length + ds.length ≤ 16777215 →
    lcGo step n0 sl0 ds (ce ++ [(.ls true acc)]) = some (ce ++ [(.ls true (acc ++ ds.filterMap o))])
  | [], acc, _, _ => by simp [lcGo]
  | d :: ds, acc, hs, hz => by
    obtain ⟨sl', more, e⟩ := hs d List.mem_cons_self (ce ++ [(.ls true acc)])
    unfold lcGo
    rw [e]
    dsimp only
    have g : (ce ++ [(.ls true acc)] ++ more)[n0]? = some (.ls true acc) := by rw [← hn]; simp
    rw [g]
    dsimp only
    have tk : (ce ++ [(Cl.ls true acc)] ++ more).take n0 = ce := by rw [List.append_assoc]; exact List.take_left' hn
    have hz' : acc.length < 16777216 := by simp at hz; omega
    cases ho : o d with
    | none =>
      dsimp only
      rw [tk, lc_pure hn ds acc (fun x hx => hs x (List.mem_cons_of_mem _ hx)) (by simp at hz ⊢; omega), List.filterMap_cons_none ho]
    | some y =>
      dsimp only
      rw [if_pos hz', tk, lc_pure hn ds (acc ++ [y]) (fun x hx => hs x (List.mem_cons_of_mem _ hx)) (by simp at hz ⊢; omega), List.filterMap_cons_some ho]
      simp
end
end MB
/-! MB2: how long a shown datum is. -/
namespace MB
open PySem DL L2 MA
def okStrs : List Str := ["", "0", "put", "kept", "take", "turn", "within", "same", "settled", "untouched", "mend", "shown", "broken", "drop", "keeps", "leads", "spares", "form", "claim", "paper", "hit", "other", "class", "limit", "arity", "parts"]
mutual
def okv : PyData → Bool
  | .none | .bool _ => true
  | .int i => decide (i.natAbs < 10 ^ 50)
  | .str x => okStrs.contains x
  | .list ds | .tuple ds => okvs ds
  | .dict kvs => kvs.isEmpty
def okvs : List PyData → Bool
  | [] => true
  | d :: ds => okv d && okvs ds
end
mutual
def sz : PyData → Nat
  | .list ds | .tuple ds => szs ds + 1
  | .none | .bool _ | .int _ | .str _ | .dict _ => 1
def szs : List PyData → Nat
  | [] => 0
  | d :: ds => sz d + szs ds
end
theorem listText_le (ts : List Str) : (listText ts).length ≤ piled ts + 2 := by
  unfold listText
  rw [strLen_append]
  have e1 : ((("]" : String) : Str)).length = 1 := rfl
  cases ts with
  | nil => simp [textFrom, piled]; decide
  | cons t ts =>
    show (textFrom 1 _ ts).length + _ ≤ _
    rw [textFrom_length_pos ts 1 _ (by decide), strLen_append, strLen_append, e1, piled_cons]
    have q1 : (((("[" : String)) : Str)).length = 1 := rfl
    have q2 : (Str.ofString (if 0 > 0 then ", " else "")).length = 0 := rfl
    rw [q1, q2]
    omega
theorem tupleText_le (ts : List Str) : (tupleText ts).length ≤ piled ts + 3 := by
  unfold tupleText; rw [strLen_append, strLen_append]
  have q1 : (((("(" : String)) : Str)).length = 1 := rfl
  have q2 : (Str.ofString (if (ts.length == 1) = true then ",)" else ")")).length ≤ 2 := by split <;> decide
  by_cases h : ts = []
  · subst h; rw [q1]; show 1 + 0 + _ ≤ _; simp [piled] at *; omega
  · (have := join_length_add ts h)
    rw [q1]; omega
theorem int_len {i : Int} (h : i.natAbs < 10 ^ 50) : (PyData.shown (.int i)).length ≤ 51 := by
  cases i with
  | ofNat m => exact Nat.le_trans (PyProof.Rows.toString_length_le (k := 50) (by exact Int.natCast_nonneg m) (by decide) (Int.ofNat_lt.mpr h)) (by decide)
  | negSucc m =>
    have h' : m + 1 < 10 ^ 50 := h
    have := PyProof.Rows.toString_length_le (v := ((m + 1 : Nat) : Int)) (k := 50) (by omega) (by decide) (by exact_mod_cast h')
    have e : toString (Int.negSucc m) = "-" ++ toString ((m + 1 : Nat) : Int) := rfl
    show (Str.ofString (toString (Int.negSucc m))).length ≤ 51
    rw [ofString_length] at this ⊢
    rw [e, String.length_append]
    have q : ("-" : String).length = 1 := rfl
    omega
theorem str_len {x : Str} (h : okStrs.contains x = true) : (PyData.shown (.str x)).length ≤ 20 := by
  have : ∀ y ∈ okStrs, (reprText y).length ≤ 20 := by decide +kernel
  exact this x (List.contains_iff_mem.mp h)
theorem log_ok {n : Nat} (h : n < 10 ^ 50) : n.log2 < 1920 := by
  by_cases e : n = 0
  · rw [e]; decide
  · exact (Nat.log2_lt e).mpr (Nat.lt_of_lt_of_le h (Nat.le_trans (show 10 ^ 50 ≤ 2 ^ 200 by decide) (Nat.pow_le_pow_right (by decide) (by decide))))
mutual
theorem shown_le : ∀ d : PyData, okv d = true → d.showable = true ∧ d.shown.length + 2 ≤ 60 * sz d
  | .none, _ => ⟨rfl, by show (Str.ofString "None").length + 2 ≤ 60 * 1; decide⟩
  | .bool b, _ => ⟨rfl, by simp only [PyData.shown, sz]; cases b <;> decide⟩
  | .int i, h => by
    simp only [okv, decide_eq_true_eq] at h
    refine ⟨by simp only [PyData.showable, decide_eq_true_eq]; exact log_ok h, ?_⟩
    have := int_len h
    simp only [sz]; omega
  | .str x, h => by
    simp only [okv] at h
    have := str_len h
    exact ⟨rfl, by simp only [sz]; omega⟩
  | .list ds, h => by
    simp only [okv] at h
    obtain ⟨a, b⟩ := shown_les ds h
    refine ⟨by simp only [PyData.showable]; exact a, ?_⟩
    simp only [PyData.shown, sz]
    have := listText_le (PyData.shownAll ds)
    omega
  | .tuple ds, h => by
    simp only [okv] at h
    obtain ⟨a, b⟩ := shown_les ds h
    refine ⟨by simp only [PyData.showable]; exact a, ?_⟩
    simp only [PyData.shown, sz]
    have := tupleText_le (PyData.shownAll ds)
    omega
  | .dict kvs, h => by
    simp only [okv, List.isEmpty_iff] at h
    subst h
    exact ⟨rfl, by show (dictText []).length + 2 ≤ 60 * 1; decide⟩
theorem shown_les : ∀ ds : List PyData, okvs ds = true → PyData.showableAll ds = true ∧ piled (PyData.shownAll ds) ≤ 60 * szs ds
  | [], _ => ⟨rfl, by simp [PyData.shownAll, piled]⟩
  | d :: ds, h => by
    simp only [okvs, Bool.and_eq_true] at h
    obtain ⟨a, b⟩ := shown_le d h.1
    obtain ⟨c, e⟩ := shown_les ds h.2
    refine ⟨by simp [PyData.showableAll, a, c], ?_⟩
    simp only [PyData.shownAll, szs]
    rw [piled_cons]
    omega
end
theorem repr_ok {d : PyData} (h : okv d = true) (k : d.depth ≤ 100) (l : sz d ≤ 200000) : ∃ y, reprA d = some y := by
  obtain ⟨a, b⟩ := shown_le d h
  refine ⟨d.shown, ?_⟩
  unfold reprA
  rw [a, decide_eq_true k, decide_eq_true (show d.shown.length ≤ 16777216 by omega)]
  rfl
end MB
/-! MB3: what draws keep. -/
namespace MB
open PySem DL L2 MA
/-- a pen stands in cell j; its things are ks -/
def Pn (j : Nat) (ks : List Int) (ce : Ce) : Prop := ∃ (gs : List Int) (s p : Int), ce[j]? = some (.ls true (Pen gs s p (.list (ks.map .int))))
/-- only the pen has changed -/
def Kp (j : Nat) (ks : List Int) (ce ce' : Ce) : Prop := ce'.length = ce.length ∧ (∀ i, i ≠ j → ce'[i]? = ce[i]?) ∧ Pn j ks ce'
theorem Pn.lt {j : Nat} {ks : List Int} {ce : Ce} (h : Pn j ks ce) : j < ce.length := by
  obtain ⟨gs, s, p, e⟩ := h; exact (List.getElem?_eq_some_iff.mp e).1
theorem Kp.pn {j : Nat} {ks : List Int} {ce ce' : Ce} (h : Kp j ks ce ce') : Pn j ks ce' := h.2.2
theorem Kp.refl {j : Nat} {ks : List Int} {ce : Ce} (h : Pn j ks ce) : Kp j ks ce ce := ⟨rfl, fun _ _ => rfl, h⟩
theorem Kp.trans {j : Nat} {ks ks' : List Int} {a b c : Ce} (h : Kp j ks a b) (k : Kp j ks' b c) : Kp j ks' a c := ⟨k.1.trans h.1, fun i hi => (k.2.1 i hi).trans (h.2.1 i hi), k.2.2⟩
theorem Kp.of_set {j : Nat} {ks : List Int} {ce : Ce} {gs : List Int} {s p : Int} (h : j < ce.length) : Kp j ks ce (ce.set j (.ls true (Pen gs s p (.list (ks.map .int))))) :=
  ⟨by simp, fun i hi => List.getElem?_set_ne (Ne.symm hi), gs, s, p, List.getElem?_set_self h⟩
/-- new cells behind -/
theorem Pn.app {j : Nat} {ks : List Int} {ce : Ce} (h : Pn j ks ce) (more : Ce) : Pn j ks (ce ++ more) := by
  obtain ⟨gs, s, p, e⟩ := h
  exact ⟨gs, s, p, by rw [List.getElem?_append_left (List.getElem?_eq_some_iff.mp e).1]; exact e⟩
theorem Kp.cut {j : Nat} {ks : List Int} {ce more ce' : Ce} (h : Kp j ks (ce ++ more) ce') (hj : j < ce.length) : Kp j ks ce (ce'.take ce.length) := by
  refine ⟨by have := h.1; simp at this; simp; omega, fun i hi => ?_, ?_⟩
  · by_cases hl : i < ce.length
    · rw [List.getElem?_take_of_lt hl, h.2.1 i hi, List.getElem?_append_left hl]
    · rw [List.getElem?_eq_none (by simp; omega), List.getElem?_eq_none (by omega)]
  · obtain ⟨gs, s, p, e⟩ := h.2.2
    exact ⟨gs, s, p, by rw [List.getElem?_take_of_lt hj]; exact e⟩
/-- the same, with what stands behind -/
theorem Kp.split {j : Nat} {ks : List Int} {ce more ce' : Ce} (h : Kp j ks (ce ++ more) ce') (hj : j < ce.length) : ∃ ce1, ce' = ce1 ++ more ∧ Kp j ks ce ce1 := by
  refine ⟨ce'.take ce.length, ?_, h.cut hj⟩
  apply List.ext_getElem?
  intro i
  by_cases hl : i < ce.length
  · rw [List.getElem?_append_left (by have := h.1; simp at this; simp; omega), List.getElem?_take_of_lt hl]
  · have hne : i ≠ j := by omega
    have e1 : (ce'.take ce.length).length = ce.length := by have := h.1; simp at this; simp; omega
    rw [h.2.1 i hne, List.getElem?_append_right (by omega), List.getElem?_append_right (by omega), e1]
/-- a draw -/
theorem draw_sp {j : Nat} {ks : List Int} {ce : Ce} {b : Int} (h : Pn j ks ce) (hb : 0 < b ∧ b < 1073741824) : ∃ (d : Int) (ce' : Ce), MA.f_law_draw [.rf j, .dat (.int b)] ⟨[], ce⟩ = .ok (.dat (.int d), ⟨[], ce'⟩) ∧ 0 ≤ d ∧ d < b ∧ Kp j ks ce ce' := by
  obtain ⟨gs, s, p, e⟩ := h
  obtain ⟨d, s', p', h1, h2, e'⟩ := draw_ok e hb
  exact ⟨d, _, e', h1, h2, Kp.of_set (List.getElem?_eq_some_iff.mp e).1⟩
theorem one_sp {j i : Nat} {ks : List Int} {ce : Ce} {fl : Bool} {ds : List PyData} (h : Pn j ks ce) (hi : ce[i]? = some (.ls fl ds)) (hij : i ≠ j) (h0 : ds ≠ []) (hl : ds.length < 1073741824) : ∃ (d : PyData) (ce' : Ce), MA.f_law_one_of [.rf j, .rf i] ⟨[], ce⟩ = .ok (.dat d, ⟨[], ce'⟩) ∧ d ∈ ds ∧ Kp j ks ce ce' := by
  obtain ⟨gs, s, p, e⟩ := h
  obtain ⟨d, s', p', h1, e'⟩ := one_of_ok e hi hij h0 hl
  exact ⟨d, _, e', h1, Kp.of_set (List.getElem?_eq_some_iff.mp e).1⟩
/-- a comprehension that draws -/
theorem lc_draw {step : PyData → M (Option PyData)} {j : Nat} {ks : List Int} {sl0 : List (Option VD)} {T : PyData → Prop} {n0 : Nat} (hj : j < n0)
    (hs : ∀ d ce, Pn j ks ce → n0 ≤ ce.length → ∃ e sl' ce' more, step d ⟨sl0, ce⟩ = .ok (some e, ⟨sl', ce' ++ more⟩) ∧ Kp j ks ce ce' ∧ T e) : ∀ (ds acc : List PyData) (ce : Ce), ce.length = n0 → Pn j ks ce → acc.length + ds.length ≤ 16777215 →
    ∃ es ce', lcGo step n0 sl0 ds (ce ++ [(.ls true acc)]) = some (ce' ++ [(.ls true (acc ++ es))]) ∧ Kp j ks ce ce' ∧ (∀ e ∈ es, T e) ∧ es.length = ds.length
  | [], acc, ce, hn, hp, _ => ⟨[], ce, by simp [lcGo], Kp.refl hp, fun _ z => (nomatch z), rfl⟩
  | d :: ds, acc, ce, hn, hp, hz => by
    obtain ⟨e, sl', ce1, more, he, hk, ht⟩ := hs d (ce ++ [(.ls true acc)]) (hp.app _) (by simp; omega)
    obtain ⟨ce2, rfl, hk2⟩ := hk.split (by omega)
    have hl2 : ce2.length = n0 := by rw [hk2.1, hn]
    obtain ⟨es, ce', h1, h2, h3, h4⟩ := lc_draw hj hs ds (acc ++ [e]) ce2 hl2 hk2.pn (by simp at hz ⊢; omega)
    refine ⟨e :: es, ce', ?_, hk2.trans h2, fun x hx => ?_, by simp [h4]⟩
    · unfold lcGo
      rw [he]
      dsimp only
      have g : (ce2 ++ [(.ls true acc)] ++ more)[n0]? = some (.ls true acc) := by rw [← hl2]; simp
      rw [g]
      dsimp only
      have tk : (ce2 ++ [(Cl.ls true acc)] ++ more).take n0 = ce2 := by rw [List.append_assoc]; exact List.take_left' hl2
      rw [if_pos (by simp at hz; omega), tk, h1]
      simp
    · rcases List.mem_cons.mp hx with rfl | hx
      · exact ht
      · exact h3 x hx
end MB
/-! MB4: more dens reckoned by simp; comprehensions with two fors that draw nothing. -/
namespace MB
open PySem DL L2 MA
@[simp] theorem eTyNotS (T : String) (a : M VD) (S : DS) : eTyNot T a S = R.bind (a S) fun p => R.bind (peek p.1 p.2) fun d => .ok (.dat (.bool (!decide (tyName d.1 = T))), d.2) := rfl
@[simp] theorem eMulS (a b : M VD) (S : DS) : eMul a b S = R.bind (a S) fun p => R.bind (b p.2) fun q => R.bind (peek p.1 q.2) fun d => R.bind (peek q.1 d.2) fun e => mulD d.1 e.1 e.2 := rfl
@[simp] theorem eExtAS (o t : M VD) (S : DS) : eExtA o t S = R.bind (o S) fun p => R.bind (isRf p.1 p.2) fun z => R.bind (t z.2) fun q => extA p.1 q.1 q.2 := rfl
@[simp] theorem eSetAS (a : M VD) (S : DS) : eSetA a S = R.bind (a S) fun p => R.bind (peek p.1 p.2) fun d => R.bind (ofO (asSeq d.1) d.2) fun r => setAD r.1 r.2 := rfl
@[simp] theorem srcZipS (a b : M VD) (S : DS) : srcZip a b S = R.bind (a S) fun p => R.bind (b p.2) fun q => R.bind (toD p.1 q.2) fun d => R.bind (toD q.1 d.2) fun e => ofO (pairSeq d.1 e.1) e.2 := by
  show R.bind (R.bind (a S) fun p => R.bind (R.bind (b p.2) fun q => .ok ([q.1], q.2)) fun q => .ok (p.1 :: q.1, q.2)) _ = _
  cases a S with
  | ok p =>
    simp only [bOk]
    cases b p.2 with
    | ok q =>
      show R.bind (R.bind (toD p.1 q.2) fun d => R.bind (R.bind (toD q.1 d.2) fun e => .ok ([e.1], e.2)) fun r => .ok (d.1 :: r.1, r.2)) _ = R.bind (toD p.1 q.2) fun d => R.bind (toD q.1 d.2) fun e => ofO (pairSeq d.1 e.1) e.2
      cases toD p.1 q.2 with
      | ok d =>
        simp only [bOk]
        cases toD q.1 d.2 <;> rfl
      | exc _ _ => rfl
      | bad => rfl
    | exc _ _ => rfl
    | bad => rfl
  | exc _ _ => rfl
  | bad => rfl
@[simp] theorem sParVS (n : Nat) (ta : M (List VD)) (gs : List VD → M Unit) (S : DS) : sParV n ta gs S = R.bind (ta S) fun p => if p.1.length = n ∧ n ≤ 1000 then (match gs p.1 p.2 with
    | .ok q => (.ok (.nx, q.2) : R (Fl × DS))
    | _ => .bad) else .bad := rfl
@[simp] theorem gNilVS (S : DS) : gNilV [] S = .ok ((), S) := rfl
@[simp] theorem gConsVS (g : VD → M Unit) (gs : List VD → M Unit) (x : VD) (xs : List VD) (S : DS) : gConsV g gs (x :: xs) S = R.bind (g x S) fun p => gs xs p.2 := rfl
@[simp] theorem eC2S (c0 : Cl) (acc : Cl → PyData → Option Cl) (vs vs1 : List Nat) (src : M (List PyData)) (pre : PyData → M (Option (List PyData))) (step : PyData → M (Option PyData)) (S : DS) :
    eC2 c0 acc vs vs1 src pre step S = R.bind (src S) fun p => (match go2 acc pre step p.2.ce.length (wipeD p.2.sl vs) vs1 p.1 (p.2.ce ++ [c0]) with
      | some ce => (.ok (.rf p.2.ce.length, ⟨p.2.sl, ce⟩) : R (VD × DS))
      | none => .bad) := rfl
@[simp] theorem preCS (g : VD → M Unit) (tt : M Bool) (src : M (List PyData)) (d : PyData) (S : DS) : preC g tt src d S = R.bind (g (.dat d) S) fun p => R.bind (tt p.2) fun q => if q.1 = true then R.bind (src q.2) fun y => .ok (some y.1, y.2) else .ok (none, q.2) := by
  show R.bind (g (.dat d) S) (fun p => R.bind (tt p.2) fun q => (if q.1 = true then _ else _ : M (Option (List PyData))) q.2) = _
  congr 1; funext p; congr 1; funext q
  obtain ⟨b, S'⟩ := q
  cases b <;> rfl
def accs (acc : Cl → PyData → Option Cl) : Cl → List PyData → Option Cl
  | c, [] => some c
  | c, e :: es => (acc c e).bind fun c' => accs acc c' es
theorem accs_append (acc : Cl → PyData → Option Cl) : ∀ (xs ys : List PyData) (c : Cl), accs acc c (xs ++ ys) = (accs acc c xs).bind fun c' => accs acc c' ys
  | [], ys, c => rfl
  | e :: xs, ys, c => by
    simp only [List.cons_append, accs]
    cases acc c e with
    | none => rfl
    | some c' => exact accs_append acc xs ys c'
theorem goA_pure {acc : Cl → PyData → Option Cl} {step : PyData → M (Option PyData)} {n0 : Nat} {sl0 : List (Option VD)} {o : PyData → Option PyData} : ∀ (ds : List PyData) (ce : Ce) (c : Cl), ce[n0]? = some c → (∀ d ∈ ds, ∀ ce', ∃ sl' more, step d ⟨sl0, ce'⟩ = .ok (o d, ⟨sl', ce' ++ more⟩)) →
    goA acc step n0 ce.length sl0 ds ce = (accs acc c (ds.filterMap o)).map fun c' => ce.set n0 c'
  | [], ce, c, ec, _ => by
    obtain ⟨h1, h2⟩ := List.getElem?_eq_some_iff.mp ec
    subst h2
    simp [goA, accs]
  | d :: ds, ce, c, ec, hs => by
    obtain ⟨sl', more, e⟩ := hs d List.mem_cons_self ce
    have hn : n0 < ce.length := (List.getElem?_eq_some_iff.mp ec).1
    unfold goA
    rw [e]
    dsimp only
    rw [List.getElem?_append_left hn, ec]
    dsimp only
    rw [takeApp]
    cases ho : o d with
    | none =>
      dsimp only
      rw [goA_pure ds ce c ec fun x hx => hs x (List.mem_cons_of_mem _ hx), List.filterMap_cons_none ho]
    | some y =>
      dsimp only
      rw [List.filterMap_cons_some ho]
      unfold accs
      cases acc c y with
      | none => rfl
      | some c' =>
        dsimp only [Option.bind]
        have := goA_pure (acc := acc) (step := step) (n0 := n0) (sl0 := sl0) (o := o) ds (ce.set n0 c') c' (List.getElem?_set_self hn) fun x hx => hs x (List.mem_cons_of_mem _ hx)
        rw [List.length_set] at this
        rw [this]
        simp
theorem go2_pure {acc : Cl → PyData → Option Cl} {pre : PyData → M (Option (List PyData))} {step : PyData → M (Option PyData)} {n0 : Nat} {sl0 : List (Option VD)} {vs1 : List Nat} {inner : PyData → List PyData} {o : PyData → PyData → Option PyData} : ∀ (ds : List PyData) (ce : Ce) (c : Cl), ce.length = n0 + 1 → ce[n0]? = some c →
    (∀ d ∈ ds, ∀ ce', ∃ sl' more, pre d ⟨sl0, ce'⟩ = .ok (some (inner d), ⟨sl', ce' ++ more⟩) ∧ ∀ e ∈ inner d, ∀ ce'', ∃ sl'' more', step e ⟨wipeD sl' vs1, ce''⟩ = .ok (o d e, ⟨sl'', ce'' ++ more'⟩)) →
    go2 acc pre step n0 sl0 vs1 ds ce = (accs acc c (ds.flatMap fun d => (inner d).filterMap (o d))).map fun c' => ce.set n0 c'
  | [], ce, c, hn, ec, _ => by
    obtain ⟨h1, h2⟩ := List.getElem?_eq_some_iff.mp ec
    subst h2
    simp [go2, accs]
  | d :: ds, ce, c, hn, ec, hs => by
    obtain ⟨sl', more, e, he⟩ := hs d List.mem_cons_self ce
    have hlt : n0 < ce.length := by omega
    unfold go2
    rw [e]
    dsimp only
    have ec' : (ce ++ more)[n0]? = some c := by rw [List.getElem?_append_left hlt]; exact ec
    rw [goA_pure (o := o d) (inner d) (ce ++ more) c ec' he, List.flatMap_cons, accs_append]
    cases accs acc c ((inner d).filterMap (o d)) with
    | none => rfl
    | some c' =>
      simp only [Option.map, Option.bind]
      have tk : ((ce ++ more).set n0 c').take (n0 + 1) = ce.set n0 c' := by
        rw [List.set_append_left _ _ hlt, ← hn]
        exact List.take_left' (by simp)
      rw [tk, go2_pure (acc := acc) (pre := pre) (step := step) (sl0 := sl0) (inner := inner) (o := o) ds (ce.set n0 c') c' (by simpa using hn) (List.getElem?_set_self hlt) fun x hx => hs x (List.mem_cons_of_mem _ hx)]
      cases accs acc c' (ds.flatMap fun d => (inner d).filterMap (o d)) with
      | none => rfl
      | some c2 => simp [Option.map]
theorem accs_L : ∀ (es xs : List PyData), xs.length + es.length ≤ 16777216 → accs accL (.ls true xs) es = some (.ls true (xs ++ es))
  | [], xs, _ => by simp [accs]
  | e :: es, xs, h => by
    simp only [List.length_cons] at h
    have : accL (.ls true xs) e = some (.ls true (xs ++ [e])) := by simp only [accL]; rw [if_pos (by omega)]
    simp only [accs, this, Option.bind]
    rw [accs_L es (xs ++ [e]) (by simp; omega)]
    simp
def addAll : List Int → List Int → List Int
  | ns, [] => ns
  | ns, k :: ks => addAll (addNum k ns) ks
theorem addNum_len (k : Int) (ns : List Int) : (addNum k ns).length ≤ ns.length + 1 := by unfold addNum; split <;> simp
theorem mem_addNum {k x : Int} {ns : List Int} : x ∈ addNum k ns ↔ x = k ∨ x ∈ ns := by
  unfold addNum
  split
  · rename_i h
    exact ⟨.inr, fun z => z.elim (fun e => e ▸ h) id⟩
  · exact List.mem_cons
theorem mem_addAll {x : Int} : ∀ {ks ns : List Int}, x ∈ addAll ns ks ↔ x ∈ ns ∨ x ∈ ks
  | [], ns => by simp [addAll]
  | k :: ks, ns => by
    rw [addAll, mem_addAll, mem_addNum, List.mem_cons]
    constructor
    · rintro ((h | h) | h)
      · exact .inr (.inl h)
      · exact .inl h
      · exact .inr (.inr h)
    · rintro (h | h | h)
      · exact .inl (.inr h)
      · exact .inl (.inl h)
      · exact .inr h
theorem accs_S : ∀ (ks ns : List Int), ns.length + ks.length ≤ 1000 → accs accS (.si ns) (ks.map .int) = some (.si (addAll ns ks)) ∧ (addAll ns ks).length ≤ ns.length + ks.length
  | [], ns, _ => by simp [accs, addAll]
  | k :: ks, ns, h => by
    simp only [List.length_cons] at h
    have l := addNum_len k ns
    have : accS (.si ns) (.int k) = some (.si (addNum k ns)) := by simp only [accS]; rw [if_pos (by omega)]
    obtain ⟨a, b⟩ := accs_S ks (addNum k ns) (by omega)
    simp only [List.map_cons, accs, this, Option.bind, a, addAll, List.length_cons]
    exact ⟨trivial, by omega⟩
end MB
/-! MB5: a comprehension that draws and reads other cells. -/
namespace MB
open PySem DL L2 MA
def OffJ (j : Nat) (ce0 ce : Ce) : Prop := ∀ i, i ≠ j → i < ce0.length → ce[i]? = ce0[i]?
theorem OffJ.kp {j : Nat} {ks : List Int} {ce0 ce ce' : Ce} (h : OffJ j ce0 ce) (k : Kp j ks ce ce') : OffJ j ce0 ce' := fun i hi hl => (k.2.1 i hi).trans (h i hi hl)
theorem OffJ.app {j : Nat} {ce0 ce : Ce} (h : OffJ j ce0 ce) (l : ce0.length ≤ ce.length) (more : Ce) : OffJ j ce0 (ce ++ more) := fun i hi hl => by
  rw [List.getElem?_append_left (by omega)]
  exact h i hi hl
theorem OffJ.refl {j : Nat} {ce : Ce} : OffJ j ce ce := fun _ _ _ => rfl
theorem lc_draw2 {step : PyData → M (Option PyData)} {j : Nat} {ks : List Int} {sl0 : List (Option VD)} {T : PyData → Prop} {ce0 : Ce} (hj : j < ce0.length)
    (hs : ∀ d ce, Pn j ks ce → ce0.length ≤ ce.length → OffJ j ce0 ce → ∃ e sl' ce' more, step d ⟨sl0, ce⟩ = .ok (some e, ⟨sl', ce' ++ more⟩) ∧ Kp j ks ce ce' ∧ T e) : ∀ (ds acc : List PyData) (ce : Ce), ce.length = ce0.length → Pn j ks ce → OffJ j ce0 ce → acc.length + ds.length ≤ 16777215 →
    ∃ es ce', lcGo step ce0.length sl0 ds (ce ++ [(.ls true acc)]) = some (ce' ++ [(.ls true (acc ++ es))]) ∧ Kp j ks ce ce' ∧ (∀ e ∈ es, T e) ∧ es.length = ds.length
  | [], acc, ce, hn, hp, _, _ => ⟨[], ce, by simp [lcGo], Kp.refl hp, fun _ z => (nomatch z), rfl⟩
  | d :: ds, acc, ce, hn, hp, ho, hz => by
    obtain ⟨e, sl', ce1, more, he, hk, ht⟩ := hs d (ce ++ [(.ls true acc)]) (hp.app _) (by simp; omega) (ho.app (by omega) _)
    obtain ⟨ce2, rfl, hk2⟩ := hk.split (by omega)
    have hl2 : ce2.length = ce0.length := by rw [hk2.1, hn]
    obtain ⟨es, ce', h1, h2, h3, h4⟩ := lc_draw2 hj hs ds (acc ++ [e]) ce2 hl2 hk2.pn (ho.kp hk2) (by simp at hz ⊢; omega)
    refine ⟨e :: es, ce', ?_, hk2.trans h2, fun x hx => ?_, by simp [h4]⟩
    · unfold lcGo
      rw [he]
      dsimp only
      have g : (ce2 ++ [(.ls true acc)] ++ more)[ce0.length]? = some (.ls true acc) := by rw [← hl2]; simp
      rw [g]
      dsimp only
      have tk : (ce2 ++ [(Cl.ls true acc)] ++ more).take ce0.length = ce2 := by rw [List.append_assoc]; exact List.take_left' hl2
      rw [if_pos (by simp at hz; omega), tk, h1]
      simp
    · rcases List.mem_cons.mp hx with rfl | hx
      · exact ht
      · exact h3 x hx
end MB
namespace K12
open PySem DL L2 MA MB
theorem same_fresh : f_law_fresh = MA.f_law_fresh := rfl
theorem same_draw : f_law_draw = MA.f_law_draw := rfl
@[simp] theorem slVB (ds : List PyData) (lo hi : Option Int) (S : DS) : slV (.bag ds) lo hi S = newL (cutD ds lo hi) S := rfl
theorem pen_raw (ds : List PyData) : f_law_pen [.bag ds] ⟨[], []⟩ = .ok (.rf 0, ⟨[], [(.ls true ([.list (cutD ds none (some 63)), .int 0, .int 0, .list [.int 1, .int 5]]))]⟩) := by
  rfl
theorem cut_ints (ns : List Int) : ∃ ms : List Int, cutD (ns.map .int) none (some 63) = ms.map .int := by
  unfold cutD
  exact ⟨(ns.drop _).take _, by rw [List.map_take, List.map_drop, List.length_map]⟩
/-- the drawn thing -/
theorem thing_sp (ns : List Int) : ∃ (t : Int) (c : Cl), 0 ≤ t ∧ t < 9 ∧ eCall 2 f_law_draw (aCons (eCall 1 f_law_pen (aCons (eVar 0) (pure []))) (aCons (eC (.int 9)) (pure []))) ⟨[some (.bag (ns.map .int)), none], []⟩ = .ok (.dat (.int t), ⟨[some (.bag (ns.map .int)), none], [c]⟩) := by
  obtain ⟨ms, e⟩ := cut_ints ns
  have p := pen_raw (ns.map .int)
  have hp : Pn 0 [1, 5] [(.ls true ([.list (cutD (ns.map .int) none (some 63)), .int 0, .int 0, .list [.int 1, .int 5]]))] := ⟨ms, 0, 0, by rw [e]; rfl⟩
  obtain ⟨d, ce', e1, h1, h2, h3⟩ := draw_sp hp (b := 9) (by omega)
  have hl := h3.1
  match ce', hl with
  | [c], _ => exact ⟨d, c, h1, h2, by simp [p, same_draw, e1]⟩
abbrev A1 : MS := sSet 1 (eCall 2 f_law_draw (aCons (eCall 1 f_law_pen (aCons (eVar 0) (pure []))) (aCons (eC (.int 9)) (pure []))))
abbrev A2 : MS := (sIf (tOrD (tNotD (tOf (eCall 1 f_law_takes_right (aCons (eVar 1) (pure []))))) (tNotD (tOf (eCall 1 f_law_puts_right (aCons (eVar 1) (pure [])))))) (sRet (eC (.bool false))) sNil)
abbrev A3 : MS := sRet (eAndD (eCall 1 f_law_turns_right (aCons (eVar 1) (pure []))) (eCall 0 f_law_sizes_right (pure [])))

theorem a2_gen {f g : Fd} {x : Option VD} {t : Int} {c : Cl} (e1 : f [.dat (.int t)] ⟨[], [c]⟩ = .ok (.dat (.bool true), ⟨[], [c]⟩)) (e2 : g [.dat (.int t)] ⟨[], [c]⟩ = .ok (.dat (.bool true), ⟨[], [c]⟩)) :
    (sIf (tOrD (tNotD (tOf (eCall 1 f (aCons (eVar 1) (pure []))))) (tNotD (tOf (eCall 1 g (aCons (eVar 1) (pure [])))))) (sRet (eC (.bool false))) sNil) ⟨[x, some (.dat (.int t))], [c]⟩ = .ok (.nx, ⟨[x, some (.dat (.int t))], [c]⟩) := by
  simp [e1, e2]
theorem a3_gen {f g : Fd} {x : Option VD} {t : Int} {c : Cl} (e1 : f [.dat (.int t)] ⟨[], [c]⟩ = .ok (.dat (.bool true), ⟨[], [c]⟩)) (e2 : g [] ⟨[], [c]⟩ = .ok (.dat (.bool true), ⟨[], [c]⟩)) :
    sRet (eAndD (eCall 1 f (aCons (eVar 1) (pure []))) (eCall 0 g (pure []))) ⟨[x, some (.dat (.int t))], [c]⟩ = .ok (.rt (.dat (.bool true)), ⟨[x, some (.dat (.int t))], [c]⟩) := by
  simp [e1, e2]
theorem run_gen {f : Fd} {b1 b2 b3 : MS} {x : VD} {y : Option VD} {c : Cl} (s1 : b1 ⟨[some x, none], []⟩ = .ok (.nx, ⟨[some x, y], [c]⟩)) (s2 : b2 ⟨[some x, y], [c]⟩ = .ok (.nx, ⟨[some x, y], [c]⟩)) (s3 : b3 ⟨[some x, y], [c]⟩ = .ok (.rt (.dat (.bool true)), ⟨[some x, y], [c]⟩)) (e : f = runF 2 (sSeq b1 (sSeq b2 b3))) :
    ∃ S', f [x] ⟨[], []⟩ = .ok (.dat (.bool true), S') := by
  refine ⟨⟨[], []⟩, ?_⟩
  rw [e, runFS]
  show endF 0 (sSeq b1 (sSeq b2 b3) ⟨[some x, none], []⟩) = _
  rw [MA.seq_nx s1, MA.seq_nx s2, s3]
  rfl
theorem all9 {f : Fd} {t : Int} {c : Cl} (h0 : 0 ≤ t) (h9 : t < 9) (p0 : Yes f [.dat (.int 0)]) (p1 : Yes f [.dat (.int 1)]) (p2 : Yes f [.dat (.int 2)]) (p3 : Yes f [.dat (.int 3)]) (p4 : Yes f [.dat (.int 4)]) (p5 : Yes f [.dat (.int 5)]) (p6 : Yes f [.dat (.int 6)]) (p7 : Yes f [.dat (.int 7)]) (p8 : Yes f [.dat (.int 8)]) : f [.dat (.int t)] ⟨[], [c]⟩ = .ok (.dat (.bool true), ⟨[], [c]⟩) :=
  nine h0 h9 (P := fun t => Yes f [.dat (.int t)]) p0 p1 p2 p3 p4 p5 p6 p7 p8 c
theorem law_true (ns : List Int) : ∃ S', flaw [.bag (ns.map .int)] ⟨[], []⟩ = .ok (.dat (.bool true), S') := by
  obtain ⟨t, c, h1, h2, e⟩ := thing_sp ns
  refine run_gen (b1 := A1) (b2 := A2) (b3 := A3) (by unfold A1; rw [sSetS, e]; rfl) (a2_gen (all9 h1 h2 takes_0 takes_1 takes_2 takes_3 takes_4 takes_5 takes_6 takes_7 takes_8) (all9 h1 h2 puts_0 puts_1 puts_2 puts_3 puts_4 puts_5 puts_6 puts_7 puts_8)) (a3_gen (all9 h1 h2 turns_0 turns_1 turns_2 turns_3 turns_4 turns_5 turns_6 turns_7 turns_8) (z0 c)) rfl
end K12
/-! DG3: a law's own call where its defs make lambdas: their tables are known. -/
namespace DG
open L2 PyProof.Rows PySem PySem.Spec
open Classical in
/-- the heap in which the script and the tables are known -/
noncomputable def tabHp (K : PySem.W.Frag) (a : Addr) (vs : List Value) (ns : List Int) (cs : List (Addr × Addr)) : Hp := fun b => if b ∈ cs.map (·.2) then some (.tbl #[]) else scriptHp K a vs ns b
section
variable {P : Program} {w : World} {K : PySem.W.Frag} {a : Addr} {vs : List Value} {ns : List Int} {cs : List (Addr × Addr)} {h : Heap}
theorem tabHp_some {b : Addr} {u : HO} (e : tabHp K a vs ns cs b = some u) : (b ∈ cs.map (·.2) ∧ u = .tbl #[]) ∨ (b = a ∧ K.lookup a = none ∧ u = .frz { cls := .type "list", data := .seq vs.toArray } (.lst (ns.map V.int))) := by
  unfold tabHp at e
  split at e
  · rename_i c; exact .inl ⟨c, (Option.some.inj e).symm⟩
  · exact .inr (scriptHp_some e)
theorem tabHp_tab {p : Addr × Addr} (hp : p ∈ cs) : tabHp K a vs ns cs p.2 = some (.tbl #[]) := if_pos (List.mem_map.mpr ⟨p, hp, rfl⟩)
end
theorem lawCallT {P : Program} {w : World} {K : PySem.W.Frag} {mg mb : Str → Option Value} {k : Nat} {fa a : Addr} {fd : FuncData} {x : Str} {sp : Sp} {s : Shared} {vs : List Value} {ns : List Int} {cs : List (Addr × Addr)}
    (KX : K.In s.heap) (hm : s.heap.Ns mainGlobals mg) (hb : s.heap.Ns builtinsNs mb) (hbb : ∀ x : Str, x ≠ "__name__" → mb x = bootBuiltins x) (lim : s.heap.NoLimit) (gens : s.gens = #[])
    (hT : ∀ p ∈ cs, s.heap.get? p.2 = some { cls := .none, data := .fields #[] }) (nT : ∀ p ∈ cs, K.lookup p.2 = none) (C : ∀ p ∈ cs, PySem.W.CodeHd s.heap p.1 p.2)
    (hbm : ∃ (bm : Addr) (ob : Obj), mg "__builtins__" = some (.ref bm) ∧ bm ≠ builtinsNs ∧ s.heap.get? bm = some ob ∧ ob.cls = .type "module" ∧ ob.dict = some builtinsNs ∧ ob.data = .plain)
    (ha : s.heap.get? a = some { cls := .type "list", data := .seq vs.toArray }) (hi : IntsAre vs ns) (hl : ns.length ≤ sizeLine) (hr : Room k callerA)
    (F : ∀ base : Heap, K.In base → base.Ns mainGlobals mg → (∀ p ∈ cs, LamX.TabB base mg p.1 p.2) → FnG P w K mg base k fa fd [x] sp) (hbind : ∀ (s : Shared) (u : Value), BindsTo s fd ⟨[u], []⟩ [(x, u)])
    (hsp : ∀ H : Hp, (∀ p ∈ cs, H p.2 = some (.tbl #[])) → SqL K H a (ns.map V.int) → sp [.ref a] H (fun v _ => v = .bl true) fun _ _ _ => False) :
    codeAny (model P w) callerA (.call (.ref fa) ⟨[.ref a], []⟩) (fun r s' => r = .ok (.ret (.bool true)) ∧ OldK s.heap s'.heap ∧ s'.os = s.os ∧ AllBare s'.gens) s := by
  have atT : ∀ b ∈ cs.map (·.2), s.heap.get? b = some { cls := .none, data := .fields #[] } ∧ K.lookup b = none := fun b hb => by
    obtain ⟨p, hp, rfl⟩ := List.mem_map.mp hb
    exact ⟨hT p hp, nT p hp⟩
  have aT : (a ∉ cs.map (·.2)) := fun z => by
    have q := (atT a z).1
    rw [ha] at q
    cases q
  generalize hH : tabHp K a vs ns cs = H
  have hS : SqL K H a (ns.map V.int) := by
    subst hH
    have e : tabHp K a vs ns cs a = scriptHp K a vs ns a := if_neg aT
    cases hk : K.lookup a with
    | none => exact .inl (.inr ⟨{ cls := .type "list", data := .seq vs.toArray }, by rw [e]; exact if_pos ⟨rfl, hk⟩⟩)
    | some o =>
      cases ha.symm.trans (KX a o hk)
      exact .inr ⟨_, vs.toArray, _, hk, rfl, rfl, rfl, by rw [List.size_toArray, hi.length]; exact hl, by simpa using vals_ints hi⟩
  have isA : ∀ {b : Addr} {u : HO}, H b = some u → (b ∈ cs.map (·.2) ∧ u = .tbl #[]) ∨ (b = a ∧ K.lookup a = none ∧ u = .frz { cls := .type "list", data := .seq vs.toArray } (.lst (ns.map V.int))) := fun {b u} e => by subst hH; exact tabHp_some e
  have hok : HOk P w H s.heap := fun b u e => by
    rcases isA e with ⟨hb, rfl⟩ | ⟨rfl, _, rfl⟩
    · exact (atT b hb).1
    · exact ⟨ha, by rw [List.length_map]; exact hl, vs, _, vals_ints hi, ha⟩
  have free : ∀ {b : Addr}, (∀ u, H b = some u → False) → H b = none := fun {b} z => by
    cases e : H b with
    | none => rfl
    | some u => exact (z u e).elim
  have noF : ∀ {b : Addr} {o : Obj}, s.heap.get? b = some o → (∀ vs n, o.data ≠ .seq vs n) → o.data ≠ .fields #[] → H b = none := fun {b o} e h1 h2 => free fun u z => by
    rcases isA z with ⟨hb, _⟩ | ⟨rfl, _⟩
    · cases (atT b hb).1.symm.trans e; exact h2 rfl
    · cases ha.symm.trans e; exact h1 _ _ rfl
  have dictFree : ∀ {b : Addr} {m : Str → Option Value}, s.heap.Ns b m → (hidT s.heap H).Ns b m := fun {b m} ⟨o, es, ep, e, d, r⟩ => ⟨o, es, ep, hidT_get e (noF e (fun vs n z => by rw [d] at z; cases z) fun z => by rw [d] at z; cases z), d, r⟩
  have KB : K.In (hidT s.heap H) := fun b o e => hidT_get (KX b o e) (free fun u z => by
    rcases isA z with ⟨hb, _⟩ | ⟨rfl, z2, _⟩
    · rw [(atT b hb).2] at e; cases e
    · rw [z2] at e; cases e)
  have TB : ∀ p ∈ cs, LamX.TabB (hidT s.heap H) mg p.1 p.2 := fun p hp => by
    have hTp := hT p hp
    refine ⟨?_, ?_, fun z => ?_⟩
    · obtain ⟨o, us, file, tf, flags, tg, inF, text, tt, e1, r1, r2, r3, rest⟩ := C p hp
      refine ⟨o, us, file, tf, flags, tg, inF, text, tt, hidT_get e1 (noF e1 (fun vs n z => ?_) fun z => ?_), r1, r2, r3, rest⟩
      · rw [r2] at z; cases z
      · rw [r2] at z; cases z; simp at r3
    · (obtain ⟨bm, ob, b1, b2, b3, b4, b5, b6⟩ := hbm)
      have nG : (bm ≠ mainGlobals) := fun q => by
        obtain ⟨o, es, ep, e, hd, _⟩ := hm
        rw [q, e] at b3; cases b3
        rw [hd] at b6; cases b6
      have nP : (bm ≠ p.2) := fun q => by
        rw [q, hTp] at b3; cases b3; cases b6
      exact ⟨bm, ob, b1, b2, nG, nP, hidT_get b3 (noF b3 (fun vs n z => by rw [b6] at z; cases z) fun z => by rw [b6] at z; cases z), b4, b5, b6⟩
    · obtain ⟨o, es, ep, e, hd, _⟩ := hm
      rw [z, hTp] at e; cases e; cases hd
  obtain ⟨mc, l1, l2⟩ := lim
  have e0 : Env0 P w K mg (hidT s.heap H) callerA [] s H := ⟨rfl, ⟨KB, dictFree hm, ⟨mb, dictFree hb, hbb⟩, ⟨mc, dictFree l1, l2⟩⟩, fun b o e => of_hidT e, Nat.le_of_eq (hidT_size _ _), trivial, (fun b z => by cases z), hok, .of_eq gens⟩
  refine codeAny_mono ((F _ KB (dictFree hm) TB).run callerA [] s H [.ref a] [.ref a] _ _ rfl hr e0 (hbind s (.ref a)) (.cons rfl .nil) (hsp H (fun p hp => by subst hH; exact tabHp_tab hp) hS)) fun r s' z => ?_
  match r, z with
  | .error e, ⟨_, _, _, _, _, _, _, _, _, _, _, _, z⟩ => exact z.elim
  | .ok .next, z => exact z.elim
  | .ok .brk, z => exact z.elim
  | .ok .cont, z => exact z.elim
  | .ok (.ret u), ⟨v, H', os, bare, un, hok', rv, ev⟩ =>
    subst ev
    cases rv
    have key : ∀ b o, b ∉ cs.map (·.2) → s.heap.get? b = some o → s'.heap.get? b = some o := fun b o nb e => by
      cases q : H b with
      | none => exact un.keep b o e q (fun z => by cases z) (fun z => by cases z)
      | some u =>
        rcases isA q with ⟨hb, _⟩ | ⟨_, _, rfl⟩
        · exact absurd hb nb
        · obtain ⟨e1, _⟩ := hok b _ q
          obtain ⟨e2, _⟩ := hok' b _ (un.frzs b _ _ q)
          cases e.symm.trans e1
          exact e2
    have grown : ∀ p ∈ cs, ∃ (more : Array Value), s'.heap.get? p.2 = some { cls := .none, data := .fields more } := fun p hp => by
      obtain ⟨more, z⟩ := un.tbls p.2 #[] (by subst hH; exact tabHp_tab hp)
      exact ⟨_, hok' p.2 _ z⟩
    (refine ⟨rfl, ⟨fun b o e => ?_, fun b o e => ?_⟩, os, bare⟩)
    · by_cases hb : (b ∈ cs.map (·.2))
      · (obtain ⟨p, hp, rfl⟩ := List.mem_map.mp hb)
        obtain ⟨more, hm'⟩ := grown p hp
        cases (hT p hp).symm.trans e
        exact .inr (.inl ⟨((C p hp).tab (hT p hp)).isCodeTable, rfl, #[], more, rfl, by rw [Array.empty_append]; exact hm'⟩)
      · exact .inl (key b o hb e)
    · by_cases hb : (b ∈ cs.map (·.2))
      · (obtain ⟨p, hp, rfl⟩ := List.mem_map.mp hb)
        obtain ⟨more, hm'⟩ := grown p hp
        exact ⟨_, hm'⟩
      · exact ⟨o, key b o hb e⟩
/-- what is known of the code objects of a program's defs -/
def TabsAt (q : Program) (mg : Str → Option Value) (h : Heap) : Prop := ∀ d ∈ recsOf q, ∃ a o fd c P, mg d.name = some (.ref a) ∧ h.get? a = some o ∧ o.data = .func fd ∧ fd.code = .ref c ∧ h.IsCode c P #[] ∧ h.TableAt c P #[]
theorem tab_at {q : Program} {mg : Str → Option Value} {h : Heap} {K : PySem.W.Frag} {n x qual : Str} {f c P : Addr} {oc : Value} {od : Option Addr} {pA : Arguments} {bd : List Stmt} {sc : Scope} {dV kV doc pm ct : Value} {an : Option Addr} {sl sl2 : Array (Option Value)} {e : Value} {dd : Option Addr} {vs : Array Value}
    (tab : TabsAt q mg h) (hn : ((recsOf q).any fun d => d.name == n) = true) (hm : mg n = some (.ref f)) (KX : K.In h) (lk : K.lookup f = some ⟨oc, od, .func (PySem.W.fnOf x qual pA bd sc dV kV doc pm an (.ref c) ct), sl⟩) (lc : K.lookup c = some ⟨e, dd, .fields vs, sl2⟩) (hP : vs[11]? = some (.ref P)) :
    h.get? P = some { cls := .none, data := .fields #[] } ∧ PySem.W.CodeHd h c P := by
  obtain ⟨d, hd, hdn⟩ := List.any_eq_true.mp hn
  have hdn : d.name = n := beq_iff_eq.mp hdn
  obtain ⟨a', o', fd', c', P', h1, h2, h3, h4, h5, h6⟩ := tab d hd
  rw [hdn, hm] at h1
  cases h1
  rw [KX _ _ lk] at h2
  cases h2
  cases h3
  have ec : c' = c := by
    have z : Value.ref c = Value.ref c' := h4
    cases z; rfl
  subst ec
  have hd2 := PySem.W.CodeHd.of h5 h6
  obtain ⟨⟨oc, vc, e1, _, e3, e4⟩, hP'⟩ := h6
  rw [KX _ _ lc] at e1
  cases e1
  cases e3
  rw [hP] at e4
  cases e4
  exact ⟨hP', hd2⟩
/-- what is known of the law's promise -/
def LawT (l : PySem.W.OpenLaw) (w : World) (K : PySem.W.Frag) (k n : Nat) (x : Str) (mg : Str → Option Value) (fa : Addr) (h : Heap) : Prop :=
  ∃ (fd : FuncData) (cs : List (Addr × Addr)) (sp : Sp), (∀ p ∈ cs, h.get? p.2 = some { cls := .none, data := .fields #[] }) ∧ (∀ p ∈ cs, K.lookup p.2 = none) ∧ (∀ p ∈ cs, PySem.W.CodeHd h p.1 p.2) ∧ (∀ (s : Shared) (u : Value), BindsTo s fd ⟨[u], []⟩ [(x, u)]) ∧ (∀ (H : Hp) (a : Addr) (ns : List Int), ns.length ≤ n → (∀ p ∈ cs, H p.2 = some (.tbl #[])) → SqL K H a (ns.map V.int) → sp [.ref a] H (fun v _ => v = .bl true) fun _ _ _ => False) ∧
    ∀ base : Heap, K.In base → base.Ns mainGlobals mg → (∀ p ∈ cs, LamX.TabB base mg p.1 p.2) → FnG l.prog w K mg base k fa fd [x] sp
theorem walkGT {l : PySem.W.OpenLaw} {n k : Nat} {q : Program} {loose : List Str} {XP : (Str → Option Value) → Heap → Prop} {YP : World → Heap → Prop} {d : DefRec} {K : Params → PySem.W.Frag} {x : Str} (hn : l.most = some n) (hn2 : n ≤ sizeLine) (hdf : d.params.defaults = []) (hr : Room k callerA) (hY : ∀ (w : World) (h : Heap), YP w h → (K w.params).In h)
    (F : ∀ (w : World) (mg : Str → Option Value) (fa : Addr) (h : Heap), (K w.params).In h → h.Ns mainGlobals mg → mg d.name = some (.ref fa) → TabsAt q mg h → LawT l w (K w.params) k n x mg fa h) : PySem.W.WalkO q loose XP YP l.row.toRowW d [] (fun f vs => PySem.call f vs) :=
  Att.attach_call hn hdf fun w s0 s1 mg mb fa o pm cd doc a vs ns G Y _ _ _ hmg hobj hints hlen hg => by
    obtain ⟨fd, cs, sp, hT, nT, C, hb, hsp, hF⟩ := F w mg fa _ (hY w _ Y) G.T.g hmg G.T.tab
    exact lawCallT (hY w _ Y) G.T.g G.T.b G.T.builtins G.T.nolimit hg hT nT C G.T.bmain hobj hints (Nat.le_trans hlen hn2) hr hF hb fun H hH hS => hsp H a ns hlen hH hS
end DG
namespace DL
open PySem PySem.Spec L2
theorem dd_intsT {K : PySem.W.Frag} {H : Hp} : ∀ ns : List Int, DdAll K H (ns.map V.int) (ns.map PyData.int)
  | [] => .nil
  | n :: ns => .cons (.int n) (dd_intsT ns)
/-- the law's call, where its den tells True of every script -/
theorem sp_start {T : TabT} {K : PySem.W.Frag} {w : World} {mg : Str → Option Value} {H : Hp} {a : Addr} {ns : List Int} {flaw : Fd} {S : DS} (hS : SqL K H a (ns.map V.int)) (hT : LamX.Tabs T.T H) (e : flaw [.bag (ns.map .int)] ⟨[], []⟩ = .ok (.dat (.bool true), S)) :
    spD K w mg 1 flaw [.ref a] H (fun v _ => v = .bl true) fun _ _ _ => False := by
  let G : Hp := fun b => match H b with
    | some (.tbl _) => none
    | o => o
  have gs : ∀ b u, G b = some u → H b = some u ∧ ∀ ps, u ≠ .tbl ps := fun b u h => by
    have h' : (match H b with | some (.tbl _) => none | o => o) = some u := h
    cases e : H b with
    | none => (rw [e] at h'; cases h')
    | some v =>
      rw [e] at h'
      cases v <;> cases h' <;> exact ⟨rfl, fun ps z => by cases z⟩
  have sg : ∀ b u, H b = some u → (∀ ps, u ≠ .tbl ps) → G b = some u := fun b u h n => by
    show (match H b with | some (.tbl _) => none | o => o) = some u
    rw [h]
    cases u <;> first | rfl | exact absurd rfl (n _)
  have hSG : SqL K G a (ns.map V.int) := by
    rcases hS with (h | ⟨o, h⟩) | h
    · exact .inl (.inl (sg _ _ h fun ps z => by cases z))
    · exact .inl (.inr ⟨o, sg _ _ h fun ps z => by cases z⟩)
    · exact .inr h
  refine ⟨rfl, fun _ => none, [], [], G, [.bag (ns.map .int)], ⟨rfl, fun b u h => (gs b u h).1, (fun _ _ z => nomatch z), rfl, List.nodup_nil, (fun j a c z => nomatch z), (fun i x z => nomatch z), fun b ps z => (gs b _ z).2 ps rfl, (fun _ _ z => nomatch z), hT⟩, ⟨⟨a, _, rfl, hSG, dd_intsT ns⟩, trivial⟩, ?_⟩
  rw [e]
  intro v H' G' rs' u m r
  cases r
  rfl
end DL
namespace K12
open PySem PySem.Spec L2 DL
section
variable {base : Heap} {P : Program} {w : World} {K : PySem.W.Frag} {mg : Str → Option Value}
abbrev ci_LimitExceeded : Stmt := clsInit (top 1)
theorem csc_LimitExceeded : FnScope ["self", "limit"] ["self", "limit"] (defScope ci_LimitExceeded) := ⟨rfl, rfl, rfl, by decide +kernel, rfl, by decide +kernel, by decide +kernel⟩
theorem cok_LimitExceeded [TabT] {fI C : Addr} {fd : FuncData} (Fn : Fun K "__init__" "LimitExceeded.__init__" ci_LimitExceeded fI fd) (T : EX.XcE K C) (h1 : W.takerIn K C "limit" = some none) : FnOk P w K mg base CX0 1 fI fd ["self", "limit"] (iniSp C ["limit"]) :=
  Fun.ok Fn csc_LimitExceeded ini_len fun cdv A outer s H vs Q E hr h => ⟨_, pss_one (EX.ps_sto (pv 0) (pv 1)), ini1 T h1 h⟩
theorem cmk_LimitExceeded [TabT] {fI C : Addr} {fd : FuncData} (Fn : Fun K "__init__" "LimitExceeded.__init__" ci_LimitExceeded fI fd) (T : EX.XcE K C ∧ ∀ n ∈ (["limit"] : List Str), W.takerIn K C n = some none ∧ W.findIn K (.ref C) n = some none) (hm : mg "LimitExceeded" = some (.ref C)) (iC : W.findIn K (.ref C) "__init__" = some (some (.ref fI))) (tI : W.typeIn K (.ref fI) = some (.type "function")) : MkO P w K mg base "LimitExceeded" ["limit"] :=
  mko1 Fn hm T.1 iC tI (cok_LimitExceeded Fn T.1 (T.2 _ List.mem_cons_self).1) (fun _ _ _ _ _ _ _ _ => rfl) (fun _ _ _ _ _ _ _ _ => rfl)
def cs (C0 : Addr) : List ClsE := [("LimitExceeded", ["limit"], 2, C0)]
theorem cs_mg {C0 : Addr} (m0 : mg "LimitExceeded" = some (.ref C0)) : ∀ p ∈ cs C0, mg p.1 = some (.ref p.2.2.2) := (List.forall_mem_cons.mpr ⟨m0, (fun _ hp => by cases hp)⟩)
theorem cs_0 {C0 : Addr} : (cs C0)[0]'(by show 0 < 1; decide) ∈ cs C0 := List.getElem_mem _
end
set_option maxHeartbeats 4300007 in
theorem all_mk {l : W.OpenLaw} {q : Program} {w : World} {K : W.Frag} {h : Heap} {mg : Str → Option Value} {fa : Addr} (X : K.In h) (G : h.Ns mainGlobals mg) (hfa : mg "law" = some (.ref fa)) (tab : DG.TabsAt q mg h)
    {C0 g0 f100 f101 f102 f103 f104 f105 f106 f107 f108 f109 f110 f111 f112 f113 f114 f115 f116 f117 f118 f119 f120 f121 f122 f123 f124 f125 f126 f127 f128 : Addr} {od0 an0 od100 an100 od101 an101 od102 an102 od103 an103 od104 an104 od105 an105 od106 an106 od107 an107 od108 an108 od109 an109 od110 an110 od111 an111 od112 an112 od113 an113 od114 an114 od115 an115 od116 an116 od117 an117 od118 an118 od119 an119 od120 an120 od121 an121 od122 an122 od123 an123 od124 an124 od125 an125 od126 an126 od127 an127 od128 an128 : Option Addr} {sl0 sl100 sl101 sl102 sl103 sl104 sl105 sl106 sl107 sl108 sl109 sl110 sl111 sl112 sl113 sl114 sl115 sl116 sl117 sl118 sl119 sl120 sl121 sl122 sl123 sl124 sl125 sl126 sl127 sl128 : Array (Option Value)} {oc0 kV0 dc0 pm0 cd0 ct0 oc100 kV100 dc100 pm100 cd100 ct100 oc101 kV101 dc101 pm101 cd101 ct101 oc102 kV102 dc102 pm102 cd102 ct102 oc103 kV103 dc103 pm103 cd103 ct103 oc104 kV104 dc104 pm104 cd104 ct104 oc105 kV105 dc105 pm105 cd105 ct105 oc106 kV106 dc106 pm106 cd106 ct106 oc107 kV107 dc107 pm107 cd107 ct107 oc108 kV108 dc108 pm108 cd108 ct108 oc109 kV109 dc109 pm109 cd109 ct109 oc110 kV110 dc110 pm110 cd110 ct110 oc111 kV111 dc111 pm111 cd111 ct111 oc112 kV112 dc112 pm112 cd112 ct112 oc113 kV113 dc113 pm113 cd113 ct113 oc114 kV114 dc114 pm114 cd114 ct114 oc115 kV115 dc115 pm115 cd115 ct115 oc116 kV116 dc116 pm116 cd116 ct116 oc117 kV117 dc117 pm117 cd117 ct117 oc118 kV118 dc118 pm118 cd118 ct118 oc119 dc119 pm119 cd119 ct119 oc120 kV120 dc120 pm120 cd120 ct120 oc121 kV121 dc121 pm121 cd121 ct121 oc122 kV122 dc122 pm122 cd122 ct122 oc123 kV123 dc123 pm123 cd123 ct123 oc124 kV124 dc124 pm124 cd124 ct124 oc125 kV125 dc125 pm125 ct125 oc126 kV126 dc126 pm126 cd126 ct126 oc127 kV127 dc127 pm127 ct127 oc128 kV128 dc128 pm128 cd128 ct128 : Value} {kD119 : Addr} {kT119 : Tok} {cA125 pA125 : Addr} {eA125 : Value} {dA125 : Option Addr} {vA125 : Array Value} {sA125 : Array (Option Value)} {cA127 pA127 : Addr} {eA127 : Value} {dA127 : Option Addr} {vA127 : Array Value} {sA127 : Array (Option Value)} {t_MOST_ATOMS t_MOST_VARIABLES t_ROOM : Tok}
    (aC0 : W.nsIn K mainGlobals "LimitExceeded" = some (some (.ref C0)))
    (iC0 : W.findIn K (.ref C0) "__init__" = some (some (.ref g0)))
    (tC0 : W.typeIn K (.ref g0) = some (.type "function"))
    (lC0 : K.lookup g0 = some ⟨oc0, od0, .func (W.fnOf "__init__" "LimitExceeded.__init__" (defArgs ci_LimitExceeded) (defBody ci_LimitExceeded) (defScope ci_LimitExceeded) .none kV0 dc0 pm0 an0 cd0 ct0), sl0⟩)
    (cC0 : W.codeIn K cd0 "LimitExceeded.__init__" = true)
    (kC0 : W.keepIn K (.ref g0) = true)
    (a100 : W.nsIn K mainGlobals "set_of" = some (some (.ref f100)))
    (l100 : K.lookup f100 = some ⟨oc100, od100, .func (W.fnOf "set_of" "set_of" (defArgs stset_of) (defBody stset_of) (defScope stset_of) .none kV100 dc100 pm100 an100 cd100 ct100), sl100⟩)
    (c100 : W.codeIn K cd100 "set_of" = true)
    (k100 : W.keepIn K (.ref f100) = true)
    (a101 : W.nsIn K mainGlobals "variables_of" = some (some (.ref f101)))
    (l101 : K.lookup f101 = some ⟨oc101, od101, .func (W.fnOf "variables_of" "variables_of" (defArgs stvariables_of) (defBody stvariables_of) (defScope stvariables_of) .none kV101 dc101 pm101 an101 cd101 ct101), sl101⟩)
    (c101 : W.codeIn K cd101 "variables_of" = true)
    (k101 : W.keepIn K (.ref f101) = true)
    (a102 : W.nsIn K mainGlobals "question_of" = some (some (.ref f102)))
    (l102 : K.lookup f102 = some ⟨oc102, od102, .func (W.fnOf "question_of" "question_of" (defArgs stquestion_of) (defBody stquestion_of) (defScope stquestion_of) .none kV102 dc102 pm102 an102 cd102 ct102), sl102⟩)
    (c102 : W.codeIn K cd102 "question_of" = true)
    (k102 : W.keepIn K (.ref f102) = true)
    (a103 : W.nsIn K mainGlobals "put_in" = some (some (.ref f103)))
    (l103 : K.lookup f103 = some ⟨oc103, od103, .func (W.fnOf "put_in" "put_in" (defArgs stput_in) (defBody stput_in) (defScope stput_in) .none kV103 dc103 pm103 an103 cd103 ct103), sl103⟩)
    (c103 : W.codeIn K cd103 "put_in" = true)
    (k103 : W.keepIn K (.ref f103) = true)
    (a104 : W.nsIn K mainGlobals "atoms_with" = some (some (.ref f104)))
    (l104 : K.lookup f104 = some ⟨oc104, od104, .func (W.fnOf "atoms_with" "atoms_with" (defArgs statoms_with) (defBody statoms_with) (defScope statoms_with) .none kV104 dc104 pm104 an104 cd104 ct104), sl104⟩)
    (c104 : W.codeIn K cd104 "atoms_with" = true)
    (k104 : W.keepIn K (.ref f104) = true)
    (a105 : W.nsIn K mainGlobals "are_unlike" = some (some (.ref f105)))
    (l105 : K.lookup f105 = some ⟨oc105, od105, .func (W.fnOf "are_unlike" "are_unlike" (defArgs stare_unlike) (defBody stare_unlike) (defScope stare_unlike) .none kV105 dc105 pm105 an105 cd105 ct105), sl105⟩)
    (c105 : W.codeIn K cd105 "are_unlike" = true)
    (k105 : W.keepIn K (.ref f105) = true)
    (a106 : W.nsIn K mainGlobals "moved" = some (some (.ref f106)))
    (l106 : K.lookup f106 = some ⟨oc106, od106, .func (W.fnOf "moved" "moved" (defArgs stmoved) (defBody stmoved) (defScope stmoved) .none kV106 dc106 pm106 an106 cd106 ct106), sl106⟩)
    (c106 : W.codeIn K cd106 "moved" = true)
    (k106 : W.keepIn K (.ref f106) = true)
    (a107 : W.nsIn K mainGlobals "itself" = some (some (.ref f107)))
    (l107 : K.lookup f107 = some ⟨oc107, od107, .func (W.fnOf "itself" "itself" (defArgs stitself) (defBody stitself) (defScope stitself) .none kV107 dc107 pm107 an107 cd107 ct107), sl107⟩)
    (c107 : W.codeIn K cd107 "itself" = true)
    (k107 : W.keepIn K (.ref f107) = true)
    (a108 : W.nsIn K mainGlobals "case_of_deed" = some (some (.ref f108)))
    (l108 : K.lookup f108 = some ⟨oc108, od108, .func (W.fnOf "case_of_deed" "case_of_deed" (defArgs stcase_of_deed) (defBody stcase_of_deed) (defScope stcase_of_deed) .none kV108 dc108 pm108 an108 cd108 ct108), sl108⟩)
    (c108 : W.codeIn K cd108 "case_of_deed" = true)
    (k108 : W.keepIn K (.ref f108) = true)
    (a109 : W.nsIn K mainGlobals "cases_unmet" = some (some (.ref f109)))
    (l109 : K.lookup f109 = some ⟨oc109, od109, .func (W.fnOf "cases_unmet" "cases_unmet" (defArgs stcases_unmet) (defBody stcases_unmet) (defScope stcases_unmet) .none kV109 dc109 pm109 an109 cd109 ct109), sl109⟩)
    (c109 : W.codeIn K cd109 "cases_unmet" = true)
    (k109 : W.keepIn K (.ref f109) = true)
    (a110 : W.nsIn K mainGlobals "cases_apart" = some (some (.ref f110)))
    (l110 : K.lookup f110 = some ⟨oc110, od110, .func (W.fnOf "cases_apart" "cases_apart" (defArgs stcases_apart) (defBody stcases_apart) (defScope stcases_apart) .none kV110 dc110 pm110 an110 cd110 ct110), sl110⟩)
    (c110 : W.codeIn K cd110 "cases_apart" = true)
    (k110 : W.keepIn K (.ref f110) = true)
    (a111 : W.nsIn K mainGlobals "cases" = some (some (.ref f111)))
    (l111 : K.lookup f111 = some ⟨oc111, od111, .func (W.fnOf "cases" "cases" (defArgs stcases) (defBody stcases) (defScope stcases) .none kV111 dc111 pm111 an111 cd111 ct111), sl111⟩)
    (c111 : W.codeIn K cd111 "cases" = true)
    (k111 : W.keepIn K (.ref f111) = true)
    (a112 : W.nsIn K mainGlobals "normal" = some (some (.ref f112)))
    (l112 : K.lookup f112 = some ⟨oc112, od112, .func (W.fnOf "normal" "normal" (defArgs stnormal) (defBody stnormal) (defScope stnormal) .none kV112 dc112 pm112 an112 cd112 ct112), sl112⟩)
    (c112 : W.codeIn K cd112 "normal" = true)
    (k112 : W.keepIn K (.ref f112) = true)
    (a113 : W.nsIn K mainGlobals "made_same" = some (some (.ref f113)))
    (l113 : K.lookup f113 = some ⟨oc113, od113, .func (W.fnOf "made_same" "made_same" (defArgs stmade_same) (defBody stmade_same) (defScope stmade_same) .none kV113 dc113 pm113 an113 cd113 ct113), sl113⟩)
    (c113 : W.codeIn K cd113 "made_same" = true)
    (k113 : W.keepIn K (.ref f113) = true)
    (a114 : W.nsIn K mainGlobals "part_before" = some (some (.ref f114)))
    (l114 : K.lookup f114 = some ⟨oc114, od114, .func (W.fnOf "part_before" "part_before" (defArgs stpart_before) (defBody stpart_before) (defScope stpart_before) .none kV114 dc114 pm114 an114 cd114 ct114), sl114⟩)
    (c114 : W.codeIn K cd114 "part_before" = true)
    (k114 : W.keepIn K (.ref f114) = true)
    (a115 : W.nsIn K mainGlobals "choices_of" = some (some (.ref f115)))
    (l115 : K.lookup f115 = some ⟨oc115, od115, .func (W.fnOf "choices_of" "choices_of" (defArgs stchoices_of) (defBody stchoices_of) (defScope stchoices_of) .none kV115 dc115 pm115 an115 cd115 ct115), sl115⟩)
    (c115 : W.codeIn K cd115 "choices_of" = true)
    (k115 : W.keepIn K (.ref f115) = true)
    (a116 : W.nsIn K mainGlobals "choices_at" = some (some (.ref f116)))
    (l116 : K.lookup f116 = some ⟨oc116, od116, .func (W.fnOf "choices_at" "choices_at" (defArgs stchoices_at) (defBody stchoices_at) (defScope stchoices_at) .none kV116 dc116 pm116 an116 cd116 ct116), sl116⟩)
    (c116 : W.codeIn K cd116 "choices_at" = true)
    (k116 : W.keepIn K (.ref f116) = true)
    (a117 : W.nsIn K mainGlobals "is_too_large" = some (some (.ref f117)))
    (l117 : K.lookup f117 = some ⟨oc117, od117, .func (W.fnOf "is_too_large" "is_too_large" (defArgs stis_too_large) (defBody stis_too_large) (defScope stis_too_large) .none kV117 dc117 pm117 an117 cd117 ct117), sl117⟩)
    (c117 : W.codeIn K cd117 "is_too_large" = true)
    (k117 : W.keepIn K (.ref f117) = true)
    (a118 : W.nsIn K mainGlobals "led_back_once" = some (some (.ref f118)))
    (l118 : K.lookup f118 = some ⟨oc118, od118, .func (W.fnOf "led_back_once" "led_back_once" (defArgs stled_back_once) (defBody stled_back_once) (defScope stled_back_once) .none kV118 dc118 pm118 an118 cd118 ct118), sl118⟩)
    (c118 : W.codeIn K cd118 "led_back_once" = true)
    (k118 : W.keepIn K (.ref f118) = true)
    (a119 : W.nsIn K mainGlobals "led_back" = some (some (.ref f119)))
    (l119 : K.lookup f119 = some ⟨oc119, od119, .func (W.fnOf "led_back" "led_back" (defArgs stled_back) (defBody stled_back) (defScope stled_back) .none (.ref kD119) dc119 pm119 an119 cd119 ct119), sl119⟩)
    (c119 : W.codeIn K cd119 "led_back" = true)
    (k119 : W.keepIn K (.ref f119) = true)
    (d119 : W.nsIn K kD119 "tries" = some (some (.int 300 kT119)))
    (a120 : W.nsIn K mainGlobals "_law_pen" = some (some (.ref f120)))
    (l120 : K.lookup f120 = some ⟨oc120, od120, .func (W.fnOf "_law_pen" "_law_pen" (defArgs st_law_pen) (defBody st_law_pen) (defScope st_law_pen) .none kV120 dc120 pm120 an120 cd120 ct120), sl120⟩)
    (c120 : W.codeIn K cd120 "_law_pen" = true)
    (k120 : W.keepIn K (.ref f120) = true)
    (a121 : W.nsIn K mainGlobals "_law_fresh" = some (some (.ref f121)))
    (l121 : K.lookup f121 = some ⟨oc121, od121, .func (W.fnOf "_law_fresh" "_law_fresh" (defArgs st_law_fresh) (defBody st_law_fresh) (defScope st_law_fresh) .none kV121 dc121 pm121 an121 cd121 ct121), sl121⟩)
    (c121 : W.codeIn K cd121 "_law_fresh" = true)
    (k121 : W.keepIn K (.ref f121) = true)
    (a122 : W.nsIn K mainGlobals "_law_draw" = some (some (.ref f122)))
    (l122 : K.lookup f122 = some ⟨oc122, od122, .func (W.fnOf "_law_draw" "_law_draw" (defArgs st_law_draw) (defBody st_law_draw) (defScope st_law_draw) .none kV122 dc122 pm122 an122 cd122 ct122), sl122⟩)
    (c122 : W.codeIn K cd122 "_law_draw" = true)
    (k122 : W.keepIn K (.ref f122) = true)
    (a123 : W.nsIn K mainGlobals "_law_outcome" = some (some (.ref f123)))
    (l123 : K.lookup f123 = some ⟨oc123, od123, .func (W.fnOf "_law_outcome" "_law_outcome" (defArgs st_law_outcome) (defBody st_law_outcome) (defScope st_law_outcome) .none kV123 dc123 pm123 an123 cd123 ct123), sl123⟩)
    (c123 : W.codeIn K cd123 "_law_outcome" = true)
    (k123 : W.keepIn K (.ref f123) = true)
    (a124 : W.nsIn K mainGlobals "_law_takes_right" = some (some (.ref f124)))
    (l124 : K.lookup f124 = some ⟨oc124, od124, .func (W.fnOf "_law_takes_right" "_law_takes_right" (defArgs st_law_takes_right) (defBody st_law_takes_right) (defScope st_law_takes_right) .none kV124 dc124 pm124 an124 cd124 ct124), sl124⟩)
    (c124 : W.codeIn K cd124 "_law_takes_right" = true)
    (k124 : W.keepIn K (.ref f124) = true)
    (a125 : W.nsIn K mainGlobals "_law_puts_right" = some (some (.ref f125)))
    (l125 : K.lookup f125 = some ⟨oc125, od125, .func (W.fnOf "_law_puts_right" "_law_puts_right" (defArgs st_law_puts_right) (defBody st_law_puts_right) (defScope st_law_puts_right) .none kV125 dc125 pm125 an125 (.ref cA125) ct125), sl125⟩)
    (c125 : W.codeIn K (.ref cA125) "_law_puts_right" = true)
    (k125 : W.keepIn K (.ref f125) = true)
    (q125 : K.lookup cA125 = some ⟨eA125, dA125, .fields vA125, sA125⟩)
    (r125 : vA125[11]? = some (.ref pA125))
    (n125 : K.lookup pA125 = none)
    (w125 : ((PyProof.Rows.recsOf q).any fun d => d.name == "_law_puts_right") = true)
    (a126 : W.nsIn K mainGlobals "_law_turns_right" = some (some (.ref f126)))
    (l126 : K.lookup f126 = some ⟨oc126, od126, .func (W.fnOf "_law_turns_right" "_law_turns_right" (defArgs st_law_turns_right) (defBody st_law_turns_right) (defScope st_law_turns_right) .none kV126 dc126 pm126 an126 cd126 ct126), sl126⟩)
    (c126 : W.codeIn K cd126 "_law_turns_right" = true)
    (k126 : W.keepIn K (.ref f126) = true)
    (a127 : W.nsIn K mainGlobals "_law_sizes_right" = some (some (.ref f127)))
    (l127 : K.lookup f127 = some ⟨oc127, od127, .func (W.fnOf "_law_sizes_right" "_law_sizes_right" (defArgs st_law_sizes_right) (defBody st_law_sizes_right) (defScope st_law_sizes_right) .none kV127 dc127 pm127 an127 (.ref cA127) ct127), sl127⟩)
    (c127 : W.codeIn K (.ref cA127) "_law_sizes_right" = true)
    (k127 : W.keepIn K (.ref f127) = true)
    (q127 : K.lookup cA127 = some ⟨eA127, dA127, .fields vA127, sA127⟩)
    (r127 : vA127[11]? = some (.ref pA127))
    (n127 : K.lookup pA127 = none)
    (w127 : ((PyProof.Rows.recsOf q).any fun d => d.name == "_law_sizes_right") = true)
    (a128 : W.nsIn K mainGlobals "law" = some (some (.ref f128)))
    (l128 : K.lookup f128 = some ⟨oc128, od128, .func (W.fnOf "law" "law" (defArgs stlaw) (defBody stlaw) (defScope stlaw) .none kV128 dc128 pm128 an128 cd128 ct128), sl128⟩)
    (c128 : W.codeIn K cd128 "law" = true)
    (k128 : W.keepIn K (.ref f128) = true)
    (u125_127 : pA125 ≠ pA127)
    (z_enumerate : W.nsIn K mainGlobals "enumerate" = some none)
    (z_int : W.nsIn K mainGlobals "int" = some none)
    (z_len : W.nsIn K mainGlobals "len" = some none)
    (z_list : W.nsIn K mainGlobals "list" = some none)
    (z_min : W.nsIn K mainGlobals "min" = some none)
    (z_range : W.nsIn K mainGlobals "range" = some none)
    (z_reversed : W.nsIn K mainGlobals "reversed" = some none)
    (z_set : W.nsIn K mainGlobals "set" = some none)
    (z_sorted : W.nsIn K mainGlobals "sorted" = some none)
    (z_tuple : W.nsIn K mainGlobals "tuple" = some none)
    (z_zip : W.nsIn K mainGlobals "zip" = some none)
    (v_MOST_ATOMS : W.nsIn K mainGlobals "MOST_ATOMS" = some (some (.int 6 t_MOST_ATOMS)))
    (v_MOST_VARIABLES : W.nsIn K mainGlobals "MOST_VARIABLES" = some (some (.int 8 t_MOST_VARIABLES)))
    (v_ROOM : W.nsIn K mainGlobals "ROOM" = some (some (.int 1000 t_ROOM)))
    (all : clsAll K (cs C0) = true)
    (own : kitOwn K (cs C0) = true)
    (exo : exmOwn K (cs C0) = true) :
    DG.LawT l w K 11 63 "script" mg fa h := by
  cases hfa.symm.trans (W.mg_of X G a128)
  have m0 := W.mg_of X G aC0
  have hm := cs_mg (mg := mg) m0
  have b_enumerate := W.mg_none_of X G z_enumerate
  have b_int := W.mg_none_of X G z_int
  have b_len := W.mg_none_of X G z_len
  have b_list := W.mg_none_of X G z_list
  have b_min := W.mg_none_of X G z_min
  have b_range := W.mg_none_of X G z_range
  have b_reversed := W.mg_none_of X G z_reversed
  have b_set := W.mg_none_of X G z_set
  have b_sorted := W.mg_none_of X G z_sorted
  have b_tuple := W.mg_none_of X G z_tuple
  have b_zip := W.mg_none_of X G z_zip
  have g_MOST_ATOMS : ∃ t, mg "MOST_ATOMS" = some (.int 6 t) := ⟨_, W.mg_of X G v_MOST_ATOMS⟩
  have g_MOST_VARIABLES : ∃ t, mg "MOST_VARIABLES" = some (.int 8 t) := ⟨_, W.mg_of X G v_MOST_VARIABLES⟩
  have g_ROOM : ∃ t, mg "ROOM" = some (.int 1000 t) := ⟨_, W.mg_of X G v_ROOM⟩
  obtain ⟨y125, x125⟩ := DG.tab_at tab w125 (W.mg_of X G a125) X l125 q125 r125
  obtain ⟨y127, x127⟩ := DG.tab_at tab w127 (W.mg_of X G a127) X l127 q127 r127
  let TT : TabT := ⟨[(pA125, lamQ "_law_puts_right"), (pA127, lamQ "_law_sizes_right")]⟩
  refine ⟨W.fnOf "law" "law" (defArgs stlaw) (defBody stlaw) (defScope stlaw) .none kV128 dc128 pm128 an128 cd128 ct128, [(cA125, pA125), (cA127, pA127)], @spD TT K w mg 1 flaw, (List.forall_mem_cons.mpr ⟨y125, (List.forall_mem_cons.mpr ⟨y127, (fun _ hp => by cases hp)⟩)⟩), (List.forall_mem_cons.mpr ⟨n125, (List.forall_mem_cons.mpr ⟨n127, (fun _ hp => by cases hp)⟩)⟩), (List.forall_mem_cons.mpr ⟨x125, (List.forall_mem_cons.mpr ⟨x127, (fun _ hp => by cases hp)⟩)⟩), fun s v => .of_eq rfl, fun H a ns _ hH hS => ?_, fun base _ _ TB => ?_⟩
  · obtain ⟨S, e⟩ := law_true ns
    exact sp_start (T := TT) hS (List.forall_mem_cons.mpr ⟨LamX.TabS.nil (hH (cA125, pA125) (by simp)), (List.forall_mem_cons.mpr ⟨LamX.TabS.nil (hH (cA127, pA127) (by simp)), (fun _ hp => by cases hp)⟩)⟩) e
  have hT : ClsTb K mg tb := clsTb all hm
  have x_LimitExceeded : ∃ Cc, IsM K mg tb "LimitExceeded" Cc := isM exo hm cs_0
  have m_LimitExceeded : MkO l.prog w K mg base "LimitExceeded" ["limit"] := cmk_LimitExceeded (fun_mk (st := ci_LimitExceeded) lC0 cC0 kC0) (xcE_in all cs_0) m0 iC0 tC0
  have la125 : LamAt base mg cA125 (lamQ "_law_puts_right") := ⟨pA125, TB (cA125, pA125) (by simp), (by show (pA125, lamQ "_law_puts_right") ∈ [(pA125, lamQ "_law_puts_right"), (pA127, lamQ "_law_sizes_right")]; simp), (List.forall_mem_cons.mpr ⟨fun _ => rfl, (List.forall_mem_cons.mpr ⟨fun z => absurd z.symm u125_127, (fun _ hp => by cases hp)⟩)⟩)⟩
  have la127 : LamAt base mg cA127 (lamQ "_law_sizes_right") := ⟨pA127, TB (cA127, pA127) (by simp), (by show (pA127, lamQ "_law_sizes_right") ∈ [(pA125, lamQ "_law_puts_right"), (pA127, lamQ "_law_sizes_right")]; simp), (List.forall_mem_cons.mpr ⟨fun z => absurd z u125_127, (List.forall_mem_cons.mpr ⟨fun _ => rfl, (fun _ hp => by cases hp)⟩)⟩)⟩
  have F100 := fun_mk (st := stset_of) l100 c100 k100
  have cset_of : Fnk l.prog w K mg base "set_of" 1 1 fset_of := Fnk.mk (ps := ["rows"]) (okset_of F100 b_set b_sorted b_tuple) (W.mg_of X G a100) k100 (F100.binds fun _ _ _ _ _ _ us hl => match us, hl with | [_], _ => rfl)
  have F101 := fun_mk (st := stvariables_of) l101 c101 k101
  have cvariables_of : Fnk l.prog w K mg base "variables_of" 1 1 fvariables_of := Fnk.mk (ps := ["part"]) (okvariables_of F101 b_tuple) (W.mg_of X G a101) k101 (F101.binds fun _ _ _ _ _ _ us hl => match us, hl with | [_], _ => rfl)
  have F102 := fun_mk (st := stquestion_of) l102 c102 k102
  have cquestion_of : Fnk l.prog w K mg base "question_of" 2 1 fquestion_of := Fnk.mk (ps := ["kinds", "kind"]) (okquestion_of F102 b_range b_tuple) (W.mg_of X G a102) k102 (F102.binds fun _ _ _ _ _ _ us hl => match us, hl with | [_, _], _ => rfl)
  have F103 := fun_mk (st := stput_in) l103 c103 k103
  have cput_in : Fnk l.prog w K mg base "put_in" 2 1 fput_in := Fnk.mk (ps := ["terms", "chosen"]) (okput_in F103 b_tuple) (W.mg_of X G a103) k103 (F103.binds fun _ _ _ _ _ _ us hl => match us, hl with | [_, _], _ => rfl)
  have F104 := fun_mk (st := statoms_with) l104 c104 k104
  have catoms_with : Fnk l.prog w K mg base "atoms_with" 2 2 fatoms_with := Fnk.mk (ps := ["atoms", "chosen"]) (okatoms_with F104 b_tuple cput_in) (W.mg_of X G a104) k104 (F104.binds fun _ _ _ _ _ _ us hl => match us, hl with | [_, _], _ => rfl)
  have F105 := fun_mk (st := stare_unlike) l105 c105 k105
  have care_unlike : Fnk l.prog w K mg base "are_unlike" 2 1 fare_unlike := Fnk.mk (ps := ["pairs", "chosen"]) (okare_unlike F105 ) (W.mg_of X G a105) k105 (F105.binds fun _ _ _ _ _ _ us hl => match us, hl with | [_, _], _ => rfl)
  have F106 := fun_mk (st := stmoved) l106 c106 k106
  have cmoved : Fnk l.prog w K mg base "moved" 2 1 fmoved := Fnk.mk (ps := ["terms", "room"]) (okmoved F106 b_tuple) (W.mg_of X G a106) k106 (F106.binds fun _ _ _ _ _ _ us hl => match us, hl with | [_, _], _ => rfl)
  have F107 := fun_mk (st := stitself) l107 c107 k107
  have citself : Fnk l.prog w K mg base "itself" 1 1 fitself := Fnk.mk (ps := ["atom"]) (okitself F107 ) (W.mg_of X G a107) k107 (F107.binds fun _ _ _ _ _ _ us hl => match us, hl with | [_], _ => rfl)
  have F108 := fun_mk (st := stcase_of_deed) l108 c108 k108
  have ccase_of_deed : Fnk l.prog w K mg base "case_of_deed" 5 2 fcase_of_deed := Fnk.mk (ps := ["told", "atoms", "unlike", "asked", "room"]) (okcase_of_deed F108 b_tuple b_zip cmoved) (W.mg_of X G a108) k108 (F108.binds fun _ _ _ _ _ _ us hl => match us, hl with | [_, _, _, _, _], _ => rfl)
  have F109 := fun_mk (st := stcases_unmet) l109 c109 k109
  have ccases_unmet : Fnk l.prog w K mg base "cases_unmet" 2 1 fcases_unmet := Fnk.mk (ps := ["deed", "atom"]) (okcases_unmet F109 b_enumerate b_tuple) (W.mg_of X G a109) k109 (F109.binds fun _ _ _ _ _ _ us hl => match us, hl with | [_, _], _ => rfl)
  have F110 := fun_mk (st := stcases_apart) l110 c110 k110
  have ccases_apart : Fnk l.prog w K mg base "cases_apart" 3 3 fcases_apart := Fnk.mk (ps := ["deed", "atom", "room"]) (okcases_apart F110 citself ccase_of_deed ccases_unmet) (W.mg_of X G a110) k110 (F110.binds fun _ _ _ _ _ _ us hl => match us, hl with | [_, _, _], _ => rfl)
  have F111 := fun_mk (st := stcases) l111 c111 k111
  have ccases : Fnk l.prog w K mg base "cases" 2 4 fcases := Fnk.mk (ps := ["deed", "atom"]) (okcases F111 ccases_apart g_MOST_VARIABLES) (W.mg_of X G a111) k111 (F111.binds fun _ _ _ _ _ _ us hl => match us, hl with | [_, _], _ => rfl)
  have F112 := fun_mk (st := stnormal) l112 c112 k112
  have cnormal : Fnk l.prog w K mg base "normal" 1 3 fnormal := Fnk.mk (ps := ["part"]) (oknormal F112 b_enumerate b_min b_sorted b_tuple cset_of cvariables_of cput_in catoms_with) (W.mg_of X G a112) k112 (F112.binds fun _ _ _ _ _ _ us hl => match us, hl with | [_], _ => rfl)
  have F113 := fun_mk (st := stmade_same) l113 c113 k113
  have cmade_same : Fnk l.prog w K mg base "made_same" 1 2 fmade_same := Fnk.mk (ps := ["equations"]) (okmade_same F113 b_sorted cput_in) (W.mg_of X G a113) k113 (F113.binds fun _ _ _ _ _ _ us hl => match us, hl with | [_], _ => rfl)
  have F114 := fun_mk (st := stpart_before) l114 c114 k114
  have cpart_before : Fnk l.prog w K mg base "part_before" 2 4 fpart_before := Fnk.mk (ps := ["part", "choice"]) (okpart_before F114 b_tuple cput_in catoms_with care_unlike cnormal cmade_same) (W.mg_of X G a114) k114 (F114.binds fun _ _ _ _ _ _ us hl => match us, hl with | [_, _], _ => rfl)
  have F115 := fun_mk (st := stchoices_of) l115 c115 k115
  have cchoices_of : Fnk l.prog w K mg base "choices_of" 2 4 fchoices_of := Fnk.mk (ps := ["deed", "part"]) (okchoices_of F115 b_enumerate ccases_apart g_ROOM) (W.mg_of X G a115) k115 (F115.binds fun _ _ _ _ _ _ us hl => match us, hl with | [_, _], _ => rfl)
  have F116 := fun_mk (st := stchoices_at) l116 c116 k116
  have cchoices_at : Fnk l.prog w K mg base "choices_at" 2 5 fchoices_at := Fnk.mk (ps := ["deed", "question"]) (okchoices_at F116 b_len ccases) (W.mg_of X G a116) k116 (F116.binds fun _ _ _ _ _ _ us hl => match us, hl with | [_, _], _ => rfl)
  have F117 := fun_mk (st := stis_too_large) l117 c117 k117
  have cis_too_large : Fnk l.prog w K mg base "is_too_large" 1 2 fis_too_large := Fnk.mk (ps := ["part"]) (okis_too_large F117 b_len cvariables_of g_MOST_ATOMS g_MOST_VARIABLES) (W.mg_of X G a117) k117 (F117.binds fun _ _ _ _ _ _ us hl => match us, hl with | [_], _ => rfl)
  have F118 := fun_mk (st := stled_back_once) l118 c118 k118
  have cled_back_once : Fnk l.prog w K mg base "led_back_once" 3 6 fled_back_once := Fnk.mk (ps := ["deed", "question", "tries"]) (okled_back_once F118 cset_of cpart_before cchoices_of cchoices_at cis_too_large m_LimitExceeded) (W.mg_of X G a118) k118 (F118.binds fun _ _ _ _ _ _ us hl => match us, hl with | [_, _, _], _ => rfl)
  have F119 : FunD K "led_back" "led_back" (defArgs stled_back) (defBody stled_back) (defScope stled_back) [] [("tries", .int 300)] f119 _ := ⟨⟨_, _, _, _, _, _, _, _, _, _, rfl, l119, c119, .inl ⟨rfl, rfl⟩, .inr ⟨kD119, rfl, fun p hp => by
    have e : p = (("tries" : Str), V.int 300) := by simpa using hp
    subst e; exact ⟨_, d119, _, rfl⟩⟩⟩, k119⟩
  have cled_back : FnkW l.prog w K mg base "led_back" 2 7 fled_back "tries" 300 := FnkW.mk (ps := ["program", "question", "tries"]) F119 (okled_back F119 b_reversed cset_of cnormal cled_back_once) rfl (W.mg_of X G a119) (fun _ _ _ _ _ _ us ks h1 h2 => match us, ks, h1, h2 with | [_, _], [_], _, _ => ⟨_, _, _, _, _, _, rfl, rfl, rfl⟩) (fun _ _ _ _ _ _ us ws h1 h2 => match us, ws, h1, h2 with | [_, _], [_], _, _ => rfl)
  have F120 := fun_mk (st := st_law_pen) l120 c120 k120
  have c_law_pen : Fnk l.prog w K mg base "_law_pen" 1 1 f_law_pen := Fnk.mk (ps := ["script"]) (ok_law_pen F120 b_list) (W.mg_of X G a120) k120 (F120.binds fun _ _ _ _ _ _ us hl => match us, hl with | [_], _ => rfl)
  have F121 := fun_mk (st := st_law_fresh) l121 c121 k121
  have c_law_fresh : Fnk l.prog w K mg base "_law_fresh" 1 1 f_law_fresh := Fnk.mk (ps := ["pen"]) (ok_law_fresh F121 b_int b_len b_range) (W.mg_of X G a121) k121 (F121.binds fun _ _ _ _ _ _ us hl => match us, hl with | [_], _ => rfl)
  have F122 := fun_mk (st := st_law_draw) l122 c122 k122
  have c_law_draw : Fnk l.prog w K mg base "_law_draw" 2 2 f_law_draw := Fnk.mk (ps := ["pen", "bound"]) (ok_law_draw F122 b_int c_law_fresh) (W.mg_of X G a122) k122 (F122.binds fun _ _ _ _ _ _ us hl => match us, hl with | [_, _], _ => rfl)
  have F123 := fun_mk (st := st_law_outcome) l123 c123 k123
  have o_law_outcome := ok_law_outcome F123 (W.mg_of X G a123) k123 (F123.binds fun _ _ _ _ _ _ us hl => match us, hl with | [_], _ => rfl)
  have F124 := fun_mk (st := st_law_takes_right) l124 c124 k124
  have c_law_takes_right : Fnk l.prog w K mg base "_law_takes_right" 1 8 f_law_takes_right := Fnk.mk (ps := ["thing"]) (ok_law_takes_right F124 b_sorted b_tuple cquestion_of cchoices_at cled_back) (W.mg_of X G a124) k124 (F124.binds fun _ _ _ _ _ _ us hl => match us, hl with | [_], _ => rfl)
  have F125 : DG.FunC K "_law_puts_right" "_law_puts_right" st_law_puts_right f125 _ cA125 := ⟨⟨_, _, _, _, _, _, _, _, rfl, l125, c125⟩, k125⟩
  have c_law_puts_right : Fnk l.prog w K mg base "_law_puts_right" 1 10 f_law_puts_right := Fnk.mk (ps := ["thing"]) (ok_law_puts_right F125 b_sorted b_tuple cchoices_at cled_back hT o_law_outcome x_LimitExceeded la125) (W.mg_of X G a125) k125 ((fun_mk (st := st_law_puts_right) l125 c125 k125).binds fun _ _ _ _ _ _ us hl => match us, hl with | [_], _ => rfl)
  have F126 := fun_mk (st := st_law_turns_right) l126 c126 k126
  have c_law_turns_right : Fnk l.prog w K mg base "_law_turns_right" 1 8 f_law_turns_right := Fnk.mk (ps := ["thing"]) (ok_law_turns_right F126 b_sorted b_tuple cquestion_of cchoices_at cled_back) (W.mg_of X G a126) k126 (F126.binds fun _ _ _ _ _ _ us hl => match us, hl with | [_], _ => rfl)
  have F127 : DG.FunC K "_law_sizes_right" "_law_sizes_right" st_law_sizes_right f127 _ cA127 := ⟨⟨_, _, _, _, _, _, _, _, rfl, l127, c127⟩, k127⟩
  have c_law_sizes_right : Fnk l.prog w K mg base "_law_sizes_right" 0 10 f_law_sizes_right := Fnk.mk (ps := []) (ok_law_sizes_right F127 b_len b_range b_tuple cnormal cchoices_at cled_back hT o_law_outcome x_LimitExceeded la127) (W.mg_of X G a127) k127 ((fun_mk (st := st_law_sizes_right) l127 c127 k127).binds fun _ _ _ _ _ _ us hl => match us, hl with | [], _ => rfl)
  have F128 := fun_mk (st := stlaw) l128 c128 k128
  exact oklaw F128 c_law_pen c_law_draw c_law_takes_right c_law_puts_right c_law_turns_right c_law_sizes_right
end K12
open PyProof.Rows PySem PySem.W in
set_option maxHeartbeats 0 in
theorem PySem.Challenge.cw_backasked_k12_by_hand_led_back_holds : PySem.Challenge.rw_backasked_k12_by_hand_led_back.Holds := by
  w_on; o_law
  k_head
  (case hw => w_witness2)
  k_fill
  refine DG.walkGT (n := 63) (k := 11) (x := "script") (l := PySem.Challenge.rw_backasked_k12_by_hand_led_back) rfl (by decide) rfl ⟨rfl, by decide, by decide⟩ (fun w h Y => PySem.W.km_in_of Y) ?F
  case F =>
    intro w mg fa h KX G hmg tab
    refine' K12.all_mk KX G hmg tab ?aC0 ?iC0 ?tC0 ?lC0 ?cC0 ?kC0 ?a100 ?l100 ?c100 ?k100 ?a101 ?l101 ?c101 ?k101 ?a102 ?l102 ?c102 ?k102 ?a103 ?l103 ?c103 ?k103 ?a104 ?l104 ?c104 ?k104 ?a105 ?l105 ?c105 ?k105 ?a106 ?l106 ?c106 ?k106 ?a107 ?l107 ?c107 ?k107 ?a108 ?l108 ?c108 ?k108 ?a109 ?l109 ?c109 ?k109 ?a110 ?l110 ?c110 ?k110 ?a111 ?l111 ?c111 ?k111 ?a112 ?l112 ?c112 ?k112 ?a113 ?l113 ?c113 ?k113 ?a114 ?l114 ?c114 ?k114 ?a115 ?l115 ?c115 ?k115 ?a116 ?l116 ?c116 ?k116 ?a117 ?l117 ?c117 ?k117 ?a118 ?l118 ?c118 ?k118 ?a119 ?l119 ?c119 ?k119 ?d119 ?a120 ?l120 ?c120 ?k120 ?a121 ?l121 ?c121 ?k121 ?a122 ?l122 ?c122 ?k122 ?a123 ?l123 ?c123 ?k123 ?a124 ?l124 ?c124 ?k124 ?a125 ?l125 ?c125 ?k125 ?q125 ?r125 ?n125 ?w125 ?a126 ?l126 ?c126 ?k126 ?a127 ?l127 ?c127 ?k127 ?q127 ?r127 ?n127 ?w127 ?a128 ?l128 ?c128 ?k128 ?u125_127 ?z_enumerate ?z_int ?z_len ?z_list ?z_min ?z_range ?z_reversed ?z_set ?z_sorted ?z_tuple ?z_zip ?v_MOST_ATOMS ?v_MOST_VARIABLES ?v_ROOM ?all ?own ?exo
    (case aC0 => k_is)
    (case iC0 => k_is)
    (case tC0 => k_is)
    (case lC0 => k_is)
    (case cC0 => k_is)
    (case kC0 => k_is)
    (case a100 => k_is)
    (case l100 => k_is)
    (case c100 => k_is)
    (case k100 => k_is)
    (case a101 => k_is)
    (case l101 => k_is)
    (case c101 => k_is)
    (case k101 => k_is)
    (case a102 => k_is)
    (case l102 => k_is)
    (case c102 => k_is)
    (case k102 => k_is)
    (case a103 => k_is)
    (case l103 => k_is)
    (case c103 => k_is)
    (case k103 => k_is)
    (case a104 => k_is)
    (case l104 => k_is)
    (case c104 => k_is)
    (case k104 => k_is)
    (case a105 => k_is)
    (case l105 => k_is)
    (case c105 => k_is)
    (case k105 => k_is)
    (case a106 => k_is)
    (case l106 => k_is)
    (case c106 => k_is)
    (case k106 => k_is)
    (case a107 => k_is)
    (case l107 => k_is)
    (case c107 => k_is)
    (case k107 => k_is)
    (case a108 => k_is)
    (case l108 => k_is)
    (case c108 => k_is)
    (case k108 => k_is)
    (case a109 => k_is)
    (case l109 => k_is)
    (case c109 => k_is)
    (case k109 => k_is)
    (case a110 => k_is)
    (case l110 => k_is)
    (case c110 => k_is)
    (case k110 => k_is)
    (case a111 => k_is)
    (case l111 => k_is)
    (case c111 => k_is)
    (case k111 => k_is)
    (case a112 => k_is)
    (case l112 => k_is)
    (case c112 => k_is)
    (case k112 => k_is)
    (case a113 => k_is)
    (case l113 => k_is)
    (case c113 => k_is)
    (case k113 => k_is)
    (case a114 => k_is)
    (case l114 => k_is)
    (case c114 => k_is)
    (case k114 => k_is)
    (case a115 => k_is)
    (case l115 => k_is)
    (case c115 => k_is)
    (case k115 => k_is)
    (case a116 => k_is)
    (case l116 => k_is)
    (case c116 => k_is)
    (case k116 => k_is)
    (case a117 => k_is)
    (case l117 => k_is)
    (case c117 => k_is)
    (case k117 => k_is)
    (case a118 => k_is)
    (case l118 => k_is)
    (case c118 => k_is)
    (case k118 => k_is)
    (case a119 => k_is)
    (case l119 => k_is)
    (case c119 => k_is)
    (case k119 => k_is)
    (case d119 => k_is)
    (case a120 => k_is)
    (case l120 => k_is)
    (case c120 => k_is)
    (case k120 => k_is)
    (case a121 => k_is)
    (case l121 => k_is)
    (case c121 => k_is)
    (case k121 => k_is)
    (case a122 => k_is)
    (case l122 => k_is)
    (case c122 => k_is)
    (case k122 => k_is)
    (case a123 => k_is)
    (case l123 => k_is)
    (case c123 => k_is)
    (case k123 => k_is)
    (case a124 => k_is)
    (case l124 => k_is)
    (case c124 => k_is)
    (case k124 => k_is)
    (case a125 => k_is)
    (case l125 => k_is)
    (case c125 => k_is)
    (case k125 => k_is)
    (case q125 => k_is)
    (case r125 => rfl)
    (case n125 => kernel_rfl)
    (case w125 => kernel_rfl)
    (case a126 => k_is)
    (case l126 => k_is)
    (case c126 => k_is)
    (case k126 => k_is)
    (case a127 => k_is)
    (case l127 => k_is)
    (case c127 => k_is)
    (case k127 => k_is)
    (case q127 => k_is)
    (case r127 => rfl)
    (case n127 => kernel_rfl)
    (case w127 => kernel_rfl)
    (case a128 => k_is)
    (case l128 => k_is)
    (case c128 => k_is)
    (case k128 => k_is)
    (case u125_127 => decide)
    (case z_enumerate => k_is)
    (case z_int => k_is)
    (case z_len => k_is)
    (case z_list => k_is)
    (case z_min => k_is)
    (case z_range => k_is)
    (case z_reversed => k_is)
    (case z_set => k_is)
    (case z_sorted => k_is)
    (case z_tuple => k_is)
    (case z_zip => k_is)
    (case v_MOST_ATOMS => k_is)
    (case v_MOST_VARIABLES => k_is)
    (case v_ROOM => k_is)
    (case all => kernel_rfl)
    (case own => kernel_rfl)
    (case exo => kernel_rfl)

import PyProof.Rows.All
import HandS.ExcInit
import HandS.ExcIs
import HandS.ExcField
import KE.KExcInit
import HandS.ExcOwn
import HandS.Words
import HandS.Defaults
import HandS.MakeKw
import KE.KExcIs
import HandS.IsInst
import HandS.WordsExc
import HandS.Ends
import HandS.ForMost
import HandS.Exc
import HandS.TryOnly
import HandS.Conv
import HandS.TupAny
import HandS.Flow
import HandS.Wide
import HandS.Deep
import PyProof.ReprRoads
import HandS.More
import KE.LtData
import KE.DataIsa
import HandS.Style
import HandS.RaiseMore
import KE.SortData
import KE.DataEq
import KE.KRevSl
import PySem.Challenge.RW_backasked_k86_errors_required
set_option Elab.async false
set_option linter.all false
set_option maxRecDepth 100000
set_option maxHeartbeats 4100000
/-! EX1: own exception classes over any built-in class, made with positional and keyword arguments. -/
namespace EX
open PySem PySem.Spec PySem.W PySem.Calls PyProof.Rows Builtin Builtin.ObjectAttr
theorem hasOf {C : Addr} {bm bmB : List Value} {Y : String} {b : Bool} (hT : ∀ Y : String, bm.contains (.type Y) = bmB.contains (.type Y)) (h : bmB.contains (.type Y) = b) : (Value.ref C :: bm).contains (.type Y) = b := by
  rw [List.contains_cons, hT, h]; cases b <;> rfl
section
variable {M : Model} {A : Around} {E : Value → Shared → Prop} {h : Heap} {g : Array GenState} {d : Drawn} {t : Nat} {os : OsState} {nm q : Str} {C N : Addr} {bs bm bmB : List Value} {hdct : Bool} {sn : List Str} {sub : List Value} {ab : Bool} {col : Option Bool} {dd : Option Addr} {k0 k1 k2 k3 k5 : Option Value} {B newId initId : String}
theorem checkNew (F : ExcBaseFacts B newId initId bmB) (hT : ∀ Y : String, bm.contains (.type Y) = bmB.contains (.type Y)) {rest : List Value} {kw : List (Str × Value)} {Q : Unit → Shared → Prop}
    (hC : h.get? C = some (excClassObj nm q C N bs bm hdct sn sub ab col dd k0 k1 k2 k3 k5 newId)) (hq : Q () ⟨h, g, d, t, os⟩) : wpAny M A (checkBuiltinCall newId ⟨.ref C :: rest, kw⟩) Q E ⟨h, g, d, t, os⟩ := by
  have hcont := hasOf (C := C) hT F.hasB
  have hstar := F.noStar; simp only [checkBuiltinCall, F.newKind, F.newSplit, F.newRow]; repeat (first | refine wpAny_loadPart_at hC ?_ | (refine wpAny_isSubtype_exc hC ?_; rw [hcont]) | refine wpAny_staticBase_exc hC ?_ | refine wpAny_madeBy_exc hC ?_ | simp only [bne_self_eq_false, Bool.false_eq_true, if_false] | wp_step)
  exact hq
end
section
variable {prog : Program} {w : World} {A : Around} {E : Value → Shared → Prop} {R : Result → Shared → Prop} {h : Heap} {g : Array GenState} {d : Drawn} {t : Nat} {os : OsState} {nm q : Str} {C N : Addr} {bs bm bmB : List Value} {hdct : Bool} {sn : List Str} {sub : List Value} {ab : Bool} {col : Option Bool} {dd : Option Addr} {k0 k1 k2 k3 k5 : Option Value} {B newId initId : String}
abbrev exO (C t : Addr) : Obj := { cls := .ref C, data := .fields #[.ref t, .none, .none, .none, .bool false, .none] }
theorem newKw (F : ExcBaseFacts B newId initId bmB) (hT : ∀ Y : String, bm.contains (.type Y) = bmB.contains (.type Y)) {rest : List Value} {kw : List (Str × Value)} (hC : h.get? C = some (excClassObj nm q C N bs bm hdct sn sub ab col dd k0 k1 k2 k3 k5 newId))
    (hq : R (.ok (.ret (.ref (h.objs.size + 1)))) ⟨(h.push (W.kdv_tup rest)).push (exO C h.objs.size), g, d, t, os⟩) (hl : rest.length ≤ sizeLine) :
    codeAny (model prog w) A (.builtin newId ⟨.ref C :: rest, kw⟩) R ⟨h, g, d, t, os⟩ := by
  have hends := F.ends; have hcB := hasOf (C := C) hT F.hasB
  have hcA := hasOf (C := C) hT F.noAttr
  have hcN := hasOf (C := C) hT F.noName
  refine codeAny_builtinAt F.entry ?_; unfold Builtin.«BaseException.__new__»
  refine PySem.wpAt_bind ?_
  show PySem.wpAt _ _ _ (stack >>= _) _ _ _
  refine PySem.wpAt_bind (PySem.wpAt_stack fun p below => PySem.wpAt_of_wpAny ?_)
  wp_walk
  refine PySem.wpAt_of_wpAny ?_
  rw [F.owner]; repeat (first | with_reducible refine wpAny_madeHere_exc F.canon hC ?_ | with_reducible refine wpAny_loadPart_at hC ?_ | (with_reducible refine wpAny_isSubtype_exc hC ?_; first | rw [hcB] | rw [hcA] | rw [hcN]) | wp_step)
  show R _ _
  rw [Heap.size_push]
  exact hq
theorem typeCallKw (F : ExcBaseFacts B newId initId bmB) (hT : ∀ Y : String, bm.contains (.type Y) = bmB.contains (.type Y)) {rest : List Value} {kw : List (Str × Value)} {fI : Addr} {Q : Fin → Shared → Prop} (hC : h.get? C = some (excClassObj nm q C N bs bm hdct sn sub ab col dd k0 k1 k2 k3 k5 newId))
    (hi : W.Looks (model prog w) h (typeLookup (.ref C) "__init__") (some (.ref fI))) (hb : ∀ self, W.Looks (model prog w) h (bindSpecial (.ref fI) self) (.ref fI, [self])) (hl : rest.length ≤ sizeLine)
    (hq : codeAny (model prog w) A (.call (.ref fI) ⟨.ref (h.objs.size + 1) :: rest, kw⟩) (fun r s' => match r with | .ok (.ret v) => v = .none ∧ Q (.done (.ret (.ref (h.objs.size + 1)))) s' | .ok _ => False | .error e => E e s')
      ⟨(h.push (W.kdv_tup rest)).push (exO C h.objs.size), g, d, t, os⟩) :
    wpAny (model prog w) A (Builtin.«type.__call__» ⟨.ref C :: rest, kw⟩) Q E ⟨h, g, d, t, os⟩ := by
  (repeat (first | with_reducible refine wpAny_loadPart_at hC ?_ | with_reducible refine wpAny_madeBy_exc hC ?_ | wp_step)); refine codeAny_call_builtin_code (Code.quiet_builtin _ F.quiet) (checkNew F hT hC ?_)
  refine newKw F hT hC ?_ hl
  show wpAny _ _ _ _ _ _
  have k : ∀ b o, h.get? b = some o → ((h.push (W.kdv_tup rest)).push (exO C h.objs.size)).get? b = some o := fun b o e => Heap.get?_push_of_some _ (Heap.get?_push_of_some _ e)
  have hC1 := k _ _ hC
  have hget : ((h.push (W.kdv_tup rest)).push (exO C h.objs.size)).get? (h.objs.size + 1) = some (exO C h.objs.size) := by heap_get
  have self : (Value.ref C :: bm).contains (.ref C) = true := List.contains_iff_mem.mpr List.mem_cons_self
  have i1 := hi.keeps k; have b1 := (hb (.ref (h.objs.size + 1))).keeps k
  unfold isInstance
  repeat (first | with_reducible refine wpAny_loadPart_at hget ?_ | (with_reducible refine wpAny_isSubtype_exc hC1 ?_; rw [self]) | wp_step)
  show wpAny _ _ (typeLookup (.ref C) _) _ _ _; refine i1.at ?_; refine wpAny_holding (wpAny_bind (b1.at ?_)); refine wpAny_bind (wpAny_call (codeAny_mono hq fun r s' z => ?_)); rcases r with e | (v | _ | _ | _) <;> first | exact z | exact z.elim | skip
  obtain ⟨rfl, z⟩ := z
  first | exact wpAny_pure (wpAny_pure z) | (wp_walk; exact z)
theorem checkTypeCall {M : Model} {rest : List Value} {kw : List (Str × Value)} {Q : Unit → Shared → Prop} (hC : h.get? C = some (excClassObj nm q C N bs bm hdct sn sub ab col dd k0 k1 k2 k3 k5 newId))
    (hq : Q () ⟨h, g, d, t, os⟩) : wpAny M A (checkBuiltinCall "type.__call__" ⟨.ref C :: rest, kw⟩) Q E ⟨h, g, d, t, os⟩ := by
  have f3 := tc_sub; have hTy : (⟨h, g, d, t, os⟩ : Shared).TypeIs (.ref C) "type" := ⟨_, hC, rfl⟩; simp only [checkBuiltinCall, tc_kind, tc_split]; repeat (any_goals (first | assumption | with_reducible refine wpAny_loadPart_at hC ?_ | with_reducible refine wpAny_onRaise ?_ | with_reducible refine wpAny_map ?_ | wp_step))
theorem callKw (F : ExcBaseFacts B newId initId bmB) (hT : ∀ Y : String, bm.contains (.type Y) = bmB.contains (.type Y)) {rest : List Value} {kw : List (Str × Value)} {fI : Addr} (hC : h.get? C = some (excClassObj nm q C N bs bm hdct sn sub ab col dd k0 k1 k2 k3 k5 newId))
    (hi : W.Looks (model prog w) h (typeLookup (.ref C) "__init__") (some (.ref fI))) (hb : ∀ self, W.Looks (model prog w) h (bindSpecial (.ref fI) self) (.ref fI, [self])) (hl : rest.length ≤ sizeLine)
    (hq : codeAny (model prog w) (A.under (.builtin "type.__call__" ⟨.ref C :: rest, kw⟩)) (.call (.ref fI) ⟨.ref (h.objs.size + 1) :: rest, kw⟩) (W.InitBack (h.objs.size + 1) R)
      ⟨(h.push (W.kdv_tup rest)).push (exO C h.objs.size), g, d, t, os⟩) : codeAny (model prog w) A (.call (.ref C) ⟨rest, kw⟩) R ⟨h, g, d, t, os⟩ := by
  have f1 := tc_lookup
  have f2 := tc_bind (.ref C); have hTy : (⟨h, g, d, t, os⟩ : Shared).TypeIs (.ref C) "type" := ⟨_, hC, rfl⟩
  refine codeAny_of_tree ?_; show wpAny _ _ (callAny (.ref C) _) _ _ _; repeat (any_goals (first | assumption | with_reducible refine wpAny_loadPart_at hC ?_ | wp_step))
  refine ⟨rfl, ?_⟩
  refine codeAny_call_builtin_at (Code.quiet_builtin _ (by decide +kernel)) entry_typeCall (checkTypeCall hC (typeCallKw F hT hC hi hb hl ?_)); refine codeAny_mono hq fun r s' z => ?_; rcases r with e | (v | _ | _ | _) <;> exact z
end
end EX
/-! EX2: fields stored on such an exception. -/
namespace EX
open PySem PySem.Spec PySem.W PySem.Calls PyProof.Rows Builtin Builtin.ObjectAttr
/-- what the built-in class says -/
structure EB (B newId initId : String) (bmB : List Value) : Prop where
  base : ExcBaseFacts B newId initId bmB
  sto : StoreFacts B bmB "object.__setattr__" "object"
theorem eb_VE : EB "ValueError" "ValueError.__new__" "ValueError.__init__" [.type "ValueError", .type "Exception", .type "BaseException", .type "object"] := ⟨F.excBase_ValueError, F.store_ValueError⟩
theorem eb_RE : EB "RuntimeError" "RuntimeError.__new__" "RuntimeError.__init__" [.type "RuntimeError", .type "Exception", .type "BaseException", .type "object"] := ⟨F.excBase_RuntimeError, F.store_RuntimeError⟩
theorem eb_OE : EB "OverflowError" "OverflowError.__new__" "OverflowError.__init__" [.type "OverflowError", .type "ArithmeticError", .type "Exception", .type "BaseException", .type "object"] := ⟨F.excBase_OverflowError, F.store_OverflowError⟩
section
variable {prog : Program} {w : World} {A : Around} {E : Value → Shared → Prop} {R : Result → Shared → Prop} {hp : Heap} {g : Array GenState} {d : Drawn} {t : Nat} {os : OsState} {B newId initId : String} {bmB : List Value}
/-- the first field: the object's dict is made -/
theorem saNew (b : EB B newId initId bmB) {K : W.Frag} {name : Str} {tk : Tok} {v : Value} {x C t0 : Addr} {s : Shared}
    (kin : K.In s.heap) (hx : s.heap.get? x = some (excObj C t0 none .none)) (ho : excOver K C bmB = true) (hh : hasDictIn K C = true) (ha : takerIn K C name = some none)
    (hq : ∀ h' tk' dx, (∀ c o, c ≠ x → s.heap.get? c = some o → h'.get? c = some o) → s.heap.objs.size ≤ dx → dx ≠ x → h'.get? x = some (excObj C t0 (some dx) .none) →
      h'.Ns1 dx (fun y => if y = name then some v else none) → R (.ok (.ret .none)) { s with heap := h', toks := tk' }) : codeAny (model prog w) A (.call (.builtin "object.__setattr__") ⟨[.ref x, .str name tk, v], []⟩) R s :=
  osa_openX (od := none) b.sto kin ⟨hx, rfl, rfl, trivial⟩ ho ha fun _ => by
    obtain ⟨cd, hc, hd⟩ := any_some hh; have lx := Heap.lt_size hx
    refine wpAny_bind (wpAny_pure (wpAny_bind (instanceDict_exc hx (looks_clsIn kin hc) hd ?_))); show wpAny _ _ (storeInDict s.heap.objs.size (.str name tk) name v) _ _ _
    refine HandSPX.store_in_new ⟨dictOf [] 0, #[], _, (Heap.get?_update_other _ _ (Nat.ne_of_lt lx)).trans (Heap.get?_push_size _ rfl), rfl, fun e he => absurd he (by simp), fun _ => rfl⟩ fun h' tk' hn' hs => ?_
    refine hq h' tk' s.heap.objs.size (fun c o hb ho => ?_) (Nat.le_refl _) (Nat.ne_of_gt lx) ?_ hn'
    · exact (hs.2 c (Nat.ne_of_lt (Heap.lt_size ho))).trans ((Heap.get?_update_other _ _ (Ne.symm hb)).trans (Heap.get?_push_of_some _ ho))
    · exact (hs.2 x (Nat.ne_of_lt lx)).trans (Heap.get?_update_self _ (Heap.get?_push_of_some _ hx) rfl)
/-- a further field -/
theorem saOld (b : EB B newId initId bmB) {K : W.Frag} {name : Str} {tk : Tok} {v : Value} {x C t0 dx : Addr} {s : Shared} {m0 : Str → Option Value} {nl : List Str}
    (kin : K.In s.heap) (hx : s.heap.get? x = some (excObj C t0 (some dx) .none)) (hns : s.heap.Ns1 dx m0) (hw : Within m0 nl) (hz : nl.length ≤ 1000) (ho : excOver K C bmB = true) (hh : hasDictIn K C = true) (ha : takerIn K C name = some none)
    (hq : ∀ h' tk', (∀ c o, c ≠ dx → s.heap.get? c = some o → h'.get? c = some o) → h'.Ns1 dx (fun y => if y = name then some v else m0 y) → R (.ok (.ret .none)) { s with heap := h', toks := tk' }) : codeAny (model prog w) A (.call (.builtin "object.__setattr__") ⟨[.ref x, .str name tk, v], []⟩) R s := by
  obtain ⟨oD, _, _, D, _, _⟩ := hns.count hw
  refine osa_openX (od := some oD) b.sto kin ⟨hx, rfl, rfl, D⟩ ho ha fun _ => ?_; obtain ⟨cd, hc, hd⟩ := any_some hh
  refine wpAny_bind (wpAny_pure (wpAny_bind (wpAny_bind (wpAny_loadPart hx (wpAny_bind ((looks_clsIn kin hc).here ?_)))))); rw [hd]
  exact wpAny_pure (a := some dx) (OEX.store_in_old hns hw hz fun h' tk' hn' hs => hq h' tk' (fun c o hb e => (hs.2 c hb).trans e) hn')
end
end EX
/-! EX3: such exceptions in the abstract heap: stores, the base's __init__, the call of the class. -/
namespace EX
open L2 PyProof.Rows PySem PySem.Spec
/-- what the written part says of an own exception class -/
structure Xc (K : PySem.W.Frag) (C : Addr) (newId : String) (bmB : List Value) : Prop where
  ini : W.excInitIn K C bmB newId = true
  ovr : W.excOver K C bmB = true
  dct : W.hasDictIn K C = true
  sa : W.findIn K (.ref C) "__setattr__" = some (some (.builtin "object.__setattr__"))
  exC : W.subIn K (.ref C) (.type "BaseException") = some true
  tyC : W.typeIn K (.ref C) = some (.type "type")
  kC : W.keepIn K (.ref C) = true
  ga : W.findIn K (.ref C) "__getattribute__" = some (some (.builtin "BaseException.__getattribute__"))
  gg : W.findIn K (.ref C) "__getattr__" = some none
  ca : W.findIn K (.ref C) "__class__" = some (some (.builtin "object.__class__"))
  cn : W.specialIn K (.builtin "object.__class__") "__get__" = some (some (.builtin "getset_descriptor.__get__"))
  ct : W.takesIn K (.builtin "object.__class__") = some true
  cm : W.mroIn K C (.type "object") = some true
section
variable {X : Cx} {pins : List (Addr × Obj)} {σ : L2.St} {H : Hp} {s : Shared} {a C dx : Addr} {f : Str} {y : V} {u : Value} {fs : List (Str × V)} {Q : Unit → Shared → Prop} {E : Value → Shared → Prop} {A : Around} {B newId initId : String} {bmB : List Value}
/-- an object gets its dict: both are known then -/
theorem dictMadeInv {h' : Heap} {tk : Nat} (I : Inv X pins σ H s) (e : H a = some (exo a C none)) (ry : RelV y u) {t0 : Addr}
    (k : ∀ c o, c ≠ a → s.heap.get? c = some o → h'.get? c = some o) (dn : s.heap.objs.size ≤ dx) (hx : h'.get? a = some (W.excObj C t0 (some dx) .none)) (hn : h'.Ns1 dx (fun z => if z = f then some u else none)) :
    Inv X pins σ (upd (upd H dx (exd dx [(f, y)])) a (exo a C (some dx))) { s with heap := h', toks := tk } := by
  have hd0 : H dx = none := I.hok.fresh dn
  have fromA : ∀ {c : Addr}, H c = none → c ≠ a := fun n z => by rw [z, e] at n; cases n
  have fromD : ∀ {c : Addr} {o : Obj}, s.heap.get? c = some o → c ≠ dx := fun q => Nat.ne_of_lt (Nat.lt_of_lt_of_le (Heap.lt_size q) dn)
  have stays : ∀ {c : Addr} {o : HO}, H c = some o → exo a C none ≠ o → upd (upd H dx (exd dx [(f, y)])) a (exo a C (some dx)) c = some o := fun {c o} q n => by
    rw [upd_ne (at_ne e q n), upd_ne (ne_of_none q hd0)]; exact q
  refine I.un (t' := tk) ⟨fun c o q n _ _ => k c o (fromA n) q, fun c o q n _ _ => ⟨o.slots, k c o (fromA n) q⟩, fun c o q n _ => ?_, fun c o q _ => ?_, fun c xs q => stays q exo_tup, fun c o v q => stays q exo_frz, fun c ps q => ⟨#[], ?_⟩⟩ fun c o q => ?_
  · rw [upd_ne (fromA n), upd_ne (fromD q)]; exact n
  · by_cases hc : c = a
    · exact ⟨_, hc ▸ hx⟩
    · exact ⟨o, k c o hc q⟩
  · rw [stays q exo_tbl]; simp
  · by_cases hc : c = a
    · subst hc; rw [upd_same] at q; cases q
      exact exo_ok hx
    · rw [upd_ne hc] at q
      by_cases hc2 : c = dx
      · subst hc2; rw [upd_same] at q; cases q
        exact exd_ok hn (relO_put (fs := []) ry fun _ => trivial)
      · rw [upd_ne hc2] at q
        refine (I.hok c o q).stay (fun b v hb z => k b v ?_ z) (fun b hb => stays hb exo_own) fun b xs hb => stays hb exo_tup
        rcases hb with hb | hb
        · exact hb ▸ hc
        · exact at_ne e hb exo_own
theorem sto1 (b : EB B newId initId bmB) (T : Xc X.K C newId bmB) (I : Inv X pins σ H s) (e : H a = some (exo a C none)) (hno : W.takerIn X.K C f = some none) (ry : RelV y u)
    (h : ∀ b s', H b = none → b ≠ a → Inv X pins σ (upd (upd H b (exd b [(f, y)])) a (exo a C (some b))) s' → Q () s') : wpAny (model X.prog X.w) A (setAttr (.ref a) f u) Q E s := by
  obtain ⟨t1, ho⟩ := exo_at I.hok e; refine W.set_plain I.kIn (od := none) ⟨ho, rfl, rfl, trivial⟩ T.sa (saNew (s := { s with toks := s.toks + 1 }) b I.kIn ho T.ovr T.dct hno fun h' tk' dx k dn dne hx hn => ?_)
  exact h dx _ (I.hok.fresh dn) dne (dictMadeInv (I.tok _) e ry k dn hx hn)
theorem sto2 (b : EB B newId initId bmB) (T : Xc X.K C newId bmB) (I : Inv X pins σ H s) (e : H a = some (exo a C (some dx))) (ed : H dx = some (exd dx fs)) (hl : fs.length ≤ 900) (hno : W.takerIn X.K C f = some none) (ry : RelV y u)
    (h : ∀ s2, Inv X pins σ (upd H dx (exd dx ((f, y) :: fs))) s2 → Q () s2) : wpAny (model X.prog X.w) A (setAttr (.ref a) f u) Q E s := by
  obtain ⟨t1, ho⟩ := exo_at I.hok e; obtain ⟨mA, hns, rel⟩ := exd_at I.hok ed
  obtain ⟨oD, _, _, hoD, _, _⟩ := hns.count (within_of rel)
  refine W.set_plain I.kIn (od := some oD) ⟨ho, rfl, rfl, hoD⟩ T.sa (saOld (s := { s with toks := s.toks + 1 }) b I.kIn ho hns (within_of rel) (by rw [List.length_map]; omega) T.ovr T.dct hno fun h' tk' k hn => ?_)
  obtain ⟨o, _, _, hd', _⟩ := id hn
  exact h _ (I.write (t' := tk') (x := dx) (e := dx) (o := exd dx ((f, y) :: fs)) (by rw [ed]; exact True.intro) (.inl rfl) k ⟨o, hd'⟩ (exd_ok hn (relO_put ry rel)))
/-- the base's own __init__(self) -/
theorem baseInit {us : List Value} {Q : Value → Shared → Prop} (b : EB B newId initId bmB) (T : Xc X.K C newId bmB) (I : Inv X pins σ H s) (e : H a = some (exo a C none)) (hl : us.length ≤ sizeLine) (h : ∀ s', Inv X pins σ H s' → Q .none s') :
    wpAny (model X.prog X.w) A (call (.builtin initId) (.ref a :: us)) Q E s := by
  obtain ⟨nm, N', qn, bs, bm, hdct, sn, sub, ab, col, dd, k0, k1, k2, k3, k5, hC, hT⟩ := W.excInit_of I.kIn T.ini; obtain ⟨t1, ho⟩ := exo_at I.hok e
  obtain ⟨hp, g, d, t, os⟩ := s
  refine wpAny_call (HandSPX.init_base b.base hT hC ho hl fun h' t2 k hx => h _ ?_); have J := I.write (t' := t) (x := a) (e := a) (o := exo a C none) (by rw [e]; exact True.intro) (.inl rfl) k ⟨_, hx⟩ (exo_ok hx)
  rwa [show upd H a (exo a C none) = H from funext fun c => by by_cases hc : c = a; { rw [hc, upd_same, e] }; { rw [upd_ne hc] }] at J
end
end EX
/-! EX4: the rules: self.f = e, the base's __init__(self), the call of the class. -/
namespace EX
open L2 PyProof.Rows PySem PySem.Spec
def XcE (K : PySem.W.Frag) (C : Addr) : Prop := ∃ (B newId initId : String) (bmB : List Value), EB B newId initId bmB ∧ Xc K C newId bmB
/-- self.f = e -/
def tSto (K : PySem.W.Frag) (f : Str) (to te : TE) : TS := fun D σ H => te σ H fun y H1 => to σ H1 fun x H2 => ∃ a C : Addr, x = .ref a ∧ XcE K C ∧ W.takerIn K C f = some none ∧
  ((H2 a = some (exo a C none) ∧ ∀ b, H2 b = none → b ≠ a → D.nx σ (upd (upd H2 b (exd b [(f, y)])) a (exo a C (some b)))) ∨
    ∃ (b : Addr) (fs : List (Str × V)), H2 a = some (exo a C (some b)) ∧ H2 b = some (exd b fs) ∧ fs.length ≤ 900 ∧ D.nx σ (upd H2 b (exd b ((f, y) :: fs))))
/-- the class called: the object is laid, __init__ (its promise: sp) runs -/
def tMkX (C : Addr) (n m : Nat) (sp : Sp) (gV : List V → List V → List V) (t tk : TA) : TE := fun σ H Q => t σ H fun vs H1 => tk σ H1 fun zs H2 => vs.length = n ∧ zs.length = m ∧ n ≤ 1000 ∧
  ∀ a, H2 a = none → sp (gV (.ref a :: vs) zs) (upd H2 a (exo a C none)) (fun v H3 => v = .non ∧ Q (.ref a) H3) (fun _ _ _ => False)
section
variable {X : Cx} {o e : Expr} {es : List Expr} {kws : List Keyword} {to te : TE} {t tk : TA} {f : Str} {p p' p1 p2 pos : Pos}
theorem ps_sto (ho : PE X o to) (he : PE X e te) (hs : swapsWith e (some (.Attribute o f p')) pos.line X.env = pure false := by rfl) : PS X (.Assign [.Attribute o f p'] e pos) (tSto X.K f to te) :=
  ⟨fun pins s σ H D I h => plainObj_wpAny_Assign_Attribute (thn (he.run pins s σ H _ I h) fun v s1 ⟨y, H1, I1, r1, q1⟩ => thn (ho.run pins s1 σ H1 _ I1 q1) fun u s2 ⟨x, H2, I2, r2, q2⟩ => by
    obtain ⟨a, C, ex, ⟨B, nI, iI, bmB, b, T⟩, hno, q⟩ := q2
    subst ex; obtain rfl : u = Value.ref a := r2; rcases q with ⟨ea, q⟩ | ⟨dx, fs, ea, ed, hl, q⟩
    · exact sto1 b T I2 ea hno r1 fun dx s' n ne J => ⟨σ, _, J, q dx n ne⟩
    · exact sto2 b T I2 ea ed hl hno r1 fun s' J => ⟨σ, _, J, q⟩) hs⟩
variable {CX : CXT} {k n : Nat} {fI C : Addr} {fd : FuncData} {ps ks : List Str} {sp : Sp} {x : Str} {g : List Value → List Value → List Value} {gV : List V → List V → List V}
theorem runMk {pins : List (Addr × Obj)} {σ : L2.St} {H : Hp} {s : Shared} {Q : VK} {us ws : List Value} {vs zs : List V} (T : XcE X.K C) (iC : W.findIn X.K (.ref C) "__init__" = some (some (.ref fI))) (tI : W.typeIn X.K (.ref fI) = some (.type "function"))
    (F1 : FnOk X.prog X.w X.K X.mg X.base CX k fI fd ps sp) (hr : Room (k + 1) X.A) (hb : KBn X.K fd ps (n + 1) ks g gV) (hx : Passes CX X (fun _ _ _ => False)) (I : Inv X pins σ H s) (r : Vals vs us) (rz : Vals zs ws) (l1 : vs.length = n) (l2 : zs.length = ks.length) (ln : n ≤ 1000)
    (h : ∀ a, H a = none → sp (gV (.ref a :: vs) zs) (upd H a (exo a C none)) (fun v H3 => v = .non ∧ Q (.ref a) H3) (fun _ _ _ => False)) : wpAny (model X.prog X.w) X.A (call (.ref C) us (ks.zip ws)) (EP X pins σ Q) X.xe s := by
  obtain ⟨B, nI, iI, bmB, b, T⟩ := T
  obtain ⟨nm, N', qn, bs, bm, hdct, sn, sub, ab, col, dd, k0, k1, k2, k3, k5, hC, hT⟩ := W.excInit_of I.kIn T.ini
  obtain ⟨hp, g0, dr, tk, os⟩ := s
  have q := h (hp.objs.size + 1) (I.hok.fresh (Nat.le_succ _))
  have keep : ∀ c ob, hp.get? c = some ob → ((hp.push (W.kdv_tup us)).push (exO C hp.objs.size)).get? c = some ob := fun c ob z => Heap.get?_push_of_some _ (Heap.get?_push_of_some _ z)
  have there : ((hp.push (W.kdv_tup us)).push (exO C hp.objs.size)).get? (hp.objs.size + 1) = some (exO C hp.objs.size) := by heap_get
  have J := I.laid (t' := tk) (a := hp.objs.size + 1) (o := exo (hp.objs.size + 1) C none) keep (Nat.le_succ _) (exo_ok there)
  have rs : Vals (V.ref (hp.objs.size + 1) :: vs) (Value.ref (hp.objs.size + 1) :: us) := .cons rfl r
  have lu : us.length = n := r.length.symm.trans l1
  refine wpAny_call (callKw b.base hT hC (W.looks_findIn I.kIn iC) (fun self => W.bind_fn I.kIn self tI) (by rw [lu, sizeLine_eq]; omega) (codeAny_mono (F1.run _ X.stack _ _ ⟨Value.ref (hp.objs.size + 1) :: us, ks.zip ws⟩ _ _ _ _ (hr.make C us (ks.zip ws)) (J.env0.make C us (ks.zip ws))
    (hb.to _ _ ws J.kIn (rs.length.symm.trans (congrArg Nat.succ l1)) (rz.length.symm.trans l2)) (hb.rel rs rz) q) fun res s' z => ?_))
  match res, z with
  | .error er, z => exact hx pins σ _ _ er s' J z
  | .ok (.ret u), z =>
    obtain ⟨v, H3, J3, rv, ev, q3⟩ := J.after z
    subst ev
    exact ⟨rv, ⟨V.ref (hp.objs.size + 1), H3, J3, rfl, q3⟩⟩
  | .ok .next, z => exact z.elim
  | .ok .brk, z => exact z.elim
  | .ok .cont, z => exact z.elim
theorem pe_mkX (T : XcE X.K C) (iC : W.findIn X.K (.ref C) "__init__" = some (some (.ref fI))) (tI : W.typeIn X.K (.ref fI) = some (.type "function")) (F1 : FnOk X.prog X.w X.K X.mg X.base CX k fI fd ps sp) (hr : Room (k + 1) X.A) (hb : KBn X.K fd ps (n + 1) [] g gV) (hx : Passes CX X (fun _ _ _ => False))
    (hg : Gl X x) (hm : X.mg x = some (.ref C)) (ha : PA X (e :: es) t) (hdb : (x == ("__debug__" : Str)) = false := by decide) (he : starEach (e :: es) X.env = (false, eval e X.env) :: starEach es X.env := by rfl) (hpl : (backTo pos (starEach es X.env)).any (·.1) = false := by rfl) :
    PE X (.Call (.Name x p) (e :: es) [] pos) (tMkX C n 0 sp gV t tNil) :=
  ⟨fun pins s σ H Q I h => by
    have kC := T
    obtain ⟨_, _, _, _, _, T'⟩ := kC
    exact wpAny_Call_Name_kw (ld_glob I hg hm (W.callWith_K (h₀ := X.base) I.ok.mod.kin T'.kC (thn (ha.run pos pins s σ H _ I h) fun us s1 ⟨vs, H1, I1, r1, l1, l2, ln, q⟩ => ⟨I1.kIn, by
      have z := runMk (ks := []) T iC tI F1 hr hb hx I1 r1 .nil l1 l2 ln q
      simpa using z⟩) he hpl) hdb)⟩
theorem pe_mkX0 (T : XcE X.K C) (iC : W.findIn X.K (.ref C) "__init__" = some (some (.ref fI))) (tI : W.typeIn X.K (.ref fI) = some (.type "function")) (F1 : FnOk X.prog X.w X.K X.mg X.base CX k fI fd ps sp) (hr : Room (k + 1) X.A) (hb : KBn X.K fd ps 1 [] g gV) (hx : Passes CX X (fun _ _ _ => False))
    (hg : Gl X x) (hm : X.mg x = some (.ref C)) (hdb : (x == ("__debug__" : Str)) = false := by decide) : PE X (.Call (.Name x p) [] [] pos) (tMkX C 0 0 sp gV tNil tNil) :=
  ⟨fun pins s σ H Q I h => by
    have kC := T
    obtain ⟨_, _, _, _, _, T'⟩ := kC
    obtain ⟨l1, l2, ln, q⟩ := h
    exact wpAny_Call_Name_kw (ld_glob I hg hm (W.callWith_K0 I.kIn T'.kC (by simpa using runMk (n := 0) (ks := []) (us := []) T iC tI F1 hr hb hx I .nil .nil l1 l2 ln q)) hdb)⟩
theorem pe_mkXK (T : XcE X.K C) (iC : W.findIn X.K (.ref C) "__init__" = some (some (.ref fI))) (tI : W.typeIn X.K (.ref fI) = some (.type "function")) (F1 : FnOk X.prog X.w X.K X.mg X.base CX k fI fd ps sp) (hr : Room (k + 1) X.A) (hb : KBn X.K fd ps 1 ks g gV) (hx : Passes CX X (fun _ _ _ => False))
    (hg : Gl X x) (hm : X.mg x = some (.ref C)) (hkw : PK X kws tk) (hall : (backToKw pos (keywordEach kws X.env)).all (·.1.isSome) = true := by rfl) (hks : (backToKw pos (keywordEach kws X.env)).filterMap (·.1) = ks := by rfl) (hdb : (x == ("__debug__" : Str)) = false := by decide)
    (hpl : ((backTo pos (starEach [] X.env)).any (·.1) || (backToKw pos (keywordEach kws X.env)).any (·.1.isNone)) = false := by rfl) : PE X (.Call (.Name x p) [] kws pos) (tMkX C 0 ks.length sp gV tNil tk) :=
  ⟨fun pins s σ H Q I h => by
    have kC := T
    obtain ⟨_, _, _, _, _, T'⟩ := kC
    refine wpAny_Call_Name_kw (ld_glob I hg hm (W.callWith_KW0 (h₀ := X.base) I.ok.mod.kin T'.kC hall (thn (hkw.run pos pins s σ H _ I h) fun ws s2 ⟨zs, H2, I2, rz, l1, l2, ln, q2⟩ => ⟨I2.kIn, ?_⟩) hpl) hdb)
    rw [hks]
    exact runMk (n := 0) (us := []) T iC tI F1 hr hb hx I2 .nil rz l1 l2 ln q2⟩
end
end EX
/-! EX5: such an exception as a value: its fields, isinstance; raised. -/
namespace EX
open L2 PyProof.Rows PySem PySem.Spec
theorem exInst {h : Heap} {a C dx t0 : Addr} {od : Obj} (ha : h.get? a = some (W.excObj C t0 (some dx) .none)) (hd : h.get? dx = some od) : W.InstAt h a (W.excObj C t0 (some dx) .none) C (some od) := ⟨ha, rfl, rfl, hd⟩
/-- e.f -/
def tGetX (K : PySem.W.Frag) (n : Str) (te : TE) : TE := fun σ H Q => te σ H fun x H1 => ∃ (a C dx : Addr) (fs : List (Str × V)) (v : V), x = .ref a ∧ XcE K C ∧ W.findIn K (.ref C) n = some none ∧ H1 a = some (exo a C (some dx)) ∧ H1 dx = some (exd dx fs) ∧ fs.lookup n = some v ∧ Q v H1
/-- isinstance(e, c) -/
def rIsX (K : PySem.W.Frag) : List V → Hp → VK → Prop := fun xs H Q => ∃ (a C : Addr) (d : Option Addr) (c : V) (u : Value) (b : Bool), xs = [.ref a, c] ∧ ClsV c u ∧ XcE K C ∧ H a = some (exo a C d) ∧ (d = none ∨ ∃ (dx : Addr) (fs : List (Str × V)), d = some dx ∧ H dx = some (exd dx fs)) ∧ W.kitOne K (.ref C) u = some b ∧ Q (.bl b) H
section
variable {X : Cx} {e : Expr} {te : TE} {n : Str} {pos : Pos}
theorem pe_getX (he : PE X e te) (hb : attributeBase e n X.env (eval e X.env) = eval e X.env := by rfl) : PE X (.Attribute e n pos) (tGetX X.K n te) :=
  ⟨fun pins s σ H Q I h => attr_of hb (thn (he.run pins s σ H _ I h) fun u s1 ⟨x, H1, I1, rx, a, C, dx, fs, v, ex, ⟨B, nI, iI, bmB, b, T⟩, hno, ea, ed, l, q⟩ => by
    subst ex; obtain rfl : u = Value.ref a := rx
    obtain ⟨t0, ha⟩ := exo_at I1.hok ea
    obtain ⟨mA, hns, rel⟩ := exd_at I1.hok ed; obtain ⟨od, ho, hl⟩ := lookIn_ns hns
    obtain ⟨w', hw, rw'⟩ := RelO.some_of (v := v) (o := mA n) (by rw [← l]; exact rel n)
    exact HandSPX.exc_get I1.kIn (exInst ha ho) T.ga T.gg T.exC (W.findObj_own T.dct hno rfl (by rw [hl, hw])) (handed_of rw') ⟨v, H1, I1.tok _, rw', q⟩)⟩
theorem call_isX : CallR X (.builtin "isinstance") (rIsX X.K) := by
  rintro pins s σ H xs us Q I r ⟨a, C, d, c, u, b, rfl, hc, ⟨B, nI, iI, bmB, eb, T⟩, ea, ed, ek, q⟩
  obtain ⟨u1, u2, rfl, r1, r2⟩ := vals2 r; cases hc.eq r2
  cases r1
  obtain ⟨t0, ha⟩ := exo_at I.hok ea
  have cl : (W.clsIn X.K C).isSome = true := by
    obtain ⟨cd, z, _⟩ := W.any_some T.dct
    rw [z]; rfl
  have fin : ∀ od, W.InstAt s.heap a (W.excObj C t0 d .none) C od → wpAny (model X.prog X.w) X.A (call (.builtin "isinstance") [.ref a, u]) (EP X pins σ Q) X.xe s := fun od J =>
    W.kia_one (W.kitx_exc cl T.ga T.gg T.exC T.ca T.cn T.ct T.cm) I.kIn J ek (fun z => nomatch z) fun tk => ⟨.bl b, H, I.tok tk, rfl, q⟩
  rcases ed with rfl | ⟨dx, fs, rfl, ed⟩
  · exact fin none ⟨ha, rfl, rfl, trivial⟩
  · obtain ⟨mA, hns, rel⟩ := exd_at I.hok ed
    obtain ⟨od, ho, hl⟩ := lookIn_ns hns; exact fin (some od) (exInst ha ho)
end
end EX
/-! DG1: promises of defs that may show lists (repr): known is that no list is being shown. -/
namespace DG
open L2 PyProof.Rows PySem PySem.Spec
/-- the promise of a def, called where nothing is being shown -/
structure FnG (P : Program) (w : World) (K : PySem.W.Frag) (mg : Str → Option Value) (base : Heap) (k : Nat) (f : Addr) (fd : FuncData) (ps : List Str) (sp : Sp) : Prop where
  len : ∀ xs H Q E, sp xs H Q E → xs.length = ps.length
  run : ∀ (A : Around) (outer : List Env) (s : Shared) (H : Hp) (us : List Value) (vs : List V) (Q : VK) (E : XK), A.guards = some [] → Room k A → Env0 P w K mg base A outer s H → BindsTo s fd ⟨us, []⟩ (ps.zip us) → Vals vs us → sp vs H Q E →
    codeAny (model P w) A (.call (.ref f) ⟨us, []⟩) (CR (L2.CX P w) outer P w H s Q E) s
theorem FnG.mono {P : Program} {w : World} {K : PySem.W.Frag} {mg : Str → Option Value} {base : Heap} {j k : Nat} {f : Addr} {fd : FuncData} {ps : List Str} {sp : Sp} (F : FnG P w K mg base j f fd ps sp) (h : j ≤ k) : FnG P w K mg base k f fd ps sp :=
  ⟨F.len, fun A outer s H us vs Q E g hr => F.run A outer s H us vs Q E g (hr.mono h)⟩
section
variable {P : Program} {w : World} {K : PySem.W.Frag} {mg : Str → Option Value} {base : Heap} {k : Nat} {f : Addr} {fd : FuncData} {N ps : List Str} {sp : Sp}
theorem SP.call {qual : Str} {sc : Scope} {cdv : Value} {A : Around} {outer : List Env} {s s' : Shared} {H : Hp} {Q : VK} {E : XK} {fl : Flow} (h : SP (cxOf (L2.CX P w) P w K mg base N qual sc f cdv A outer s H E) [] { nx := fun _ H' => Q .non H', rt := Q } fl s') :
    CE outer P w H s Q (match fl with | .ret u => u | _ => .none) s' :=
  match fl, h with
  | .ret u, ⟨v, _, H', J, rv, q⟩ => ⟨v, H', J.os, J.bare, J.base, J.hok, rv, q⟩
  | .next, ⟨_, H', J, q⟩ => ⟨.non, H', J.os, J.bare, J.base, J.hok, rfl, q⟩
  | .brk, ⟨_, _, _, q⟩ => q.elim
  | .cont, ⟨_, _, _, q⟩ => q.elim
/-- THE RULE for a def, where nothing is being shown -/
theorem FnG.of {x qual : Str} {st : Stmt} (Fn : Fun K x qual st f fd) (Sc : FnScope N ps (defScope st)) (len : ∀ vs H Q E, sp vs H Q E → vs.length = ps.length)
    (hbody : ∀ (cdv : Value) (A : Around) (outer : List Env) (s : Shared) (H : Hp) (vs : List V) (Q : VK) (E : XK), A.guards = some [] → Room k (A.deeper (envOfC qual (defScope st) s.heap.objs.size f cdv)) → sp vs H Q E →
      ∃ t, PSs (cxOf (L2.CX P w) P w K mg base N qual (defScope st) f cdv A outer s H E) (defBody st) t ∧ t { nx := fun _ H' => Q .non H', rt := Q } (L2.start N vs) H) : FnG P w K mg base (k + 1) f fd ps sp := by
  obtain ⟨oc, od, kV, doc, pm, an, cdv, ct, osl, rfl, lk, hcd⟩ := Fn.ex
  refine ⟨len, fun A outer s H us vs Q E hg hr e0 hb r hsp => ?_⟩
  have up : ∀ {b : Addr} {o : Obj}, base.get? b = some o → s.heap.get? b = some o := fun {b o} e => (e0.bs b o e).1
  have KX : K.In s.heap := e0.mod.kin.keeps fun b o e => up e
  have kinds : ∀ y ∈ ps.zip us, (defScope st).names.lookup y.1 = some .local ∨ ((defScope st).names.lookup y.1 = some .cell ∧ ((cellsFrom (s.heap.objs.size + 1) (defScope st).names []).lookup y.1).isSome = true) := fun y hy =>
    (Sc.par y.1 (List.of_mem_zip (show (y.1, y.2) ∈ ps.zip us from hy)).1).imp id fun q => ⟨q, PySem.W.cellsFrom_some _ _ _ (.inl q)⟩
  refine codeAny_call_function hr.depth (KX _ _ lk) rfl Sc.co Sc.gen rfl (PySem.W.codeRec_of KX hcd) (hb _ _ _ _ (wpAny_newFunctionEnv_cells Sc.kind kinds fun env he s1 x => ?_))
  subst he
  refine ⟨(e0.mod.nolimit.keeps fun b o e => up e).keeps x.toInCall.keep, codeAny_func ?_⟩
  obtain ⟨t, ht, hq⟩ := hbody cdv A outer s H vs Q E hg (hr.deeper _) hsp
  exact wpAny_mono (ht.run [] s1 (L2.start N vs) H _ (inv_start Sc hr.hd e0 (len _ _ _ _ hsp) r x) hq) (fun fl s' hs => by have z := SP.call hs; cases fl <;> exact z) fun e s' hs => hs
end
section
variable {X : Cx} {k : Nat} {f : Addr} {fd : FuncData} {ps : List Str} {sp : Sp} {E : XK} {x : Str} {p pos : Pos} {e : Expr} {es : List Expr} {t : TA}
theorem runG {pins : List (Addr × Obj)} {σ : L2.St} {H : Hp} {s : Shared} {Q : VK} {us : List Value} {vs : List V} (F : FnG X.prog X.w X.K X.mg X.base k f fd ps sp) (hg : X.A.guards = some []) (hr : Room k X.A) (hb : Binds X.K fd ps []) (hx : Passes (L2.CX X.prog X.w) X E)
    (I : Inv X pins σ H s) (r : Vals vs us) (h : sp vs H Q E) : wpAny (model X.prog X.w) X.A (call (.ref f) us) (EP X pins σ Q) X.xe s := by
  have hl : us.length = ps.length := r.length.symm.trans (F.len _ _ _ _ h)
  have b := hb s us I.kIn (by simpa using hl)
  rw [List.append_nil] at b
  refine wpAny_call (codeAny_mono (F.run X.A X.stack s H us vs Q E hg hr I.env0 b r h) fun res s' z => ?_)
  match res, z with
  | .error er, z => exact hx pins σ H s er s' I z
  | .ok (.ret _), z => exact I.after z
  | .ok .next, z => exact z.elim
  | .ok .brk, z => exact z.elim
  | .ok .cont, z => exact z.elim
theorem pe_callG (F : FnG X.prog X.w X.K X.mg X.base k f fd ps sp) (hgd : X.A.guards = some []) (hr : Room k X.A) (hg : Gl X x) (hm : X.mg x = some (.ref f)) (hk : PySem.W.keepIn X.K (.ref f) = true) (hb : Binds X.K fd ps []) (hx : Passes (L2.CX X.prog X.w) X E) (ha : PA X (e :: es) t) (hdb : (x == ("__debug__" : Str)) = false := by decide) (he : starEach (e :: es) X.env = (false, eval e X.env) :: starEach es X.env := by rfl) (hpl : (backTo pos (starEach es X.env)).any (·.1) = false := by rfl) :
    PE X (.Call (.Name x p) (e :: es) [] pos) (fun σ H Q => t σ H fun vs H1 => sp vs H1 Q E) :=
  ⟨fun pins s σ H Q I h => wpAny_Call_Name_kw (ld_glob I hg hm (PySem.W.callWith_K (h₀ := X.base) I.ok.mod.kin hk (thn (ha.run pos pins s σ H _ I h) fun us s1 ⟨vs, H1, I1, r, q⟩ => ⟨I1.kIn, runG F hgd hr hb hx I1 r q⟩) he hpl) hdb)⟩
theorem pe_callG0 (F : FnG X.prog X.w X.K X.mg X.base k f fd ps sp) (hgd : X.A.guards = some []) (hr : Room k X.A) (hg : Gl X x) (hm : X.mg x = some (.ref f)) (hk : PySem.W.keepIn X.K (.ref f) = true) (hb : Binds X.K fd ps []) (hx : Passes (L2.CX X.prog X.w) X E)
    (hdb : (x == ("__debug__" : Str)) = false := by decide) : PE X (.Call (.Name x p) [] [] pos) (fun σ H Q => sp [] H Q E) :=
  ⟨fun pins s σ H Q I h => wpAny_Call_Name_kw (ld_glob I hg hm (PySem.W.callWith_K0 I.kIn hk (runG (us := []) F hgd hr hb hx I .nil h)) hdb)⟩
end
end DG
/-! DG2: a law's own call, from a promise that holds where nothing is being shown. -/
namespace DG
open L2 PyProof.Rows PySem PySem.Spec
open Classical in
/-- the heap in which the script alone is known (unless the module has it) -/
noncomputable def scriptHp (K : PySem.W.Frag) (a : Addr) (vs : List Value) (ns : List Int) : Hp := fun b => if b = a ∧ K.lookup a = none then some (.frz { cls := .type "list", data := .seq vs.toArray } (.lst (ns.map V.int))) else none
section
variable {P : Program} {w : World} {K : PySem.W.Frag} {a : Addr} {vs : List Value} {ns : List Int} {h : Heap}
theorem scriptHp_some {b : Addr} {u : HO} (e : scriptHp K a vs ns b = some u) : b = a ∧ K.lookup a = none ∧ u = .frz { cls := .type "list", data := .seq vs.toArray } (.lst (ns.map V.int)) := by
  unfold scriptHp at e
  split at e
  · rename_i c; exact ⟨c.1, c.2, (Option.some.inj e).symm⟩
  · cases e
theorem scriptHp_only : Only (scriptHp K a vs ns) := fun b => by
  cases e : scriptHp K a vs ns b with
  | none => exact .inl rfl
  | some u => exact .inr ⟨_, _, congrArg some (scriptHp_some e).2.2⟩
theorem scriptHp_seq (KX : K.In h) (ha : h.get? a = some { cls := .type "list", data := .seq vs.toArray }) (hi : IntsAre vs ns) (hl : ns.length ≤ sizeLine) : SqL K (scriptHp K a vs ns) a (ns.map V.int) := by
  cases hk : K.lookup a with
  | none => exact .inl (.inr ⟨{ cls := .type "list", data := .seq vs.toArray }, if_pos ⟨rfl, hk⟩⟩)
  | some o =>
    cases ha.symm.trans (KX a o hk)
    exact .inr ⟨_, vs.toArray, _, hk, rfl, rfl, rfl, by rw [List.size_toArray, hi.length]; exact hl, by simpa using vals_ints hi⟩
theorem scriptHp_ok (ha : h.get? a = some { cls := .type "list", data := .seq vs.toArray }) (hi : IntsAre vs ns) (hl : ns.length ≤ sizeLine) : HOk P w (scriptHp K a vs ns) h := fun b u e => by
  obtain ⟨rfl, _, rfl⟩ := scriptHp_some e
  exact ⟨ha, by rw [List.length_map]; exact hl, vs, _, vals_ints hi, ha⟩
end
theorem lawCall {P : Program} {w : World} {K : PySem.W.Frag} {mg mb : Str → Option Value} {k : Nat} {fa a : Addr} {fd : FuncData} {x : Str} {sp : Sp} {s : Shared} {vs : List Value} {ns : List Int}
    (KX : K.In s.heap) (hm : s.heap.Ns mainGlobals mg) (hb : s.heap.Ns builtinsNs mb) (hbb : ∀ x : Str, x ≠ "__name__" → mb x = bootBuiltins x) (lim : s.heap.NoLimit) (gens : s.gens = #[])
    (ha : s.heap.get? a = some { cls := .type "list", data := .seq vs.toArray }) (hi : IntsAre vs ns) (hl : ns.length ≤ sizeLine) (hr : Room k callerA)
    (F : ∀ base : Heap, K.In base → base.Ns mainGlobals mg → FnG P w K mg base k fa fd [x] sp) (hbind : ∀ (s : Shared) (u : Value), BindsTo s fd ⟨[u], []⟩ [(x, u)])
    (hsp : ∀ H : Hp, Only H → SqL K H a (ns.map V.int) → sp [.ref a] H (fun v _ => v = .bl true) fun _ _ _ => False) :
    codeAny (model P w) callerA (.call (.ref fa) ⟨[.ref a], []⟩) (fun r s' => r = .ok (.ret (.bool true)) ∧ OldK s.heap s'.heap ∧ s'.os = s.os ∧ AllBare s'.gens) s := by
  generalize hH : scriptHp K a vs ns = H
  have hO : Only H := hH ▸ scriptHp_only
  have hS : SqL K H a (ns.map V.int) := hH ▸ scriptHp_seq KX ha hi hl
  have hok : HOk P w H s.heap := hH ▸ scriptHp_ok ha hi hl
  have isA : ∀ {b : Addr} {u : HO}, H b = some u → b = a ∧ K.lookup a = none := fun {b u} e => by subst hH; exact ⟨(scriptHp_some e).1, (scriptHp_some e).2.1⟩
  have free : ∀ {b : Addr}, (∀ u, H b = some u → False) → H b = none := fun {b} z => by
    cases e : H b with
    | none => rfl
    | some u => exact (z u e).elim
  have dictFree : ∀ {b : Addr} {m : Str → Option Value}, s.heap.Ns b m → (hidT s.heap H).Ns b m := fun {b m} ⟨o, es, ep, e, d, r⟩ => ⟨o, es, ep, hidT_get e (free fun u z => by
    obtain ⟨rfl, _⟩ := isA z
    cases ha.symm.trans e
    cases d), d, r⟩
  have KB : K.In (hidT s.heap H) := fun b o e => hidT_get (KX b o e) (free fun u z => by
    obtain ⟨rfl, z2⟩ := isA z
    rw [z2] at e; cases e)
  obtain ⟨mc, l1, l2⟩ := lim
  have e0 : Env0 P w K mg (hidT s.heap H) callerA [] s H := ⟨rfl, ⟨KB, dictFree hm, ⟨mb, dictFree hb, hbb⟩, ⟨mc, dictFree l1, l2⟩⟩, fun b o e => of_hidT e, Nat.le_of_eq (hidT_size _ _), trivial, (fun b z => by cases z), hok, .of_eq gens⟩
  refine codeAny_mono ((F _ KB (dictFree hm)).run callerA [] s H [.ref a] [.ref a] _ _ rfl hr e0 (hbind s (.ref a)) (.cons rfl .nil) (hsp H hO hS)) fun r s' z => ?_
  match r, z with
  | .error e, ⟨_, _, _, _, _, _, _, _, _, _, _, _, z⟩ => exact z.elim
  | .ok .next, z => exact z.elim
  | .ok .brk, z => exact z.elim
  | .ok .cont, z => exact z.elim
  | .ok (.ret u), ⟨v, H', os, bare, un, hok', rv, ev⟩ =>
    subst ev
    cases rv; refine ⟨rfl, OldK.of_keep fun b o e => ?_, os, bare⟩
    cases q : H b with
    | none => exact un.keep b o e q (fun z => by cases z) (fun z => by cases z)
    | some u =>
      rcases hO b with z | ⟨ob, ys, z⟩
      · rw [q] at z; cases z
      · obtain ⟨e1, _⟩ := hok b _ z
        obtain ⟨e2, _⟩ := hok' b _ (un.frzs b ob _ z)
        cases e.symm.trans e1
        exact e2
/-- the end of a law: from the promise of its def -/
theorem walkG {l : PySem.W.OpenLaw} {n k : Nat} {q : Program} {loose : List Str} {XP : (Str → Option Value) → Heap → Prop} {YP : World → Heap → Prop} {d : DefRec} {K : Params → PySem.W.Frag} {sp : World → (Str → Option Value) → Sp} {x : Str} (hn : l.most = some n) (hn2 : n ≤ sizeLine) (hdf : d.params.defaults = []) (hr : Room k callerA) (hY : ∀ (w : World) (h : Heap), YP w h → (K w.params).In h) (F : ∀ (w : World) (mg : Str → Option Value) (fa : Addr) (h : Heap), (K w.params).In h → h.Ns mainGlobals mg → mg d.name = some (.ref fa) →
      ∃ fd : FuncData, (∀ (s : Shared) (u : Value), BindsTo s fd ⟨[u], []⟩ [(x, u)]) ∧ ∀ base : Heap, (K w.params).In base → base.Ns mainGlobals mg → FnG l.prog w (K w.params) mg base k fa fd [x] (sp w mg))
    (hsp : ∀ (w : World) (mg : Str → Option Value) (H : Hp) (a : Addr) (ns : List Int), ns.length ≤ n → Only H → SqL (K w.params) H a (ns.map V.int) → sp w mg [.ref a] H (fun v _ => v = .bl true) fun _ _ _ => False) : PySem.W.WalkO q loose XP YP l.row.toRowW d [] (fun f vs => PySem.call f vs) :=
  Att.attach_call hn hdf fun w s0 s1 mg mb fa o pm cd doc a vs ns G Y _ _ _ hmg hobj hints hlen hg => by
    obtain ⟨fd, hb, hF⟩ := F w mg fa _ (hY w _ Y) G.T.g hmg
    exact lawCall (hY w _ Y) G.T.g G.T.b G.T.builtins G.T.nolimit hg hobj hints (Nat.le_trans hlen hn2) hr hF hb fun H hO hS => hsp w mg H a ns hlen hO hS
end DG
/-! DL1: data states over the hand layer: every value is data (PyData) or a mutable list (a cell). -/
namespace DL
open PySem PySem.Spec L2

mutual
inductive Dd (K : PySem.W.Frag) (H : Hp) : V → PyData → Prop
  | non : Dd K H .non .none
  | bl (b : Bool) : Dd K H (.bl b) (.bool b)
  | int (i : Int) : Dd K H (.int i) (.int i)
  | str (x : Str) : Dd K H (.str x) (.str x)
  | lst {a : Addr} {xs : List V} {ds : List PyData} : Rd H a (.lst xs) → DdAll K H xs ds → Dd K H (.ref a) (.list ds)
  | tup {a : Addr} {xs : List V} {ds : List PyData} : SqT K H a xs → DdAll K H xs ds → Dd K H (.ref a) (.tuple ds)
  | dic {a : Addr} : H a = some (.dK []) → Dd K H (.ref a) (.dict [])
inductive DdAll (K : PySem.W.Frag) (H : Hp) : List V → List PyData → Prop
  | nil : DdAll K H [] []
  | cons {v : V} {vs : List V} {d : PyData} {ds : List PyData} : Dd K H v d → DdAll K H vs ds → DdAll K H (v :: vs) (d :: ds)
end

theorem Same.rd {H H' : Hp} {a : Addr} {u : HO} (e : Same H H') (h : Rd H a u) : Rd H' a u := by
  rcases h with h | ⟨o, h⟩
  · exact .inl (e _ _ h)
  · exact .inr ⟨o, e _ _ h⟩
theorem Same.sqt {K : PySem.W.Frag} {H H' : Hp} {a : Addr} {xs : List V} (e : Same H H') (h : SqT K H a xs) : SqT K H' a xs := by
  rcases h with h | h
  · exact .inl (Same.rd e h)
  · exact .inr h
section
variable {K : PySem.W.Frag} {H H' : Hp}
mutual
theorem Dd.same (e : Same H H') : ∀ (d : PyData) (v : V), Dd K H v d → Dd K H' v d
  | .none, _, h => by cases h; exact .non
  | .bool b, _, h => by cases h; exact .bl b
  | .int i, _, h => by cases h; exact .int i
  | .str x, _, h => by cases h; exact .str x
  | .list ds, _, h => by
    cases h with
    | lst hs ha => exact .lst (Same.rd e hs) (DdAll.same e ds _ ha)
  | .tuple ds, _, h => by
    cases h with
    | tup hs ha => exact .tup (Same.sqt e hs) (DdAll.same e ds _ ha)
  | .dict kvs, _, h => by
    cases h with
    | dic hs => exact .dic (e _ _ hs)
theorem DdAll.same (e : Same H H') : ∀ (ds : List PyData) (vs : List V), DdAll K H vs ds → DdAll K H' vs ds
  | [], _, h => by cases h; exact .nil
  | d :: ds, _, h => by
    cases h with
    | cons h1 h2 => exact .cons (Dd.same e d _ h1) (DdAll.same e ds _ h2)
end
theorem DdAll.length : ∀ {vs : List V} {ds : List PyData}, DdAll K H vs ds → vs.length = ds.length
  | _, _, .nil => rfl
  | _, _, .cons _ h => by simp [DdAll.length h]
theorem DdAll.get : ∀ {vs : List V} {ds : List PyData} {i : Nat} {v : V}, DdAll K H vs ds → vs[i]? = some v → ∃ d, ds[i]? = some d ∧ Dd K H v d
  | _, _, _, _, DdAll.nil, e => by simp at e
  | _, _, 0, _, .cons h _, e => by simp at e; subst e; exact ⟨_, rfl, h⟩
  | _, _, i + 1, v, .cons _ h, e => by
    obtain ⟨d, h1, h2⟩ := DdAll.get (i := i) (v := v) h (by simpa using e)
    exact ⟨d, by simpa using h1, h2⟩
theorem DdAll.get' : ∀ {vs : List V} {ds : List PyData} {i : Nat} {d : PyData}, DdAll K H vs ds → ds[i]? = some d → ∃ v, vs[i]? = some v ∧ Dd K H v d
  | _, _, _, _, DdAll.nil, e => by simp at e
  | _, _, 0, _, .cons h _, e => by simp at e; subst e; exact ⟨_, rfl, h⟩
  | _, _, i + 1, d, .cons _ h, e => by
    obtain ⟨v, h1, h2⟩ := DdAll.get' (i := i) (d := d) h (by simpa using e)
    exact ⟨v, by simpa using h1, h2⟩
theorem DdAll.append : ∀ {vs ws : List V} {ds es : List PyData}, DdAll K H vs ds → DdAll K H ws es → DdAll K H (vs ++ ws) (ds ++ es)
  | _, _, _, _, .nil, h => h
  | _, _, _, _, .cons h t, k => .cons h (DdAll.append t k)
theorem DdAll.take : ∀ {vs : List V} {ds : List PyData} (n : Nat), DdAll K H vs ds → DdAll K H (vs.take n) (ds.take n)
  | _, _, 0, _ => by simp; exact .nil
  | _, _, _ + 1, .nil => by simp; exact .nil
  | _, _, n + 1, .cons h t => by simp; exact .cons h (DdAll.take n t)
theorem DdAll.drop : ∀ {vs : List V} {ds : List PyData} (n : Nat), DdAll K H vs ds → DdAll K H (vs.drop n) (ds.drop n)
  | _, _, 0, h => by simpa using h
  | _, _, _ + 1, .nil => by simp; exact .nil
  | _, _, n + 1, .cons h t => by simp; exact DdAll.drop n t
theorem DdAll.set {v : V} {d : PyData} (r : Dd K H v d) : ∀ {vs : List V} {ds : List PyData} (i : Nat), DdAll K H vs ds → DdAll K H (vs.set i v) (ds.set i d)
  | _, _, _, .nil => .nil
  | _, _, 0, DdAll.cons _ t => DdAll.cons r t
  | _, _, i + 1, .cons q t => .cons q (DdAll.set r i t)
theorem DdAll.reverse : ∀ {vs : List V} {ds : List PyData}, DdAll K H vs ds → DdAll K H vs.reverse ds.reverse
  | _, _, .nil => .nil
  | _, _, .cons h t => by simp only [List.reverse_cons]; exact DdAll.append (DdAll.reverse t) (.cons h .nil)
end

/-- the world and the module's names -/
structure Wd where
  w : World
  mg : Str → Option Value
abbrev _root_.L2.Cx.wd (X : Cx) : Wd := ⟨X.w, X.mg⟩

/-! ### the state -/
inductive VD where
  | dat (d : PyData)
  | rf (j : Nat)
  | bag (ds : List PyData)
  | st (ds : List PyData)
  | ex (e : Str × List (Str × PyData))
  | exs (es : List (Str × List (Str × PyData)))
structure DS where
  sl : List (Option VD)
  ce : List (Bool × List PyData)
structure Exn where
  cls : Str
  fs : List (Str × PyData)
inductive R (α : Type) where
  | ok (a : α)
  | exc (x : Exn) (S : DS)
  | bad
abbrev M (α : Type) := DS → R (α × DS)
def R.bind {α β : Type} (r : R α) (f : α → R β) : R β := match r with
  | .ok a => f a
  | .exc x S => .exc x S
  | .bad => .bad
instance : Monad M where
  pure a := fun S => .ok (a, S)
  bind t f := fun S => R.bind (t S) fun p => f p.1 p.2
def M.bad {α : Type} : M α := fun _ => .bad
theorem M.pure_run {α : Type} (a : α) (S : DS) : (pure a : M α) S = .ok (a, S) := rfl
theorem M.bind_run {α β : Type} (t : M α) (f : α → M β) (S : DS) : (t >>= f) S = R.bind (t S) fun p => f p.1 p.2 := rfl

/-- an exception of an own class as a value: its class by its name, its fields (newest first) -/
def RdX (K : PySem.W.Frag) (wl : Wd) (G : Hp) (e : Str × List (Str × PyData)) (v : V) : Prop := ∃ (a C : Addr) (d : Option Addr), v = .ref a ∧ wl.mg e.1 = some (.ref C) ∧ G a = some (exo a C d) ∧
  ((d = none ∧ e.2 = []) ∨ ∃ (dx : Addr) (vs : List V), d = some dx ∧ G dx = some (exd dx ((e.2.map (·.1)).zip vs)) ∧ DdAll K G vs (e.2.map (·.2)))
def RdXs (K : PySem.W.Frag) (wl : Wd) (G : Hp) : List (Str × List (Str × PyData)) → List V → Prop
  | [], [] => True
  | x :: xs, v :: vs => RdX K wl G x v ∧ RdXs K wl G xs vs
  | _, _ => False
theorem RdX.same {K : PySem.W.Frag} {wl : Wd} {G G' : Hp} (s : Same G G') {e : Str × List (Str × PyData)} {v : V} (h : RdX K wl G e v) : RdX K wl G' e v := by
  obtain ⟨a, C, d, h1, h2, h3, h4⟩ := h
  refine ⟨a, C, d, h1, h2, s _ _ h3, ?_⟩
  rcases h4 with h4 | ⟨dx, vs, h5, h6, h7⟩
  · exact .inl h4
  · exact .inr ⟨dx, vs, h5, s _ _ h6, DdAll.same s _ _ h7⟩
theorem RdXs.same {K : PySem.W.Frag} {wl : Wd} {G G' : Hp} (s : Same G G') : ∀ {es : List (Str × List (Str × PyData))} {vs : List V}, RdXs K wl G es vs → RdXs K wl G' es vs
  | [], [], _ => trivial
  | _ :: _, _ :: _, h => ⟨RdX.same s h.1, RdXs.same s h.2⟩
  | [], _ :: _, h => h.elim
  | _ :: _, [], h => h.elim
/-- what stands for a value -/
def RdV (K : PySem.W.Frag) (wl : Wd) (rs : List Addr) (G : Hp) : VD → V → Prop
  | .dat d, v => Dd K G v d
  | .rf j, v => ∃ a, rs[j]? = some a ∧ v = .ref a
  | .bag ds, v => ∃ a vs, v = .ref a ∧ SqL K G a vs ∧ DdAll K G vs ds
  | .st _, _ => False
  | .ex e, v => RdX K wl G e v
  | .exs es, v => ∃ a vs, v = .ref a ∧ SqL K G a vs ∧ RdXs K wl G es vs
def RdVs (K : PySem.W.Frag) (wl : Wd) (rs : List Addr) (G : Hp) : List VD → List V → Prop
  | [], [] => True
  | x :: xs, v :: vs => RdV K wl rs G x v ∧ RdVs K wl rs G xs vs
  | _, _ => False
def CellOk (K : PySem.W.Frag) (F G H : Hp) (a : Addr) : Bool × List PyData → Prop
  | (true, ds) => F a = none ∧ G a = none ∧ ∃ vs, H a = some (.lst vs) ∧ DdAll K G vs ds
  | (false, ds) => ∃ vs, G a = some (.lst vs) ∧ DdAll K G vs ds
structure Md (K : PySem.W.Frag) (wl : Wd) (F : Hp) (rs : List Addr) (S : DS) (σ : St) (H G : Hp) : Prop where
  len : S.sl.length = σ.length
  sub : Same G H
  frm : Same F H
  rl : rs.length = S.ce.length
  nd : rs.Nodup
  cel : ∀ (j : Nat) (a : Addr) (c : Bool × List PyData), rs[j]? = some a → S.ce[j]? = some c → CellOk K F G H a c
  slot : ∀ (i : Nat) (x : VD), S.sl[i]? = some (some x) → ∃ v, σ[i]? = some (some v) ∧ RdV K wl rs G x v
def Up (rs : List Addr) (G : Hp) (rs' : List Addr) (G' : Hp) : Prop := (∃ more, rs' = rs ++ more) ∧ Same G G'
theorem Up.refl {rs : List Addr} {G : Hp} : Up rs G rs G := ⟨⟨[], by simp⟩, L2.Same.refl G⟩
theorem Up.trans {rs rs1 rs2 : List Addr} {G G1 G2 : Hp} (a : Up rs G rs1 G1) (b : Up rs1 G1 rs2 G2) : Up rs G rs2 G2 := by
  obtain ⟨⟨m, rfl⟩, s⟩ := a
  obtain ⟨⟨m', rfl⟩, s'⟩ := b
  exact ⟨⟨m ++ m', by simp⟩, L2.Same.trans s s'⟩
theorem RdV.up {K : PySem.W.Frag} {wl : Wd} {rs rs' : List Addr} {G G' : Hp} (u : Up rs G rs' G') : ∀ {x : VD} {v : V}, RdV K wl rs G x v → RdV K wl rs' G' x v := by
  intro x v h
  obtain ⟨⟨m, rfl⟩, s⟩ := u
  cases x with
  | dat d => exact Dd.same s d v h
  | rf j =>
    obtain ⟨a, ha, e⟩ := h
    exact ⟨a, by rw [List.getElem?_append_left (List.getElem?_eq_some_iff.mp ha).1]; exact ha, e⟩
  | bag ds =>
    obtain ⟨a, vs, e, h1, h2⟩ := h
    exact ⟨a, vs, e, L2.Same.seq s h1, DdAll.same s _ _ h2⟩
  | st _ => exact h.elim
  | ex e => exact RdX.same s h
  | exs es =>
    obtain ⟨a, vs, e, h1, h2⟩ := h
    exact ⟨a, vs, e, L2.Same.seq s h1, RdXs.same s h2⟩
theorem RdVs.up {K : PySem.W.Frag} {wl : Wd} {rs rs' : List Addr} {G G' : Hp} (u : Up rs G rs' G') : ∀ {xs : List VD} {vs : List V}, RdVs K wl rs G xs vs → RdVs K wl rs' G' xs vs
  | [], [], _ => trivial
  | _ :: _, _ :: _, h => ⟨RdV.up u h.1, RdVs.up u h.2⟩
  | [], _ :: _, h => h
  | _ :: _, [], h => h
theorem RdVs.length {K : PySem.W.Frag} {wl : Wd} {rs : List Addr} {G : Hp} : ∀ {xs : List VD} {vs : List V}, RdVs K wl rs G xs vs → xs.length = vs.length
  | [], [], _ => rfl
  | _ :: _, _ :: _, h => by simp [RdVs.length h.2]
  | [], _ :: _, h => h.elim
  | _ :: _, [], h => h.elim

/-! ### readings of values in the heap -/
section
variable {K : PySem.W.Frag} {wl : Wd} {F : Hp} {rs : List Addr} {S : DS} {σ : St} {H G : Hp}
/-- the data that a value is now -/
def peekS (S : DS) : VD → Option PyData
  | .dat d => some d
  | .rf j => match S.ce[j]? with
    | some c => some (.list c.2)
    | none => none
  | .bag _ => none
  | .st _ => none
  | .ex _ => none
  | .exs _ => none
theorem Md.addr (m : Md K wl F rs S σ H G) {j : Nat} {c : Bool × List PyData} (h : S.ce[j]? = some c) : ∃ a, rs[j]? = some a := by
  have h1 := (List.getElem?_eq_some_iff.mp h).1
  exact ⟨rs[j]'(by rw [m.rl]; exact h1), List.getElem?_eq_getElem _⟩
theorem CellOk.list {a : Addr} {c : Bool × List PyData} (s : Same G H) (h : CellOk K F G H a c) : ∃ vs, Rd H a (.lst vs) ∧ DdAll K G vs c.2 := by
  obtain ⟨b, ds⟩ := c
  cases b with
  | true =>
    obtain ⟨_, _, vs, hv, hd⟩ := h
    exact ⟨vs, Rd.of hv, hd⟩
  | false =>
    obtain ⟨vs, hs, ha⟩ := h
    exact ⟨vs, Rd.of (s _ _ hs), ha⟩
theorem Md.peek (m : Md K wl F rs S σ H G) {x : VD} {v : V} {d : PyData} (h : RdV K wl rs G x v) (p : peekS S x = some d) : Dd K H v d := by
  cases x with
  | dat d' => cases p; exact Dd.same m.sub _ _ h
  | rf j =>
    obtain ⟨a, ha, rfl⟩ := h
    unfold peekS at p
    cases e : S.ce[j]? with
    | none => simp [e] at p
    | some c =>
      simp [e] at p
      subst p
      obtain ⟨vs, h1, h2⟩ := CellOk.list m.sub (m.cel j a c ha e)
      exact .lst h1 (DdAll.same m.sub _ _ h2)
  | bag ds => cases p
  | st ds => cases p
  | ex _ => cases p
  | exs _ => cases p
/-- a list: the object, its items by the data heap -/
theorem Md.peekL (m : Md K wl F rs S σ H G) {x : VD} {v : V} {ds : List PyData} (h : RdV K wl rs G x v) (p : peekS S x = some (.list ds)) : ∃ a vs, v = .ref a ∧ Rd H a (.lst vs) ∧ DdAll K G vs ds := by
  cases x with
  | dat d' =>
    cases p
    cases (show Dd K G v (.list ds) from h) with
    | lst hs ha => exact ⟨_, _, rfl, Same.rd m.sub hs, ha⟩
  | rf j =>
    obtain ⟨a, ha, rfl⟩ := h
    unfold peekS at p
    cases e : S.ce[j]? with
    | none => simp [e] at p
    | some c =>
      simp [e] at p
      subst p
      obtain ⟨vs, h1, h2⟩ := CellOk.list m.sub (m.cel j a c ha e)
      exact ⟨a, vs, rfl, h1, h2⟩
  | bag ds => cases p
  | st ds => cases p
  | ex _ => cases p
  | exs _ => cases p
theorem peek_tuple {S : DS} {x : VD} {ds : List PyData} (p : peekS S x = some (.tuple ds)) : x = .dat (.tuple ds) := by
  cases x with
  | dat d => cases p; rfl
  | rf j =>
    unfold peekS at p
    cases e : S.ce[j]? <;> simp [e] at p
  | bag _ => cases p
  | st _ => cases p
  | ex _ => cases p
  | exs _ => cases p
theorem Md.peekT (m : Md K wl F rs S σ H G) {x : VD} {v : V} {ds : List PyData} (h : RdV K wl rs G x v) (p : peekS S x = some (.tuple ds)) : ∃ a vs, v = .ref a ∧ SqT K H a vs ∧ DdAll K G vs ds ∧ Dd K G v (.tuple ds) := by
  cases peek_tuple p
  cases (show Dd K G v (.tuple ds) from h) with
  | tup hs ha => exact ⟨_, _, rfl, Same.sqt m.sub hs, ha, .tup hs ha⟩

/-! ### changes -/
theorem free_of {p : Addr} (e : Same G H) (h : H p = none) : G p = none := L2.Same.free e h
theorem same_upd {p : Addr} {o : HO} (h : G p = none) : Same G (upd G p o) := fun b u q => by
  rw [upd_ne (ne_of_none q h)]; exact q
theorem same_upd2 {p : Addr} {o : HO} (e : Same G H) : Same (upd G p o) (upd H p o) := fun b u q => by
  by_cases hb : b = p
  · subst hb; rw [upd_same] at q ⊢; exact q
  · rw [upd_ne hb] at q ⊢; exact e b u q
theorem same_updR {p : Addr} {o : HO} (e : Same G H) (h : G p = none) : Same G (upd H p o) := fun b u q => by
  rw [upd_ne (ne_of_none q h)]; exact e b u q
/-- a new immutable object -/
theorem Md.new (m : Md K wl F rs S σ H G) {p : Addr} {o : HO} (h : H p = none) : Md K wl F rs S σ (upd H p o) (upd G p o) where
  len := m.len
  sub := same_upd2 m.sub
  frm := same_updR m.frm (L2.Same.free m.frm h)
  rl := m.rl
  nd := m.nd
  cel := fun j a c h1 h2 => by
    have k := m.cel j a c h1 h2
    obtain ⟨b, ds⟩ := c
    have gp : G p = none := L2.Same.free m.sub h
    cases b with
    | true =>
      obtain ⟨f, g, vs, hv, hd⟩ := k
      have ne : a ≠ p := ne_of_none hv h
      exact ⟨f, by rw [upd_ne ne]; exact g, vs, by rw [upd_ne ne]; exact hv, DdAll.same (same_upd gp) _ _ hd⟩
    | false =>
      obtain ⟨vs, hv, hd⟩ := k
      exact ⟨vs, same_upd gp _ _ hv, DdAll.same (same_upd gp) _ _ hd⟩
  slot := fun i x h1 => by
    obtain ⟨v, h2, h3⟩ := m.slot i x h1
    exact ⟨v, h2, RdV.up ⟨⟨[], by simp⟩, same_upd (L2.Same.free m.sub h)⟩ h3⟩
/-- a new cell -/
theorem Md.cell (m : Md K wl F rs S σ H G) {p : Addr} {vs : List V} {ds : List PyData} (h : H p = none) (hd : DdAll K G vs ds) :
    Md K wl F (rs ++ [p]) { S with ce := S.ce ++ [(true, ds)] } σ (upd H p (.lst vs)) G where
  len := m.len
  sub := same_updR m.sub (L2.Same.free m.sub h)
  frm := same_updR m.frm (L2.Same.free m.frm h)
  rl := by simp [m.rl]
  nd := by
    rw [List.nodup_append]
    refine ⟨m.nd, by simp, fun a ha b hb => ?_⟩
    have e : b = p := by simpa using hb
    subst e
    obtain ⟨j, hj, e⟩ := List.getElem_of_mem ha
    have h1 : rs[j]? = some a := by rw [List.getElem?_eq_getElem hj, e]
    have h2 : S.ce[j]? = some (S.ce[j]'(by rw [← m.rl]; exact hj)) := List.getElem?_eq_getElem _
    obtain ⟨vs', q, _⟩ := CellOk.list m.sub (m.cel j a _ h1 h2)
    rintro rfl
    have k := m.cel j a _ h1 h2
    revert k
    generalize S.ce[j]'(by rw [← m.rl]; exact hj) = c
    obtain ⟨b, ds'⟩ := c
    intro k
    cases b with
    | true =>
      obtain ⟨_, _, vs'', hv, _⟩ := k
      rw [h] at hv; cases hv
    | false =>
      obtain ⟨_, hs, _⟩ := k
      rw [L2.Same.free m.sub h] at hs; cases hs
  cel := fun j a c h1 h2 => by
    by_cases hj : j < rs.length
    · rw [List.getElem?_append_left hj] at h1
      rw [List.getElem?_append_left (by rw [← m.rl]; exact hj)] at h2
      have k := m.cel j a c h1 h2
      obtain ⟨b, ds'⟩ := c
      cases b with
      | true =>
        obtain ⟨f, g, vs', hv, hd'⟩ := k
        exact ⟨f, g, vs', by rw [upd_ne (ne_of_none hv h)]; exact hv, hd'⟩
      | false => exact k
    · have hj' : j = rs.length := by
        have := (List.getElem?_eq_some_iff.mp h1).1
        simp at this
        omega
      subst hj'
      rw [List.getElem?_append_right (Nat.le_refl _)] at h1
      rw [List.getElem?_append_right (by rw [m.rl]; exact Nat.le_refl _)] at h2
      simp at h1
      simp [m.rl] at h2
      subst h1 h2
      exact ⟨L2.Same.free m.frm h, L2.Same.free m.sub h, vs, upd_same, hd⟩
  slot := fun i x h1 => by
    obtain ⟨v, h2, h3⟩ := m.slot i x h1
    exact ⟨v, h2, RdV.up ⟨⟨[p], rfl⟩, L2.Same.refl G⟩ h3⟩
theorem Md.nd_ne (m : Md K wl F rs S σ H G) {i j : Nat} {a b : Addr} (h1 : rs[i]? = some a) (h2 : rs[j]? = some b) (h : i ≠ j) : a ≠ b := by
  intro e
  subst e
  obtain ⟨l1, e1⟩ := List.getElem?_eq_some_iff.mp h1
  obtain ⟨l2, e2⟩ := List.getElem?_eq_some_iff.mp h2
  exact h ((List.getElem_inj m.nd).mp (e1.trans e2.symm))
/-- a cell becomes data -/
theorem Md.freeze (m : Md K wl F rs S σ H G) {j : Nat} {a : Addr} {ds : List PyData} (ha : rs[j]? = some a) (h : S.ce[j]? = some (true, ds)) :
    ∃ G', Same G G' ∧ Md K wl F rs { S with ce := S.ce.set j (false, ds) } σ H G' ∧ Dd K G' (.ref a) (.list ds) := by
  obtain ⟨f, g, vs, hv, hd⟩ := m.cel j a _ ha h
  have sg : Same G (upd G a (.lst vs)) := same_upd g
  refine ⟨upd G a (.lst vs), sg, ⟨m.len, fun b u q => ?_, m.frm, by simp [m.rl], m.nd, fun i b c h1 h2 => ?_, fun i x h1 => ?_⟩, .lst (Rd.of upd_same) (DdAll.same sg _ _ hd)⟩
  · by_cases hb : b = a
    · subst hb; rw [upd_same] at q; cases q; exact hv
    · rw [upd_ne hb] at q; exact m.sub b u q
  · by_cases hi : i = j
    · subst hi
      rw [ha] at h1; cases h1
      rw [List.getElem?_set_self (List.getElem?_eq_some_iff.mp h).1] at h2
      cases h2
      exact ⟨vs, upd_same, DdAll.same sg _ _ hd⟩
    · rw [List.getElem?_set_ne (Ne.symm hi)] at h2
      have k := m.cel i b c h1 h2
      obtain ⟨bb, ds'⟩ := c
      cases bb with
      | true =>
        obtain ⟨f', g', vs', hv', hd'⟩ := k
        exact ⟨f', by rw [upd_ne (m.nd_ne h1 ha hi)]; exact g', vs', hv', DdAll.same sg _ _ hd'⟩
      | false =>
        obtain ⟨vs', hv', hd'⟩ := k
        exact ⟨vs', sg _ _ hv', DdAll.same sg _ _ hd'⟩
  · obtain ⟨v, h2, h3⟩ := m.slot i x h1
    exact ⟨v, h2, RdV.up ⟨⟨[], by simp⟩, sg⟩ h3⟩
/-- a cell is written -/
theorem Md.write (m : Md K wl F rs S σ H G) {j : Nat} {a : Addr} {ds ds' : List PyData} {vs' : List V} (ha : rs[j]? = some a) (h : S.ce[j]? = some (true, ds)) (hd' : DdAll K G vs' ds') :
    Md K wl F rs { S with ce := S.ce.set j (true, ds') } σ (upd H a (.lst vs')) G := by
  obtain ⟨f, g, vs, hv, hd⟩ := m.cel j a _ ha h
  refine ⟨m.len, same_updR m.sub g, same_updR m.frm f, by simp [m.rl], m.nd, fun i b c h1 h2 => ?_, m.slot⟩
  by_cases hi : i = j
  · subst hi
    rw [ha] at h1; cases h1
    rw [List.getElem?_set_self (List.getElem?_eq_some_iff.mp h).1] at h2
    cases h2
    exact ⟨f, g, vs', upd_same, hd'⟩
  · rw [List.getElem?_set_ne (Ne.symm hi)] at h2
    have k := m.cel i b c h1 h2
    obtain ⟨bb, ds'⟩ := c
    cases bb with
    | true =>
      obtain ⟨f', g', vs'', hv'', hd''⟩ := k
      exact ⟨f', g', vs'', by rw [upd_ne (m.nd_ne h1 ha hi)]; exact hv'', hd''⟩
    | false => exact k
theorem Md.store (m : Md K wl F rs S σ H G) {i : Nat} {x : VD} {v : V} (h : RdV K wl rs G x v) : Md K wl F rs { S with sl := S.sl.set i (some x) } (σ.set i (some v)) H G := by
  refine ⟨by simp [m.len], m.sub, m.frm, m.rl, m.nd, m.cel, fun k y h1 => ?_⟩
  by_cases hk : k = i
  · subst hk
    have hl := (List.getElem?_eq_some_iff.mp h1).1
    simp at hl
    rw [List.getElem?_set_self hl] at h1
    cases h1
    exact ⟨v, by rw [List.getElem?_set_self (by rw [← m.len]; exact hl)], h⟩
  · rw [List.getElem?_set_ne (Ne.symm hk)] at h1
    rw [List.getElem?_set_ne (Ne.symm hk)]
    exact m.slot k y h1
/-- only the cells -/
theorem Md.cells (m : Md K wl F rs S σ H G) : Md K wl F rs ⟨[], S.ce⟩ [] H G := ⟨rfl, m.sub, m.frm, m.rl, m.nd, m.cel, fun i x h => by simp at h⟩
theorem Md.slots {ce : List (Bool × List PyData)} {sl : List (Option VD)} (m : Md K wl F rs ⟨[], ce⟩ [] H G) (hl : sl.length = σ.length) (hs : ∀ (i : Nat) (x : VD), sl[i]? = some (some x) → ∃ v, σ[i]? = some (some v) ∧ RdV K wl rs G x v) : Md K wl F rs ⟨sl, ce⟩ σ H G :=
  ⟨hl, m.sub, m.frm, m.rl, m.nd, m.cel, hs⟩
end
end DL
/-! DL2: readings over data states. -/
namespace DL
open PySem PySem.Spec L2

section
variable {α β γ δ : Type}
/-- what is to be shown behind a run -/
def Post (K : PySem.W.Frag) (wl : Wd) (mg : Str → Option Value) (E : XK) (F : Hp) (σ : L2.St) (Rel : List Addr → Hp → α → β → Prop) (rs : List Addr) (G : Hp) (r : R (α × DS)) (Q : β → Hp → Prop) : Prop :=
  match r with
  | .ok p => ∀ (b : β) (H' G' : Hp) (rs' : List Addr), Up rs G rs' G' → Md K wl F rs' p.2 σ H' G' → Rel rs' G' p.1 b → Q b H'
  | .exc x S' => ∀ (C dx : Addr) (vs : List V) (H' G' : Hp) (rs' : List Addr), Up rs G rs' G' → Md K wl F rs' ⟨[], S'.ce⟩ [] H' G' → mg x.cls = some (.ref C) → H' dx = some (.xd ((x.fs.map (·.1)).zip vs)) → DdAll K G' vs (x.fs.map (·.2)) → E (.ref C) (some dx) H'
  | .bad => False
/-- the reading of a run -/
def lift (K : PySem.W.Frag) (wl : Wd) (mg : Str → Option Value) (E : XK) (Rel : List Addr → Hp → α → β → Prop) (t : M α) : L2.St → Hp → (β → Hp → Prop) → Prop := fun σ H Q =>
  ∃ (F : Hp) (rs : List Addr) (S : DS) (G : Hp), Md K wl F rs S σ H G ∧ Post K wl mg E F σ Rel rs G (t S) Q

variable {K : PySem.W.Frag} {wl : Wd} {mg : Str → Option Value} {E : XK} {F : Hp} {σ : L2.St} {rs rs1 : List Addr} {G G1 H : Hp} {Rel : List Addr → Hp → α → β → Prop} {Rel2 : List Addr → Hp → γ → δ → Prop}
theorem Post.up (u : Up rs G rs1 G1) {r : R (α × DS)} {Q : β → Hp → Prop} (h : Post K wl mg E F σ Rel rs G r Q) : Post K wl mg E F σ Rel rs1 G1 r Q := by
  cases r with
  | ok p => exact fun b H' G' rs' u' m r => h b H' G' rs' (u.trans u') m r
  | exc x S' => exact fun C dx vs H' G' rs' u' => h C dx vs H' G' rs' (u.trans u')
  | bad => exact h
theorem Post.mono {r : R (α × DS)} {Q Q' : β → Hp → Prop} (hQ : ∀ b H, Q b H → Q' b H) (h : Post K wl mg E F σ Rel rs G r Q) : Post K wl mg E F σ Rel rs G r Q' := by
  cases r with
  | ok p => exact fun b H' G' rs' u' m r => hQ _ _ (h b H' G' rs' u' m r)
  | exc x S' => exact h
  | bad => exact h
/-- first t, then the rest -/
theorem Post.seq {t : M α} {g : α → M γ} {S : DS} {Q : δ → Hp → Prop} (h : Post K wl mg E F σ Rel2 rs G ((t >>= g) S) Q) :
    Post K wl mg E F σ Rel rs G (t S) (fun (b : β) H1 => ∃ rs1 S1 G1 a, Up rs G rs1 G1 ∧ Md K wl F rs1 S1 σ H1 G1 ∧ Rel rs1 G1 a b ∧ Post K wl mg E F σ Rel2 rs1 G1 (g a S1) Q) := by
  rw [M.bind_run] at h
  cases e : t S with
  | ok p =>
    rw [e] at h
    exact fun b H' G' rs' u m r => ⟨rs', p.2, G', p.1, u, m, r, Post.up u h⟩
  | exc x S' => rw [e] at h; exact h
  | bad => rw [e] at h; exact h
theorem Post.ret {a : α} {S : DS} {Q : β → Hp → Prop} {b : β} (m : Md K wl F rs S σ H G) (h : Post K wl mg E F σ Rel rs G (.ok (a, S)) Q) (r : Rel rs G a b) : Q b H := h b H G rs Up.refl m r
theorem lift_of {t : M α} {S : DS} {Q : β → Hp → Prop} (m : Md K wl F rs S σ H G) (h : Post K wl mg E F σ Rel rs G (t S) Q) : lift K wl mg E Rel t σ H Q := ⟨F, rs, S, G, m, h⟩
end

/-! ### the four judgements -/
abbrev liftE (K : PySem.W.Frag) (wl : Wd) (mg : Str → Option Value) (E : XK) (t : M VD) : TE := lift K wl mg E (RdV K wl) t
abbrev liftT (K : PySem.W.Frag) (wl : Wd) (mg : Str → Option Value) (E : XK) (t : M Bool) : TT := lift K wl mg E (fun _ _ (a : Bool) (b : Bool) => a = b) t
abbrev liftA (K : PySem.W.Frag) (wl : Wd) (mg : Str → Option Value) (E : XK) (t : M (List VD)) : TA := lift K wl mg E (RdVs K wl) t
abbrev PD (X : Cx) (E : XK) (e : Expr) (t : M VD) : Prop := PE X e (liftE X.K X.wd X.mg E t)
abbrev PDT (X : Cx) (E : XK) (e : Expr) (t : M Bool) : Prop := PT X e (liftT X.K X.wd X.mg E t)
abbrev PDW (X : Cx) (E : XK) (e : Expr) (t : M Bool) : Prop := PW X e (liftT X.K X.wd X.mg E t)
abbrev PDA (X : Cx) (E : XK) (es : List Expr) (t : M (List VD)) : Prop := PA X es (liftA X.K X.wd X.mg E t)

section
variable {X : Cx} {E : XK} {e : Expr}
theorem PE.weak {t t' : TE} (h : PE X e t) (k : ∀ σ H Q, t' σ H Q → t σ H Q) : PE X e t' := ⟨fun pins s σ H Q I q => h.run pins s σ H Q I (k _ _ _ q)⟩
theorem PT.weak {t t' : TT} (h : PT X e t) (k : ∀ σ H Q, t' σ H Q → t σ H Q) : PT X e t' := ⟨fun pins s σ H Q I q => h.run pins s σ H Q I (k _ _ _ q)⟩
theorem PW.weak {t t' : TT} (h : PW X e t) (k : ∀ σ H Q, t' σ H Q → t σ H Q) : PW X e t' := ⟨fun wh pins s σ H Q I q => h.run wh pins s σ H Q I (k _ _ _ q)⟩
theorem PA.weak {es : List Expr} {t t' : TA} (h : PA X es t) (k : ∀ σ H Q, t' σ H Q → t σ H Q) : PA X es t' := ⟨fun pos pins s σ H Q I q => h.run pos pins s σ H Q I (k _ _ _ q)⟩
theorem PS.weak {st : Stmt} {t t' : TS} (h : PS X st t) (k : ∀ D σ H, t' D σ H → t D σ H) : PS X st t' := ⟨fun pins s σ H D I q => h.run pins s σ H D I (k _ _ _ q)⟩
theorem PSs.weak {st : List Stmt} {t t' : TS} (h : PSs X st t) (k : ∀ D σ H, t' D σ H → t D σ H) : PSs X st t' := ⟨fun pins s σ H D I q => h.run pins s σ H D I (k _ _ _ q)⟩

/-! ### names, constants -/
def eVar (i : Nat) : M VD := fun S => match S.sl[i]? with
  | some (some x) => .ok (x, S)
  | _ => .bad
def eC (d : PyData) : M VD := pure (.dat d)
theorem d_var (i : Nat) {x : Str} {pos : Pos} (h : PE X (.Name x pos) (tVar i)) : PD X E (.Name x pos) (eVar i) := PE.weak h fun σ H Q q => by
  obtain ⟨F, rs, S, G, m, p⟩ := q
  unfold eVar at p
  cases hs : S.sl[i]? with
  | none => rw [hs] at p; exact p.elim
  | some o =>
    cases o with
    | none => rw [hs] at p; exact p.elim
    | some y =>
      rw [hs] at p
      obtain ⟨v, h2, h3⟩ := m.slot i y hs
      exact ⟨v, h2, Post.ret m p h3⟩
theorem d_c {v : V} {d : PyData} (h : PE X e (tC v)) (hd : ∀ H, Dd X.K H v d) : PD X E e (eC d) := PE.weak h fun σ H Q q => by
  obtain ⟨F, rs, S, G, m, p⟩ := q
  exact Post.ret m p (hd G)
theorem d_int {i j pos} : PD X E (.Constant (.int i) j pos) (eC (.int i)) := d_c pe_int fun _ => .int i
theorem d_bl {b j pos} : PD X E (.Constant (.bool b) j pos) (eC (.bool b)) := d_c pe_bl fun _ => .bl b
theorem d_non {j pos} : PD X E (.Constant .none j pos) (eC .none) := d_c pe_non fun _ => .non
theorem d_str {x j pos} : PD X E (.Constant (.str x) j pos) (eC (.str x)) := d_c pe_str fun _ => .str x

/-! ### argument lists -/
def aCons (a : M VD) (t : M (List VD)) : M (List VD) := do let x ← a; let xs ← t; pure (x :: xs)
theorem d_nil : PDA X E [] (pure []) := PA.weak pa_nil fun σ H Q q => by
  obtain ⟨F, rs, S, G, m, p⟩ := q
  exact Post.ret (b := []) m p trivial
theorem d_cons {es : List Expr} {a : M VD} {t : M (List VD)} (ha : PD X E e a) (ht : PDA X E es t) (hs : starEach (e :: es) X.env = (false, eval e X.env) :: starEach es X.env := by rfl) : PDA X E (e :: es) (aCons a t) := PA.weak (pa_cons ha ht hs) fun σ H Q q => by
  obtain ⟨F, rs, S, G, m, p⟩ := q
  refine ⟨F, rs, S, G, m, (Post.seq p).mono fun v H1 ⟨rs1, S1, G1, x, u1, m1, r1, p1⟩ => ?_⟩
  refine ⟨F, rs1, S1, G1, m1, (Post.seq p1).mono fun vs H2 ⟨rs2, S2, G2, xs, u2, m2, r2, p2⟩ => ?_⟩
  exact Post.ret (b := v :: vs) m2 p2 ⟨RdV.up u2 r1, r2⟩
end
end DL
/-! DL3: displays, operators, tests, calls. -/
namespace DL
open PySem PySem.Spec L2

/-! ### data off the heap -/
section
variable {H : Hp} {s : Shared} {X : Cx} {pins : List (Addr × Obj)} {σ : L2.St}
mutual
theorem Dd.reads (I : Inv X pins σ H s) : ∀ (d : PyData) (v : V) (u : Value), Dd X.K H v d → RelV v u → ∃ as, Reads s.heap u d as
  | .none, _, _, h, r => by cases h; cases r; exact ⟨_, Reads.none⟩
  | .bool b, _, _, h, r => by cases h; cases r; exact ⟨_, Reads.bool b⟩
  | .int i, _, _, h, r => by cases h; obtain ⟨t, rfl⟩ := r; exact ⟨_, Reads.int i t⟩
  | .str x, _, _, h, r => by cases h; obtain ⟨t, rfl⟩ := r; exact ⟨_, Reads.str x t⟩
  | .list ds, _, _, h, r => by
    cases h with
    | lst hs ha =>
      cases r
      obtain ⟨its, rv, ⟨o, n, ho, hc, _, hd⟩, _⟩ := I.list (.inl hs)
      obtain ⟨as, hr⟩ := DdAll.reads I ds _ its ha rv; exact ⟨_, Reads.list ho hc hd hr⟩
  | .tuple ds, _, _, h, r => by
    cases h with
    | tup hs ha =>
      cases r; obtain ⟨its, rv, ⟨o, ho, hc, n, hd⟩, _⟩ := I.tuple hs
      obtain ⟨as, hr⟩ := DdAll.reads I ds _ its ha rv; exact ⟨_, Reads.tuple ho hc hd hr⟩
  | .dict kvs, _, _, h, r => by
    cases h with
    | dic hs =>
      cases r
      obtain ⟨_, _, vs, rk, o, es, ep, ho, ⟨hx, _⟩, hd, _, hes, _⟩ := I.hok _ _ hs
      cases rk
      have e0 : es.toList = [] := by
        revert hes
        generalize es.toList = l
        intro hes
        cases hes
        rfl
      refine ⟨_, Reads.dict (kvs := []) (as := []) (bs := []) ho hx hd ?_ ?_⟩
      · rw [e0]; exact .nil
      · rw [e0]; exact .nil
theorem DdAll.reads (I : Inv X pins σ H s) : ∀ (ds : List PyData) (vs : List V) (us : List Value), DdAll X.K H vs ds → Vals vs us → ∃ as, ReadsAll s.heap us ds as
  | [], _, _, h, r => by cases h; cases r; exact ⟨_, ReadsAll.nil⟩
  | d :: ds, _, _, h, r => by
    cases h with
    | cons h1 h2 =>
      cases r with
      | cons r1 r2 =>
        obtain ⟨as, q1⟩ := Dd.reads I d _ _ h1 r1
        obtain ⟨bs, q2⟩ := DdAll.reads I ds _ _ h2 r2; exact ⟨_, ReadsAll.cons q1 q2⟩
end
end

/-! ### a value as data -/
def toD : VD → M PyData
  | .dat d => pure d
  | .rf j => fun S => match S.ce[j]? with
    | some (true, ds) => .ok (.list ds, { S with ce := S.ce.set j (false, ds) })
    | some (false, ds) => .ok (.list ds, S)
    | none => .bad
  | .bag _ => M.bad
  | .st _ => M.bad
  | .ex _ => M.bad
  | .exs _ => M.bad
def toDs : List VD → M (List PyData)
  | [] => pure []
  | x :: xs => do let d ← toD x; let ds ← toDs xs; pure (d :: ds)
/-- what a value is now (nothing is changed) -/
def peek (x : VD) : M PyData := fun S => match peekS S x with
  | some d => .ok (d, S)
  | none => .bad
def chk (b : Bool) : M Unit := fun S => if b then .ok ((), S) else .bad
def ofO {α : Type} (o : Option α) : M α := fun S => match o with
  | some a => .ok (a, S)
  | none => .bad
section
variable {K : PySem.W.Frag} {wl : Wd} {mg : Str → Option Value} {E : XK} {F : Hp} {rs : List Addr} {S : DS} {σ : L2.St} {H G : Hp} {α β γ δ : Type} {Rel : List Addr → Hp → α → β → Prop}
theorem Md.toD (m : Md K wl F rs S σ H G) {x : VD} {v : V} (r : RdV K wl rs G x v) {g : PyData → M α} {Q : β → Hp → Prop} (h : Post K wl mg E F σ Rel rs G ((toD x >>= g) S) Q) :
    ∃ d S' G', Same G G' ∧ Md K wl F rs S' σ H G' ∧ Dd K G' v d ∧ Post K wl mg E F σ Rel rs G' (g d S') Q := by
  rw [M.bind_run] at h
  cases x with
  | dat d => exact ⟨d, S, G, L2.Same.refl G, m, r, h⟩
  | rf j =>
    obtain ⟨a, ha, rfl⟩ := r
    unfold DL.toD at h
    dsimp only at h
    cases e : S.ce[j]? with
    | none => rw [e] at h; exact h.elim
    | some c =>
      obtain ⟨b, ds⟩ := c
      cases b with
      | true =>
        rw [e] at h
        obtain ⟨G', sg, m', rd⟩ := m.freeze ha e
        exact ⟨.list ds, _, G', sg, m', rd, Post.up ⟨⟨[], by simp⟩, sg⟩ h⟩
      | false =>
        rw [e] at h
        obtain ⟨vs, hv, hd⟩ := m.cel j a _ ha e
        exact ⟨.list ds, S, G, L2.Same.refl G, m, .lst (Rd.of hv) hd, h⟩
  | bag _ => exact h.elim
  | st _ => exact h.elim
  | ex _ => exact h.elim
  | exs _ => exact h.elim
theorem Md.toDs : ∀ {xs : List VD} {vs : List V} {S : DS} {G : Hp} {g : List PyData → M α} {Q : β → Hp → Prop}, Md K wl F rs S σ H G → RdVs K wl rs G xs vs → Post K wl mg E F σ Rel rs G ((toDs xs >>= g) S) Q →
    ∃ ds S' G', Same G G' ∧ Md K wl F rs S' σ H G' ∧ DdAll K G' vs ds ∧ Post K wl mg E F σ Rel rs G' (g ds S') Q
  | [], [], S, G, g, Q, m, _, h => ⟨[], S, G, L2.Same.refl G, m, .nil, h⟩
  | x :: xs, v :: vs, S, G, g, Q, m, r, h => by
    have h' : Post K wl mg E F σ Rel rs G ((DL.toD x >>= fun d => DL.toDs xs >>= fun ds => g (d :: ds)) S) Q := by
      have e : ((DL.toDs (x :: xs) >>= g) S) = ((DL.toD x >>= fun d => DL.toDs xs >>= fun ds => g (d :: ds)) S) := by
        simp only [DL.toDs, M.bind_run]
        cases DL.toD x S with
        | ok p =>
          simp only [R.bind, M.bind_run]
          cases DL.toDs xs p.2 <;> rfl
        | exc _ _ => rfl
        | bad => rfl
      rw [← e]; exact h
    obtain ⟨d, S1, G1, s1, m1, d1, h1⟩ := Md.toD m r.1 h'
    obtain ⟨ds, S2, G2, s2, m2, d2, h2⟩ := Md.toDs m1 (RdVs.up ⟨⟨[], by simp⟩, s1⟩ r.2) h1
    exact ⟨d :: ds, S2, G2, L2.Same.trans s1 s2, m2, .cons (Dd.same s2 _ _ d1) d2, h2⟩
  | [], _ :: _, _, _, _, _, _, r, _ => r.elim
  | _ :: _, [], _, _, _, _, _, r, _ => r.elim
theorem Post.peek {x : VD} {g : PyData → M α} {Q : β → Hp → Prop} (h : Post K wl mg E F σ Rel rs G ((DL.peek x >>= g) S) Q) : ∃ d, peekS S x = some d ∧ Post K wl mg E F σ Rel rs G (g d S) Q := by
  rw [M.bind_run] at h
  unfold DL.peek at h
  cases e : peekS S x with
  | none => rw [e] at h; exact h.elim
  | some d => rw [e] at h; exact ⟨d, rfl, h⟩
theorem Post.chk {b : Bool} {g : Unit → M α} {Q : β → Hp → Prop} (h : Post K wl mg E F σ Rel rs G ((DL.chk b >>= g) S) Q) : b = true ∧ Post K wl mg E F σ Rel rs G (g () S) Q := by
  rw [M.bind_run] at h
  cases b with
  | true => exact ⟨rfl, h⟩
  | false => exact h.elim
theorem Post.ofO {o : Option γ} {g : γ → M α} {Q : β → Hp → Prop} (h : Post K wl mg E F σ Rel rs G ((DL.ofO o >>= g) S) Q) : ∃ a, o = some a ∧ Post K wl mg E F σ Rel rs G (g a S) Q := by
  rw [M.bind_run] at h
  cases o with
  | none => exact h.elim
  | some a => exact ⟨a, rfl, h⟩
theorem Post.ofO' {o : Option α} {Q : β → Hp → Prop} (h : Post K wl mg E F σ Rel rs G (DL.ofO o S) Q) : ∃ a, o = some a ∧ Post K wl mg E F σ Rel rs G (.ok (a, S)) Q := by
  cases o with
  | none => exact h.elim
  | some a => exact ⟨a, rfl, h⟩
end

/-! ### displays -/
/-- a new list -/
def newL (ds : List PyData) : M VD := fun S => .ok (.rf S.ce.length, { S with ce := S.ce ++ [(true, ds)] })
def eTup (t : M (List VD)) : M VD := do let xs ← t; let ds ← toDs xs; chk (decide (ds.length ≤ 1000)); pure (.dat (.tuple ds))
def eLst (t : M (List VD)) : M VD := do let xs ← t; let ds ← toDs xs; chk (decide (ds.length ≤ 1000)); newL ds
section
variable {X : Cx} {E : XK} {e a b : Expr} {es : List Expr} {pos : Pos}
variable {F : Hp} {rs : List Addr} {S : DS} {σ : L2.St} {H G : Hp}
theorem newTup {ds : List PyData} {vs : List V} {Q : VK} (m : Md X.K X.wd F rs S σ H G) (hd : DdAll X.K G vs ds) (h : Post X.K X.wd X.mg E F σ (RdV X.K X.wd) rs G (.ok (.dat (.tuple ds), S)) Q) {p : Addr} (hp : H p = none) : Q (.ref p) (upd H p (.tup vs)) :=
  h (.ref p) _ _ rs ⟨⟨[], by simp⟩, same_upd (L2.Same.free m.sub hp)⟩ (m.new hp) (.tup (SqT.of upd_same) (DdAll.same (same_upd (L2.Same.free m.sub hp)) _ _ hd))
theorem newLst {ds : List PyData} {vs : List V} {Q : VK} (m : Md X.K X.wd F rs S σ H G) (hd : DdAll X.K G vs ds) (h : Post X.K X.wd X.mg E F σ (RdV X.K X.wd) rs G (newL ds S) Q) {p : Addr} (hp : H p = none) : Q (.ref p) (upd H p (.lst vs)) :=
  h (.ref p) _ G (rs ++ [p]) ⟨⟨[p], rfl⟩, L2.Same.refl G⟩ (m.cell hp hd) ⟨p, by rw [← m.rl]; simp, rfl⟩
theorem sz1000 {n : Nat} (h : n ≤ 1000) : n ≤ sizeLine := Nat.le_trans h (by decide)
theorem d_tup {t : M (List VD)} {x1 : Nat} (ht : PDA X E es t) : PD X E (.Tuple es x1 pos) (eTup t) := PE.weak (pe_tup ht) fun σ H Q q => by
  obtain ⟨F, rs, S, G, m, p⟩ := q
  refine ⟨F, rs, S, G, m, (Post.seq p).mono fun vs H1 ⟨rs1, S1, G1, xs, u1, m1, r1, p1⟩ => ?_⟩
  obtain ⟨ds, S2, G2, s2, m2, d2, p2⟩ := m1.toDs r1 p1
  obtain ⟨hl, p3⟩ := Post.chk p2
  have hl' : ds.length ≤ 1000 := of_decide_eq_true hl
  rw [← DdAll.length d2] at hl'
  exact ⟨sz1000 hl', fun p hp => newTup m2 d2 p3 hp⟩
theorem d_lst {t : M (List VD)} (ht : PDA X E es t) : PD X E (.List es pos) (eLst t) := PE.weak (pe_lst ht) fun σ H Q q => by
  obtain ⟨F, rs, S, G, m, p⟩ := q
  refine ⟨F, rs, S, G, m, (Post.seq p).mono fun vs H1 ⟨rs1, S1, G1, xs, u1, m1, r1, p1⟩ => ?_⟩
  obtain ⟨ds, S2, G2, s2, m2, d2, p2⟩ := m1.toDs r1 p1
  obtain ⟨hl, p3⟩ := Post.chk p2
  have hl' : ds.length ≤ 1000 := of_decide_eq_true hl
  rw [← DdAll.length d2] at hl'
  exact ⟨sz1000 hl', fun p hp => newLst m2 d2 p3 hp⟩

/-! ### operators -/
def scalV : PyData → Option V
  | .none => some .non
  | .bool b => some (.bl b)
  | .int i => some (.int i)
  | .str x => some (.str x)
  | _ => none
theorem scal_dd {K : PySem.W.Frag} {H : Hp} {d : PyData} {v : V} (h : scalV d = some v) : Dd K H v d := by
  cases d <;> cases h <;> constructor
/-- two data in, a scalar out -/
def rD (K : PySem.W.Frag) (f : PyData → PyData → Option PyData) : R2 := fun x y H Q => ∃ d e r w, Dd K H x d ∧ Dd K H y e ∧ f d e = some r ∧ scalV r = some w ∧ Q w H
theorem OpR.weak {f : Value → Value → Sem Value} {r r' : R2} (h : OpR X f r) (k : ∀ x y H Q, r' x y H Q → r x y H Q) : OpR X f r' := fun pins s σ H x y v u Q I rx ry q => h pins s σ H x y v u Q I rx ry (k _ _ _ _ q)
def scal (d : PyData) : M VD := match scalV d with
  | some _ => pure (.dat d)
  | none => M.bad
theorem Post.scal {d : PyData} {Q : VK} (m : Md X.K X.wd F rs S σ H G) (h : Post X.K X.wd X.mg E F σ (RdV X.K X.wd) rs G (DL.scal d S) Q) : ∃ w, scalV d = some w ∧ Q w H := by
  unfold DL.scal at h
  cases e : scalV d with
  | none => rw [e] at h; exact h.elim
  | some w => rw [e] at h; exact ⟨w, rfl, Post.ret m h (scal_dd e)⟩
def eOp (f : PyData → PyData → Option PyData) (ta tb : M VD) : M VD := do let x ← ta; let y ← tb; let d ← peek x; let e ← peek y; let r ← ofO (f d e); scal r
theorem opD {f : PyData → PyData → Option PyData} {ta tb : M VD} {t : R2} (ha : PD X E a ta) (hb : PD X E b tb) (ht : ∀ x y H Q, rD X.K f x y H Q → t x y H Q) {σ : L2.St} {H : Hp} {Q : VK} (q : liftE X.K X.wd X.mg E (eOp f ta tb) σ H Q) :
    tOp t (liftE X.K X.wd X.mg E ta) (liftE X.K X.wd X.mg E tb) σ H Q := by
  obtain ⟨F, rs, S, G, m, p⟩ := q
  refine ⟨F, rs, S, G, m, (Post.seq p).mono fun v H1 ⟨rs1, S1, G1, x, u1, m1, r1, p1⟩ => ?_⟩
  refine ⟨F, rs1, S1, G1, m1, (Post.seq p1).mono fun w H2 ⟨rs2, S2, G2, y, u2, m2, r2, p2⟩ => ?_⟩
  obtain ⟨d, hd, p3⟩ := Post.peek p2
  obtain ⟨e, he, p4⟩ := Post.peek p3
  obtain ⟨r, hr, p5⟩ := Post.ofO p4
  obtain ⟨z, hz, p6⟩ := Post.scal m2 p5
  exact ht _ _ _ _ ⟨d, e, r, z, m2.peek (RdV.up u2 r1) hd, m2.peek r2 he, hr, hz, p6⟩
theorem d_op {op : Operator} {f : PyData → PyData → Option PyData} {ta tb : M VD} (ho : OpR X (binaryOp op) (rD X.K f)) (ha : PD X E a ta) (hb : PD X E b tb) : PD X E (.BinOp a op b pos) (eOp f ta tb) :=
  PE.weak (pe_op ho ha hb) fun _ _ _ q => opD ha hb (fun _ _ _ _ h => h) q
theorem d_cmp {op : CmpOp} {f : PyData → PyData → Option PyData} {ta tb : M VD} (ho : OpR X (compareOp op) (rD X.K f)) (ha : PD X E a ta) (hb : PD X E b tb) (hm : behindInMarks op b = false) : PD X E (.Compare a [op] [b] pos) (eOp f ta tb) :=
  PE.weak (pe_cmpR ho ha hb hm) fun _ _ _ q => opD ha hb (fun _ _ _ _ h => h) q
/-- what reads as a bool, tested -/
def tOf (t : M VD) : M Bool := do
  let x ← t
  match x with
  | .dat (.bool b) => pure b
  | _ => M.bad
theorem tOf_lift {t : M VD} {σ : L2.St} {H : Hp} {Q : Bool → Hp → Prop} (q : liftT X.K X.wd X.mg E (tOf t) σ H Q) : liftE X.K X.wd X.mg E t σ H (fun x H' => ∃ k, x = .bl k ∧ Q k H') := by
  obtain ⟨F, rs, S, G, m, p⟩ := q
  refine ⟨F, rs, S, G, m, (Post.seq p).mono fun v H1 ⟨rs1, S1, G1, x, u1, m1, r1, p1⟩ => ?_⟩
  cases x with
  | rf j => exact p1.elim
  | bag _ => exact p1.elim
  | st _ => exact p1.elim
  | ex _ => exact p1.elim
  | exs _ => exact p1.elim
  | dat d =>
    cases d with
    | bool k =>
      cases (show Dd X.K G1 v (.bool k) from r1)
      exact ⟨k, rfl, Post.ret m1 p1 rfl⟩
    | _ => exact p1.elim
theorem dt_cmp {op : CmpOp} {f : PyData → PyData → Option PyData} {ta tb : M VD} (ho : OpR X (compareOp op) (rD X.K f)) (ha : PD X E a ta) (hb : PD X E b tb) (hm : behindInMarks op b = false) : PDT X E (.Compare a [op] [b] pos) (tOf (eOp f ta tb)) :=
  PT.weak (pt_cmpR ho ha hb hm) fun _ _ _ q => by
    have q' := tOf_lift q
    exact opD ha hb (fun _ _ _ _ h => h) q'
theorem dt_val {t : M VD} (h : PD X E e t) (he : ∀ whole, isTrue e X.env whole = (do let v ← whole; standAt e.pos; holding [v] (truthy v)) := by intro _; rfl) : PDT X E e (tOf t) :=
  PT.weak (pt_val h he) fun _ _ _ q => tOf_lift q
/-- and, or, not as tests -/
def tAndD (t u : M Bool) : M Bool := do let c ← t; if c then u else pure false
def tOrD (t u : M Bool) : M Bool := do let c ← t; if c then pure true else u
def tNotD (t : M Bool) : M Bool := do let c ← t; pure (!c)
variable {rest : List Expr}
theorem dw_and1 {t : M Bool} (ha : PDT X E a t) : PDW X E (.BoolOp .And [a] pos) t := pw_and1 ha
theorem dw_or1 {t : M Bool} (ha : PDT X E a t) : PDW X E (.BoolOp .Or [a] pos) t := pw_or1 ha
theorem dw_and {t u : M Bool} (ha : PDT X E a t) (hb : PDW X E (.BoolOp .And (b :: rest) pos) u) : PDW X E (.BoolOp .And (a :: b :: rest) pos) (tAndD t u) := PW.weak (pw_and ha hb) fun σ H Q q => by
  obtain ⟨F, rs, S, G, m, p⟩ := q
  refine ⟨F, rs, S, G, m, (Post.seq p).mono fun c H1 ⟨rs1, S1, G1, x, u1, m1, r1, p1⟩ => ?_⟩
  subst r1
  cases x with
  | true => exact ⟨F, rs1, S1, G1, m1, p1⟩
  | false => exact Post.ret m1 p1 rfl
theorem dw_or {t u : M Bool} (ha : PDT X E a t) (hb : PDW X E (.BoolOp .Or (b :: rest) pos) u) : PDW X E (.BoolOp .Or (a :: b :: rest) pos) (tOrD t u) := PW.weak (pw_or ha hb) fun σ H Q q => by
  obtain ⟨F, rs, S, G, m, p⟩ := q
  refine ⟨F, rs, S, G, m, (Post.seq p).mono fun c H1 ⟨rs1, S1, G1, x, u1, m1, r1, p1⟩ => ?_⟩
  subst r1
  cases x with
  | false => exact ⟨F, rs1, S1, G1, m1, p1⟩
  | true => exact Post.ret m1 p1 rfl
theorem dt_not {t : M Bool} (ha : PDT X E a t) : PDT X E (.UnaryOp .Not a pos) (tNotD t) := PT.weak (pt_not ha) fun σ H Q q => by
  obtain ⟨F, rs, S, G, m, p⟩ := q
  refine ⟨F, rs, S, G, m, (Post.seq p).mono fun c H1 ⟨rs1, S1, G1, x, u1, m1, r1, p1⟩ => ?_⟩
  subst r1
  exact Post.ret m1 p1 rfl
/-- .. as values: bools -/
def eAndD (t u : M VD) : M VD := do let c ← tOf t; if c then u else pure (.dat (.bool false))
def eOrD (t u : M VD) : M VD := do let c ← tOf t; if c then pure (.dat (.bool true)) else u
def eNotD (t : M VD) : M VD := do let c ← tOf t; pure (.dat (.bool (!c)))
/-- first a bool, then the rest -/
theorem tOf_seq {α β : Type} {Rel : List Addr → Hp → α → β → Prop} {t : M VD} {g : Bool → M α} {Q : β → Hp → Prop} (h : Post X.K X.wd X.mg E F σ Rel rs G ((tOf t >>= g) S) Q) :
    Post X.K X.wd X.mg E F σ (RdV X.K X.wd) rs G (t S) (fun v H1 => ∃ k rs1 S1 G1, v = .bl k ∧ Up rs G rs1 G1 ∧ Md X.K X.wd F rs1 S1 σ H1 G1 ∧ Post X.K X.wd X.mg E F σ Rel rs1 G1 (g k S1) Q) := by
  have e : ((tOf t >>= g) S) = ((t >>= fun x => (match x with | .dat (.bool b) => pure b | _ => M.bad : M Bool) >>= g) S) := by
    simp only [tOf, M.bind_run]
    cases t S <;> rfl
  rw [e] at h
  refine (Post.seq h).mono fun v H1 ⟨rs1, S1, G1, x, u1, m1, r1, p1⟩ => ?_
  cases x with
  | rf j => exact p1.elim
  | bag _ => exact p1.elim
  | st _ => exact p1.elim
  | ex _ => exact p1.elim
  | exs _ => exact p1.elim
  | dat d =>
    cases d with
    | bool k =>
      cases (show Dd X.K G1 v (.bool k) from r1)
      exact ⟨k, rs1, S1, G1, rfl, u1, m1, p1⟩
    | _ => exact p1.elim
theorem d_and {t u : M VD} (ha : PD X E a t) (hb : PD X E (.BoolOp .And (b :: rest) pos) u) : PD X E (.BoolOp .And (a :: b :: rest) pos) (eAndD t u) := PE.weak (pe_and ha hb) fun σ H Q q => by
  obtain ⟨F, rs, S, G, m, p⟩ := q
  refine ⟨F, rs, S, G, m, (tOf_seq p).mono fun v H1 ⟨k, rs1, S1, G1, e, u1, m1, p1⟩ => ⟨k, e, ?_⟩⟩
  cases k with
  | true => exact ⟨F, rs1, S1, G1, m1, p1⟩
  | false => exact Post.ret m1 p1 (.bl false)
theorem d_or {t u : M VD} (ha : PD X E a t) (hb : PD X E (.BoolOp .Or (b :: rest) pos) u) : PD X E (.BoolOp .Or (a :: b :: rest) pos) (eOrD t u) := PE.weak (pe_or ha hb) fun σ H Q q => by
  obtain ⟨F, rs, S, G, m, p⟩ := q
  refine ⟨F, rs, S, G, m, (tOf_seq p).mono fun v H1 ⟨k, rs1, S1, G1, e, u1, m1, p1⟩ => ⟨k, e, ?_⟩⟩
  cases k with
  | false => exact ⟨F, rs1, S1, G1, m1, p1⟩
  | true => exact Post.ret m1 p1 (.bl true)
theorem d_one {op : BoolOp} {t : M VD} (ha : PD X E a t) : PD X E (.BoolOp op [a] pos) t := pe_one ha
theorem d_not {t : M VD} (ha : PD X E a t) : PD X E (.UnaryOp .Not a pos) (eNotD t) := PE.weak (pe_not ha) fun σ H Q q => by
  obtain ⟨F, rs, S, G, m, p⟩ := q
  exact ⟨F, rs, S, G, m, (tOf_seq p).mono fun v H1 ⟨k, rs1, S1, G1, e, u1, m1, p1⟩ => ⟨k, e, Post.ret m1 p1 (.bl _)⟩⟩
def eIf (c : M Bool) (t u : M VD) : M VD := do let k ← c; if k then t else u
theorem d_if {c : Expr} {tc : M Bool} {t u : M VD} (hc : PDT X E c tc) (ha : PD X E a t) (hb : PD X E b u) : PD X E (.IfExp c a b pos) (eIf tc t u) := PE.weak (pe_ifExp hc ha hb) fun σ H Q q => by
  obtain ⟨F, rs, S, G, m, p⟩ := q
  refine ⟨F, rs, S, G, m, (Post.seq p).mono fun k H1 ⟨rs1, S1, G1, x, u1, m1, r1, p1⟩ => ?_⟩
  subst r1
  cases x with
  | true => exact ⟨F, rs1, S1, G1, m1, p1⟩
  | false => exact ⟨F, rs1, S1, G1, m1, p1⟩
end
end DL
/-! DL4: calls of defs, statements. -/
namespace DL
open PySem PySem.Spec L2 DG

/-! ### a def's promise -/
abbrev Fd := List VD → M VD
def spD (K : PySem.W.Frag) (w : World) (mg : Str → Option Value) (n : Nat) (den : Fd) : Sp := fun vs H Q E =>
  vs.length = n ∧ ∃ (F : Hp) (rs : List Addr) (ce : List (Bool × List PyData)) (G : Hp) (xs : List VD), Md K ⟨w, mg⟩ F rs ⟨[], ce⟩ [] H G ∧ RdVs K ⟨w, mg⟩ rs G xs vs ∧ Post K ⟨w, mg⟩ mg E F [] (RdV K ⟨w, mg⟩) rs G (den xs ⟨[], ce⟩) Q
/-- a def that can be called at x -/
structure Has (X : Cx) (E : XK) (x : Str) (n : Nat) (den : Fd) : Prop where
  ex : ∃ (k : Nat) (f : Addr) (fd : FuncData) (ps : List Str), FnG X.prog X.w X.K X.mg X.base k f fd ps (spD X.K X.w X.mg n den) ∧ X.A.guards = some [] ∧ Room k X.A ∧ X.mg x = some (.ref f) ∧ PySem.W.keepIn X.K (.ref f) = true ∧ Binds X.K fd ps [] ∧ Passes (L2.CX X.prog X.w) X E
def eCall (n : Nat) (den : Fd) (t : M (List VD)) : M VD := do
  let xs ← t
  chk (decide (xs.length = n))
  fun S => match den xs ⟨[], S.ce⟩ with
    | .ok (x, S') => .ok (x, ⟨S.sl, S'.ce⟩)
    | .exc x S' => .exc x ⟨S.sl, S'.ce⟩
    | .bad => .bad
section
variable {X : Cx} {E : XK} {e a b : Expr} {es : List Expr} {pos p : Pos} {x : Str}
theorem Md.back {K : PySem.W.Frag} {wl : Wd} {F : Hp} {rs rs' : List Addr} {S S' : DS} {σ : L2.St} {H H' G G' : Hp} (m : Md K wl F rs S σ H G) (u : Up rs G rs' G') (m' : Md K wl F rs' ⟨[], S'.ce⟩ [] H' G') : Md K wl F rs' ⟨S.sl, S'.ce⟩ σ H' G' :=
  m'.slots m.len fun i x h => by
    obtain ⟨v, h2, h3⟩ := m.slot i x h
    exact ⟨v, h2, RdV.up u h3⟩
theorem callPost {K : PySem.W.Frag} {wl : Wd} {mg : Str → Option Value} {F : Hp} {rs : List Addr} {G H : Hp} {σ : L2.St} {S : DS} {den : Fd} {xs : List VD} {Q : VK} (m : Md K wl F rs S σ H G)
    (h : Post K wl mg E F σ (RdV K wl) rs G (match den xs ⟨[], S.ce⟩ with
    | .ok (x, S') => R.ok (x, (⟨S.sl, S'.ce⟩ : DS))
    | .exc x S' => .exc x ⟨S.sl, S'.ce⟩
    | .bad => .bad) Q) (hs : ∀ x S', den xs ⟨[], S.ce⟩ = .ok (x, S') → S'.sl = []) : Post K wl mg E F [] (RdV K wl) rs G (den xs ⟨[], S.ce⟩) Q := by
  cases e : den xs ⟨[], S.ce⟩ with
  | ok q =>
    rw [e] at h
    intro v H' G' rs' u m' r
    have e2 : q.2.sl = [] := hs q.1 q.2 e
    have e3 : q.2 = ⟨[], q.2.ce⟩ := by cases hq : q.2; rw [hq] at e2; simp at e2; simp [e2]
    rw [e3] at m'
    exact h v H' G' rs' u (m.back u m') r
  | exc x S' => rw [e] at h; exact h
  | bad => rw [e] at h; exact h
/-- a den leaves no slots -/
def NoSl (den : Fd) : Prop := ∀ xs ce x S', den xs ⟨[], ce⟩ = .ok (x, S') → S'.sl = []
theorem d_call {n : Nat} {den : Fd} {t : M (List VD)} (hh : Has X E x n den) (hn : NoSl den) (hg : Gl X x) (ht : PDA X E (e :: es) t) (hs : starEach (e :: es) X.env = (false, eval e X.env) :: starEach es X.env := by rfl)
    (hpl : (backTo pos (starEach es X.env)).any (·.1) = false := by rfl) (hd : (x == ("__debug__" : Str)) = false := by decide) :
    PD X E (.Call (.Name x p) (e :: es) [] pos) (eCall n den t) := by
  obtain ⟨k, f, fd, ps, F1, hgd, hr, hm, hk, hb, hx⟩ := hh.ex
  refine PE.weak (pe_callG F1 hgd hr hg hm hk hb hx ht (hdb := hd) (he := hs) (hpl := hpl)) fun σ H Q q => ?_
  obtain ⟨F, rs, S, G, m, p⟩ := q
  refine ⟨F, rs, S, G, m, (Post.seq p).mono fun vs H1 ⟨rs1, S1, G1, xs, u1, m1, r1, p1⟩ => ?_⟩
  obtain ⟨hl, p2⟩ := Post.chk p1
  have hl' := RdVs.length r1
  refine ⟨by rw [← hl']; exact of_decide_eq_true hl, F, rs1, S1.ce, G1, xs, m1.cells, r1, ?_⟩
  exact callPost m1 p2 fun x S' e => hn _ _ _ _ e
theorem d_call0 {den : Fd} (hh : Has X E x 0 den) (hn : NoSl den) (hg : Gl X x) (hd : (x == ("__debug__" : Str)) = false := by decide) :
    PD X E (.Call (.Name x p) [] [] pos) (eCall 0 den (pure [])) := by
  obtain ⟨k, f, fd, ps, F1, hgd, hr, hm, hk, hb, hx⟩ := hh.ex
  refine PE.weak (pe_callG0 F1 hgd hr hg hm hk hb hx (hdb := hd)) fun σ H Q q => ?_
  obtain ⟨F, rs, S, G, m, p⟩ := q
  refine ⟨rfl, F, rs, S.ce, G, [], m.cells, trivial, ?_⟩
  exact callPost m p fun x S' e => hn _ _ _ _ e
end

/-! ### statements -/
inductive Fl where
  | nx
  | rt (x : VD)
  | bk
  | ct
abbrev MS := M Fl
section
def PostS (K : PySem.W.Frag) (wl : Wd) (mg : Str → Option Value) (E : XK) (F : Hp) (rs : List Addr) (G : Hp) (r : R (Fl × DS)) (D : Ends) : Prop :=
  match r with
  | .ok p => ∀ (σ' : L2.St) (H' G' : Hp) (rs' : List Addr), Up rs G rs' G' → Md K wl F rs' p.2 σ' H' G' → match p.1 with
    | .nx => D.nx σ' H'
    | .bk => D.bk σ' H'
    | .ct => D.ct σ' H'
    | .rt x => ∀ v, RdV K wl rs' G' x v → D.rt v H'
  | .exc x S' => ∀ (C dx : Addr) (vs : List V) (H' G' : Hp) (rs' : List Addr), Up rs G rs' G' → Md K wl F rs' ⟨[], S'.ce⟩ [] H' G' → mg x.cls = some (.ref C) → H' dx = some (.xd ((x.fs.map (·.1)).zip vs)) → DdAll K G' vs (x.fs.map (·.2)) → E (.ref C) (some dx) H'
  | .bad => False
def liftS (K : PySem.W.Frag) (wl : Wd) (mg : Str → Option Value) (E : XK) (t : MS) : TS := fun D σ H =>
  ∃ (F : Hp) (rs : List Addr) (S : DS) (G : Hp), Md K wl F rs S σ H G ∧ PostS K wl mg E F rs G (t S) D
variable {K : PySem.W.Frag} {wl : Wd} {mg : Str → Option Value} {E : XK} {F : Hp} {σ : L2.St} {rs rs1 : List Addr} {G G1 H : Hp} {D : Ends} {α β : Type} {Rel : List Addr → Hp → α → β → Prop}
theorem PostS.up (u : Up rs G rs1 G1) {r : R (Fl × DS)} (h : PostS K wl mg E F rs G r D) : PostS K wl mg E F rs1 G1 r D := by
  cases r with
  | ok p => exact fun σ' H' G' rs' u' m => h σ' H' G' rs' (u.trans u') m
  | exc x S' => exact fun C dx vs H' G' rs' u' => h C dx vs H' G' rs' (u.trans u')
  | bad => exact h
/-- first an expression, then the rest -/
theorem PostS.expr {t : M α} {g : α → MS} {S : DS} (h : PostS K wl mg E F rs G ((t >>= g) S) D) :
    Post K wl mg E F σ Rel rs G (t S) (fun (b : β) H1 => ∃ rs1 S1 G1 a, Up rs G rs1 G1 ∧ Md K wl F rs1 S1 σ H1 G1 ∧ Rel rs1 G1 a b ∧ PostS K wl mg E F rs1 G1 (g a S1) D) := by
  rw [M.bind_run] at h
  cases e : t S with
  | ok p =>
    rw [e] at h
    exact fun b H' G' rs' u m r => ⟨rs', p.2, G', p.1, u, m, r, PostS.up u h⟩
  | exc x S' => rw [e] at h; exact h
  | bad => rw [e] at h; exact h
end
def sSeq (t u : MS) : MS := do
  let f ← t
  match f with
  | .nx => u
  | f => pure f
def sNil : MS := pure .nx
abbrev PDS (X : Cx) (E : XK) (st : Stmt) (t : MS) : Prop := PS X st (liftS X.K X.wd X.mg E t)
abbrev PDSs (X : Cx) (E : XK) (st : List Stmt) (t : MS) : Prop := PSs X st (liftS X.K X.wd X.mg E t)
section
variable {X : Cx} {E : XK} {e : Expr} {st : Stmt} {rest : List Stmt} {pos pos' : Pos} {x : Str}
theorem s_nil : PDSs X E [] sNil := PSs.weak pss_nil fun D σ H q => by
  obtain ⟨F, rs, S, G, m, p⟩ := q
  exact p σ H G rs Up.refl m
theorem s_one {t : MS} (h : PDS X E st t) : PDSs X E [st] t := pss_one h
theorem s_cons {t u : MS} (h1 : PDS X E st t) (h2 : PDSs X E rest u) : PDSs X E (st :: rest) (sSeq t u) := PSs.weak (pss_cons h1 h2) fun D σ H q => by
  obtain ⟨F, rs, S, G, m, p⟩ := q
  refine ⟨F, rs, S, G, m, ?_⟩
  unfold sSeq at p
  rw [M.bind_run] at p
  cases e : t S with
  | ok q =>
    rw [e] at p
    obtain ⟨f, S'⟩ := q
    intro σ' H' G' rs' u' m'
    cases f with
    | nx => exact ⟨F, rs', S', G', m', PostS.up u' p⟩
    | bk => exact p σ' H' G' rs' u' m'
    | ct => exact p σ' H' G' rs' u' m'
    | rt x => exact p σ' H' G' rs' u' m'
  | exc x S' => rw [e] at p; exact p
  | bad => rw [e] at p; exact p
/-! targets -/
def setSl (i : Nat) (x : VD) : M Unit := fun S => .ok ((), { S with sl := S.sl.set i (some x) })
def sSet (i : Nat) (t : M VD) : MS := do let x ← t; setSl i x; pure .nx
theorem s_set (i : Nat) {t : M VD} (hN : X.N.Nodup) (he : PD X E e t) (hi : X.N[i]? = some x := by rfl) (hx : Loc X.env.scope x := by first | exact Or.inl rfl | exact Or.inr rfl) (hs : swapsWith e (some (.Name x pos')) pos.line X.env = pure false := by rfl) (hf : X.fn x = true ∨ X.env.scope.names.lookup x = some .local := by first | exact .inl rfl | exact .inr rfl) :
    PDS X E (.Assign [.Name x pos'] e pos) (sSet i t) := PS.weak (ps_set hN hi hx he hs hf) fun D σ H q => by
  obtain ⟨F, rs, S, G, m, p⟩ := q
  refine ⟨F, rs, S, G, m, (PostS.expr p).mono fun v H1 ⟨rs1, S1, G1, y, u1, m1, r1, p1⟩ => ?_⟩
  exact p1 _ H1 G1 rs1 Up.refl (m1.store r1)
/-- the same but at the slots is -/
def Off (is : List Nat) (σ σ' : L2.St) : Prop := σ'.length = σ.length ∧ ∀ k, k ∉ is → σ'[k]? = σ[k]?
theorem Off.refl {is : List Nat} {σ : L2.St} : Off is σ σ := ⟨rfl, fun _ _ => rfl⟩
theorem Off.trans {is js : List Nat} {σ σ1 σ2 : L2.St} (a : Off is σ σ1) (b : Off js σ1 σ2) : Off (is ++ js) σ σ2 := ⟨b.1.trans a.1, fun k h => (b.2 k fun z => h (List.mem_append_right _ z)).trans (a.2 k fun z => h (List.mem_append_left _ z))⟩
theorem Off.set {i : Nat} {σ : L2.St} {v : Option V} : Off [i] σ (σ.set i v) := ⟨by simp, fun k h => List.getElem?_set_ne (fun z => h (by simp [z]))⟩
/-- a target that takes a value -/
def PostU (K : PySem.W.Frag) (wl : Wd) (F : Hp) (rs : List Addr) (G : Hp) (is : List Nat) (σ : L2.St) (r : R (Unit × DS)) (Q : L2.St → Hp → Prop) : Prop :=
  match r with
  | .ok p => ∀ (σ' : L2.St) (H' G' : Hp) (rs' : List Addr), Up rs G rs' G' → Md K wl F rs' p.2 σ' H' G' → Off is σ σ' → Q σ' H'
  | _ => False
def liftG (K : PySem.W.Frag) (wl : Wd) (is : List Nat) (g : VD → M Unit) : TG := fun v σ H Q => ∃ (F : Hp) (rs : List Addr) (S : DS) (G : Hp) (x : VD), Md K wl F rs S σ H G ∧ RdV K wl rs G x v ∧ PostU K wl F rs G is σ (g x S) Q
abbrev PDG (X : Cx) (is : List Nat) (tg : Expr) (g : VD → M Unit) : Prop := PG X tg (liftG X.K X.wd is g)
def PDGs (X : Cx) (is : List Nat) (tgs : List Expr) (g : List PyData → M Unit) : Prop := PGs X tgs (fun vs σ H Q => ∃ (F : Hp) (rs : List Addr) (S : DS) (G : Hp) (ds : List PyData), Md X.K X.wd F rs S σ H G ∧ DdAll X.K G vs ds ∧ PostU X.K X.wd F rs G is σ (g ds S) Q)
theorem PG.weak {tg : Expr} {t t' : TG} (h : PG X tg t) (k : ∀ v σ H Q, t' v σ H Q → t v σ H Q) : PG X tg t' := ⟨fun pins s σ H v u Q I r q => h.run pins s σ H v u Q I r (k _ _ _ _ q)⟩
theorem PGs.weak {tgs : List Expr} {t t' : TGs} (h : PGs X tgs t) (k : ∀ v σ H Q, t' v σ H Q → t v σ H Q) : PGs X tgs t' := ⟨fun pins s σ H v u Q I r q => h.run pins s σ H v u Q I r (k _ _ _ _ q)⟩
theorem g_name (i : Nat) (hN : X.N.Nodup) (hi : X.N[i]? = some x := by rfl) (hx : Loc X.env.scope x := by first | exact Or.inl rfl | exact Or.inr rfl) (hf : X.fn x = true ∨ X.env.scope.names.lookup x = some .local := by first | exact .inl rfl | exact .inr rfl) :
    PDG X [i] (.Name x pos) (setSl i) := PG.weak (pg_name hN hi hx hf) fun v σ H Q q => by
  obtain ⟨F, rs, S, G, x, m, r, p⟩ := q
  exact p _ H G rs Up.refl (m.store r) Off.set
def gNilD : List PyData → M Unit
  | [] => pure ()
  | _ => M.bad
def gConsD (g : VD → M Unit) (gs : List PyData → M Unit) : List PyData → M Unit
  | d :: ds => do g (.dat d); gs ds
  | [] => M.bad
theorem g_nil : PDGs X [] [] gNilD := PGs.weak pgs_nil fun v σ H Q q => by
  obtain ⟨F, rs, S, G, ds, m, r, p⟩ := q
  cases r with
  | nil => exact ⟨rfl, p σ H G rs Up.refl m Off.refl⟩
  | cons _ _ => exact p.elim
theorem g_cons {es : List Expr} {g : VD → M Unit} {gs : List PyData → M Unit} {is js : List Nat} (h1 : PDG X is e g) (h2 : PDGs X js es gs) (hs : (assignEach (e :: es) X.env).map (·.2) = assign e X.env :: (assignEach es X.env).map (·.2) := by rfl) : PDGs X (is ++ js) (e :: es) (gConsD g gs) := PGs.weak (pgs_cons h1 h2 hs) fun v σ H Q q => by
  obtain ⟨F, rs, S, G, ds, m, r, p⟩ := q
  cases r with
  | nil => exact p.elim
  | @cons v0 vs d ds r1 r2 =>
    refine ⟨v0, vs, rfl, F, rs, S, G, .dat d, m, r1, ?_⟩
    unfold gConsD at p
    dsimp only at p
    rw [M.bind_run] at p
    cases e : g (.dat d) S with
    | ok q =>
      rw [e] at p
      exact fun σ' H' G' rs' u' m' o' => ⟨F, rs', q.2, G', ds, m', DdAll.same u'.2 _ _ r2, by
        have p' : PostU X.K X.wd F rs G (is ++ js) σ (gs ds q.2) Q := p
        revert p'
        cases gs ds q.2 with
        | ok w => exact fun p' σ'' H'' G'' rs'' u'' m'' o'' => p' σ'' H'' G'' rs'' (u'.trans u'') m'' (o'.trans o'')
        | exc _ _ => exact fun p' => p'
        | bad => exact fun p' => p'⟩
    | exc _ _ => rw [e] at p; exact p.elim
    | bad => rw [e] at p; exact p.elim
def gTupD (n : Nat) (gs : List PyData → M Unit) : VD → M Unit
  | .dat (.tuple ds) => do chk (decide (ds.length = n)); gs ds
  | _ => M.bad
theorem g_tup {es : List Expr} {k n : Nat} {gs : List PyData → M Unit} {is : List Nat} (hc : X.calm = true) (h : PDGs X is es gs) (hn : (assignEach es X.env).length = n := by rfl) (hst : (assignEach es X.env).findIdx? (·.1) = none := by rfl) : PDG X is (.Tuple es k pos) (gTupD n gs) :=
  PG.weak (pg_tup hc h hn hst) fun v σ H Q q => by
  obtain ⟨F, rs, S, G, x, m, r, p⟩ := q
  cases x with
  | rf j => exact p.elim
  | bag _ => exact p.elim
  | st _ => exact p.elim
  | ex _ => exact p.elim
  | exs _ => exact p.elim
  | dat d =>
    cases d with
    | tuple ds =>
      cases (show Dd X.K G v (.tuple ds) from r) with
      | tup hs ha =>
        unfold gTupD at p
        dsimp only at p
        rw [M.bind_run] at p
        by_cases hl : ds.length = n
        · unfold chk at p
          rw [decide_eq_true hl] at p
          exact ⟨_, _, rfl, Same.sqt m.sub hs, (DdAll.length ha).trans hl, F, rs, S, G, ds, m, ha, p⟩
        · unfold chk at p
          rw [decide_eq_false hl] at p
          exact p.elim
    | _ => exact p.elim
def noX (t : M Unit) : MS := fun S => match t S with
  | .ok p => .ok (.nx, p.2)
  | _ => .bad
def sAsg (t : M VD) (g : VD → M Unit) : MS := do let x ← t; noX (g x)
theorem s_asg {tg : Expr} {t : M VD} {g : VD → M Unit} {is : List Nat} (he : PD X E e t) (hg : PDG X is tg g) (hs : swapsWithSole [tg] e pos.line X.env = pure false := by rfl) (hw : swappedStores [tg] e X.env = pure none := by rfl)
    (h1 : (assignEach [tg] X.env).map (·.2) = [assign tg X.env] := by rfl) : PDS X E (.Assign [tg] e pos) (sAsg t g) := PS.weak (ps_asg he hg hs hw h1) fun D σ H q => by
  obtain ⟨F, rs, S, G, m, p⟩ := q
  refine ⟨F, rs, S, G, m, (PostS.expr p).mono fun v H1 ⟨rs1, S1, G1, y, u1, m1, r1, p1⟩ => ⟨F, rs1, S1, G1, y, m1, r1, ?_⟩⟩
  unfold noX at p1
  cases e : g y S1 with
  | ok q => rw [e] at p1; exact fun σ' H' G' rs' u' m' _ => p1 σ' H' G' rs' u' m'
  | exc _ _ => rw [e] at p1; exact p1.elim
  | bad => rw [e] at p1; exact p1.elim
def sRet (t : M VD) : MS := do let x ← t; pure (.rt x)
theorem s_ret {t : M VD} (he : PD X E e t) : PDS X E (.Return (some e) pos) (sRet t) := PS.weak (ps_ret he) fun D σ H q => by
  obtain ⟨F, rs, S, G, m, p⟩ := q
  exact ⟨F, rs, S, G, m, (PostS.expr p).mono fun v H1 ⟨rs1, S1, G1, y, u1, m1, r1, p1⟩ => p1 σ H1 G1 rs1 Up.refl m1 v r1⟩
def sExp (t : M VD) : MS := do let _ ← t; pure .nx
theorem s_exp {t : M VD} (he : PD X E e t) (hs : swapsWith e none pos.line X.env = pure false := by rfl) : PDS X E (.Expr e pos) (sExp t) := PS.weak (ps_expr he hs) fun D σ H q => by
  obtain ⟨F, rs, S, G, m, p⟩ := q
  exact ⟨F, rs, S, G, m, (PostS.expr p).mono fun v H1 ⟨rs1, S1, G1, y, u1, m1, r1, p1⟩ => p1 σ H1 G1 rs1 Up.refl m1⟩
def sIf (c : M Bool) (t u : MS) : MS := do let b ← c; if b then t else u
theorem s_if {c : Expr} {tc : M Bool} {A B : List Stmt} {t u : MS} (hc : PDT X E c tc) (ha : PDSs X E A t) (hb : PDSs X E B u) : PDS X E (.If c A B pos) (sIf tc t u) := PS.weak (ps_if hc ha hb) fun D σ H q => by
  obtain ⟨F, rs, S, G, m, p⟩ := q
  refine ⟨F, rs, S, G, m, (PostS.expr p).mono fun k H1 ⟨rs1, S1, G1, y, u1, m1, r1, p1⟩ => ?_⟩
  subst r1
  cases y with
  | true => exact ⟨F, rs1, S1, G1, m1, p1⟩
  | false => exact ⟨F, rs1, S1, G1, m1, p1⟩
end
end DL
/-! DL5: bodies of defs, loops, comprehensions. -/
namespace DL
open PySem PySem.Spec L2

/-! ### a def's body -/
section
variable {K : PySem.W.Frag} {wl : Wd} {F : Hp} {rs : List Addr} {S : DS} {σ : L2.St} {H G : Hp} {ce : List (Bool × List PyData)}
/-- the elder cells alone -/
theorem Md.pre {more : List Addr} {n : Nat} (m : Md K wl F (rs ++ more) S σ H G) (hn : rs.length = n) : Md K wl F rs ⟨[], S.ce.take n⟩ [] H G where
  len := rfl
  sub := m.sub
  frm := m.frm
  rl := by
    have := m.rl
    simp only [List.length_append] at this
    rw [List.length_take]
    omega
  nd := (List.nodup_append.mp m.nd).1
  cel := fun j a c h1 h2 => by
    have hj := (List.getElem?_eq_some_iff.mp h1).1
    refine m.cel j a c (by rw [List.getElem?_append_left hj]; exact h1) ?_
    rw [List.getElem?_take] at h2
    split at h2
    · exact h2
    · cases h2
  slot := fun i x h => by simp at h
/-- .. and one of the younger ones -/
theorem Md.pre1 {more : List Addr} {n j : Nat} {a : Addr} {c : Bool × List PyData} (m : Md K wl F (rs ++ more) S σ H G) (hn : rs.length = n) (hj : n ≤ j) (ha : (rs ++ more)[j]? = some a) (hc : S.ce[j]? = some c) :
    Md K wl F (rs ++ [a]) ⟨[], S.ce.take n ++ [c]⟩ [] H G := by
  have m0 := m.pre hn
  have hl : (S.ce.take n).length = n := by have := m0.rl; simp only at this; omega
  refine ⟨rfl, m.sub, m.frm, by simp [hl, hn], ?_, fun i b d h1 h2 => ?_, fun i x h => by simp at h⟩
  · rw [List.nodup_append]
    refine ⟨m0.nd, by simp, fun x hx y hy => ?_⟩
    have e : y = a := by simpa using hy
    subst e
    obtain ⟨i, hi, e⟩ := List.getElem_of_mem hx
    exact m.nd_ne (by rw [List.getElem?_append_left hi, List.getElem?_eq_getElem hi, e]) ha (by omega)
  · by_cases hi : i < rs.length
    · rw [List.getElem?_append_left hi] at h1
      rw [List.getElem?_append_left (by rw [hl, ← hn]; exact hi)] at h2
      exact m0.cel i b d h1 h2
    · have hi' : i = rs.length := by
        have := (List.getElem?_eq_some_iff.mp h1).1
        simp at this
        omega
      subst hi'
      rw [List.getElem?_append_right (Nat.le_refl _)] at h1
      rw [List.getElem?_append_right (by rw [hl, hn]; exact Nat.le_refl _)] at h2
      simp at h1
      simp [hl, hn] at h2
      subst h1 h2
      exact m.cel j a c ha hc
end
/-- at a def's end only the elder cells and the result stay -/
def gc (n : Nat) (x : VD) (ce : List (Bool × List PyData)) : R (VD × DS) := match x with
  | .dat d => .ok (.dat d, ⟨[], ce.take n⟩)
  | .rf j => if j < n then .ok (.rf j, ⟨[], ce.take n⟩) else match ce[j]? with
    | some c => .ok (.rf n, ⟨[], ce.take n ++ [c]⟩)
    | none => .bad
  | .bag _ => .bad
  | .st _ => .bad
  | .ex e => .ok (.ex e, ⟨[], ce.take n⟩)
  | .exs _ => .bad
def runF (N : Nat) (body : MS) : Fd := fun xs S0 => match body ⟨xs.map some ++ List.replicate (N - xs.length) none, S0.ce⟩ with
  | .ok (.rt x, S') => gc S0.ce.length x S'.ce
  | .ok (.nx, S') => gc S0.ce.length (.dat .none) S'.ce
  | .ok (_, _) => .bad
  | .exc x S' => .exc x ⟨[], S'.ce.take S0.ce.length⟩
  | .bad => .bad
theorem runF_nosl (N : Nat) (body : MS) : NoSl (runF N body) := by
  intro xs ce x S' h
  have g : ∀ (n : Nat) (y : VD) (c : List (Bool × List PyData)), gc n y c = .ok (x, S') → S'.sl = [] := by
    intro n y c e
    cases y with
    | dat d => cases e; rfl
    | rf j =>
      unfold gc at e
      dsimp only at e
      split at e
      · cases e; rfl
      · split at e
        · cases e; rfl
        · cases e
    | bag _ => cases e
    | st _ => cases e
    | ex _ => cases e; rfl
    | exs _ => cases e
  unfold runF at h
  split at h
  · exact g _ _ _ h
  · exact g _ _ _ h
  · cases h
  · cases h
  · cases h
theorem gcPost {K : PySem.W.Frag} {wl : Wd} {mg : Str → Option Value} {E : XK} {F : Hp} {rs rs' : List Addr} {S' : DS} {σ' : L2.St} {H' G G' : Hp} {n : Nat} {x : VD} {v : V} {Q : VK} (u : Up rs G rs' G') (m : Md K wl F rs' S' σ' H' G') (r : RdV K wl rs' G' x v) (hn : rs.length = n)
    (h : Post K wl mg E F [] (RdV K wl) rs G (gc n x S'.ce) Q) : Q v H' := by
  obtain ⟨⟨more, rfl⟩, sg⟩ := u
  cases x with
  | dat d => exact h v H' G' rs ⟨⟨[], by simp⟩, sg⟩ (m.pre hn) r
  | bag _ => exact h.elim
  | st _ => exact h.elim
  | ex e => exact h v H' G' rs ⟨⟨[], by simp⟩, sg⟩ (m.pre hn) r
  | exs _ => exact h.elim
  | rf j =>
    obtain ⟨a, ha, rfl⟩ := r
    unfold gc at h
    dsimp only at h
    by_cases hj : j < n
    · rw [if_pos hj] at h
      exact h (.ref a) H' G' rs ⟨⟨[], by simp⟩, sg⟩ (m.pre hn) ⟨a, by rw [List.getElem?_append_left (by omega)] at ha; exact ha, rfl⟩
    · rw [if_neg hj] at h
      cases e : S'.ce[j]? with
      | none => rw [e] at h; exact h.elim
      | some c =>
        rw [e] at h
        exact h (.ref a) H' G' (rs ++ [a]) ⟨⟨[a], rfl⟩, sg⟩ (m.pre1 hn (by omega) ha e) ⟨a, by rw [List.getElem?_append_right (by omega)]; simp [hn], rfl⟩
section
variable {P : Program} {w : World} {K : PySem.W.Frag} {wl : Wd} {mg : Str → Option Value} {base : Heap}
theorem rdvs_get {K : PySem.W.Frag} {wl : Wd} {rs : List Addr} {G : Hp} : ∀ {xs : List VD} {vs : List V} {i : Nat} {x : VD}, RdVs K wl rs G xs vs → xs[i]? = some x → ∃ v, vs[i]? = some v ∧ RdV K wl rs G x v
  | [], [], _, _, _, e => by simp at e
  | y :: xs, v :: vs, 0, x, h, e => by simp at e; subst e; exact ⟨v, rfl, h.1⟩
  | y :: xs, v :: vs, i + 1, x, h, e => by
    obtain ⟨w, h1, h2⟩ := rdvs_get (i := i) (x := x) h.2 (by simpa using e)
    exact ⟨w, by simpa using h1, h2⟩
  | [], _ :: _, _, _, h, _ => h.elim
  | _ :: _, [], _, _, h, _ => h.elim
/-- THE RULE for a def -/
theorem fn_ok {x qual : Str} {st : Stmt} {f : Addr} {fd : FuncData} {N ps : List Str} {k : Nat} {body : MS} (Fn : Fun K x qual st f fd) (Sc : FnScope N ps (defScope st))
    (hbody : ∀ (cdv : Value) (A : Around) (outer : List Env) (s : Shared) (H : Hp) (E : XK), A.guards = some [] → Room k (A.deeper (PyProof.Rows.envOfC qual (defScope st) s.heap.objs.size f cdv)) →
      PDSs (cxOf (L2.CX P w) P w K mg base N qual (defScope st) f cdv A outer s H E) E (defBody st) body) : DG.FnG P w K mg base (k + 1) f fd ps (spD K w mg ps.length (runF N.length body)) := by
  refine DG.FnG.of Fn Sc (fun vs H Q E h => h.1) fun cdv A outer s H vs Q E hgd hr h => ?_
  refine ⟨_, hbody cdv A outer s H E hgd hr, ?_⟩
  obtain ⟨hl, F, rs, ce, G, xs, m, r, p⟩ := h
  have hxl := RdVs.length r
  refine ⟨F, rs, ⟨xs.map some ++ List.replicate (N.length - xs.length) none, ce⟩, G, m.slots (by simp [L2.start, hxl]) fun i x h => ?_, ?_⟩
  · by_cases hi : i < xs.length
    · rw [List.getElem?_append_left (by simpa using hi), List.getElem?_map] at h
      cases e : xs[i]? with
      | none => rw [e] at h; simp at h
      | some y =>
        rw [e] at h
        simp at h
        subst h
        obtain ⟨v, h1, h2⟩ := rdvs_get r e
        refine ⟨v, ?_, h2⟩
        unfold L2.start
        rw [List.getElem?_append_left (by simp; omega), List.getElem?_map, h1]
        rfl
    · rw [List.getElem?_append_right (by simp; omega)] at h
      rw [List.getElem?_replicate] at h
      split at h
      · cases h
      · cases h
  · unfold runF at p
    dsimp only at p
    have hn : rs.length = ce.length := m.rl
    cases e : body ⟨xs.map some ++ List.replicate (N.length - xs.length) none, ce⟩ with
    | ok q =>
      obtain ⟨f, S'⟩ := q
      rw [e] at p
      intro σ' H' G' rs' u' m'
      cases f with
      | nx => exact gcPost (x := .dat .none) u' m' .non hn p
      | rt x => exact fun v rv => gcPost u' m' rv hn p
      | bk => exact p.elim
      | ct => exact p.elim
    | exc x S' =>
      rw [e] at p
      intro C dx vs' H' G' rs' u' m' h1 h2 h3
      obtain ⟨⟨more, rfl⟩, sg⟩ := u'
      exact p C dx vs' H' G' rs ⟨⟨[], by simp⟩, sg⟩ (m'.pre hn) h1 h2 h3
    | bad => rw [e] at p; exact p.elim
end

/-! ### what a for walks -/
structure SrcOk (K : PySem.W.Frag) (J : It) (G0 : Hp) (ds : List PyData) : Prop where
  stop : ∀ (H G : Hp), Same G0 G → Same G H → J.stop ds.length H
  go : ∀ (i : Nat) (H G : Hp), i < ds.length → Same G0 G → Same G H → J.go i H
  yld : ∀ (i : Nat) (H G : Hp) (x : V) (H' : Hp), i < ds.length → Same G0 G → Same G H → J.yld i H x H' → ∃ d, ds[i]? = some d ∧ ((H' = H ∧ Dd K G x d) ∨ ∃ T o, H T = none ∧ H' = upd H T o ∧ Dd K (upd G T o) x d)
abbrev PDI (X : Cx) (E : XK) (tg iter : Expr) (src : M (List PyData)) : Prop := PI X tg iter (lift X.K X.wd X.mg E (fun _ G ds J => SrcOk X.K J G ds) src)
section
variable {K : PySem.W.Frag} {wl : Wd} {G : Hp} {a : Addr} {vs : List V} {ds : List PyData}
theorem src_list (hs : SqL K G a vs) (hd : DdAll K G vs ds) (inj : ∀ (H : Hp) (xs ys : List V), SqL K H a xs → SqL K H a ys → xs = ys) : SrcOk K (Itl K a) G ds where
  stop := fun H G1 s1 s2 => ⟨vs, Same.seq s2 (Same.seq s1 hs), Nat.le_of_eq (DdAll.length hd)⟩
  go := fun i H G1 hi s1 s2 => by
    have hi' : i < vs.length := by rw [DdAll.length hd]; exact hi
    exact ⟨vs, vs[i], Same.seq s2 (Same.seq s1 hs), List.getElem?_eq_getElem hi'⟩
  yld := fun i H G1 x H' hi s1 s2 y => by
    obtain ⟨e, y⟩ := y
    obtain ⟨d, h1, h2⟩ := DdAll.get hd (y vs (Same.seq s2 (Same.seq s1 hs)))
    exact ⟨d, h1, .inl ⟨e, Dd.same s1 _ _ h2⟩⟩
theorem src_tup (hs : SqT K G a vs) (hd : DdAll K G vs ds) : SrcOk K (Itt K a) G ds where
  stop := fun H G1 s1 s2 => ⟨vs, Same.sqt s2 (Same.sqt s1 hs), Nat.le_of_eq (DdAll.length hd)⟩
  go := fun i H G1 hi s1 s2 => by
    have hi' : i < vs.length := by rw [DdAll.length hd]; exact hi
    exact ⟨vs, vs[i], Same.sqt s2 (Same.sqt s1 hs), List.getElem?_eq_getElem hi'⟩
  yld := fun i H G1 x H' hi s1 s2 y => by
    obtain ⟨e, y⟩ := y
    obtain ⟨d, h1, h2⟩ := DdAll.get hd (y vs (Same.sqt s2 (Same.sqt s1 hs)))
    exact ⟨d, h1, .inl ⟨e, Dd.same s1 _ _ h2⟩⟩
end
def rngD (lo : Int) (n : Nat) : List PyData := (List.range n).map fun i => .int (lo + (i : Nat))
theorem src_rng {K : PySem.W.Frag} {G : Hp} (lo : Int) (n : Nat) : SrcOk K (Itr lo n) G (rngD lo n) where
  stop := fun H G1 _ _ => by show n ≤ (rngD lo n).length; simp [rngD]
  go := fun i H G1 hi _ _ => by
    show i < n
    simpa [rngD] using hi
  yld := fun i H G1 x H' hi s1 s2 y => by
    obtain ⟨e, y⟩ := y
    subst y
    have hi' : i < n := by simpa [rngD] using hi
    refine ⟨.int (lo + (i : Nat)), ?_, .inl ⟨e, .int _⟩⟩
    simp [rngD, List.getElem?_range hi']
def asSeq (d : PyData) : Option (List PyData) := match d with
  | .list ds => some ds
  | .tuple ds => some ds
  | _ => none
def srcSeq (t : M VD) : M (List PyData) := do let x ← t; let d ← toD x; ofO (asSeq d)
def srcRng (t : M VD) : M (List PyData) := do
  let x ← t
  match x with
  | .dat (.int j) => do chk (decide (-(2 ^ 62) ≤ j ∧ j < 2 ^ 62)); pure (rngD 0 j.toNat)
  | _ => M.bad
section
variable {X : Cx} {E : XK} {tg iter l : Expr} {p pos : Pos}
theorem i_seq {t : M VD} (hl : PD X E l t) : PDI X E tg l (srcSeq t) := by
  refine ⟨fun pins s σ H R I h => ?_⟩; obtain ⟨F, rs, S, G, m, p⟩ := h
  refine thn (hl.run pins s σ H _ I ⟨F, rs, S, G, m, Post.seq p⟩) fun v s1 ⟨x, H1, I1, r1, rs1, S1, G1, xd, u1, m1, rx, p1⟩ => ?_
  obtain ⟨d, S2, G2, sg, m2, rd, p2⟩ := m1.toD rx p1
  obtain ⟨ds, hds, p3⟩ := Post.ofO' p2
  cases d with
  | list es =>
    cases hds
    cases rd with
    | @lst a xs _ hs ha =>
      cases r1
      have hq : SqL X.K H1 a xs := .inl (Same.rd m2.sub hs); obtain ⟨its, rv, p', hz⟩ := I1.list hq
      refine wpAny_pyIter_list p'.isList ?_
      refine ⟨s1.heap.objs.size, [s1.heap.objs.size], _, Itl X.K a, H1, rfl, I1.kept (t' := s1.toks) fun b o e => Heap.get?_push_of_some _ e, turn_list a _, ⟨_, Heap.get?_push_size _ rfl, rfl, rfl⟩, fun b hb => ?_, ?_⟩
      · have e : b = s1.heap.objs.size := by simpa using hb
        subst e; exact I1.fpOk (Nat.le_refl _) (I1.hok.fresh (Nat.le_refl _))
      · refine p3 (Itl X.K a) H1 G2 rs1 Up.refl m2 ⟨fun H G1 s1 s2 => ⟨xs, .inl (Same.rd s2 (Same.rd s1 hs)), Nat.le_of_eq (DdAll.length ha)⟩, fun i H G1 hi s1 s2 => ?_, fun i H G1 x H' hi s1 s2 y => ?_⟩
        · have hi' : i < xs.length := by rw [DdAll.length ha]; exact hi
          exact ⟨xs, xs[i], .inl (Same.rd s2 (Same.rd s1 hs)), List.getElem?_eq_getElem hi'⟩
        · obtain ⟨e, y⟩ := y
          obtain ⟨d, h1, h2⟩ := DdAll.get ha (y xs (.inl (Same.rd s2 (Same.rd s1 hs))))
          exact ⟨d, h1, .inl ⟨e, Dd.same s1 _ _ h2⟩⟩
  | tuple es =>
    cases hds
    cases rd with
    | @tup a xs _ hs ha =>
      cases r1
      have hq : SqT X.K H1 a xs := Same.sqt m2.sub hs
      obtain ⟨its, rv, p', hz⟩ := I1.tuple hq
      refine wpAny_pyIter_tuple (show s1.heap.IsTuple a its.toArray from p') ?_
      refine ⟨s1.heap.objs.size, [s1.heap.objs.size], _, Itt X.K a, H1, rfl, I1.kept (t' := s1.toks) fun b o e => Heap.get?_push_of_some _ e, turn_tuple a _, ⟨_, Heap.get?_push_size _ rfl, rfl, rfl⟩, fun b hb => ?_, ?_⟩
      · have e : b = s1.heap.objs.size := by simpa using hb
        subst e; exact I1.fpOk (Nat.le_refl _) (I1.hok.fresh (Nat.le_refl _))
      · exact p3 (Itt X.K a) H1 G2 rs1 Up.refl m2 (src_tup hs ha)
  | _ => cases hds
theorem PI.weak {w w' : TI} (h : PI X tg iter w) (k : ∀ σ H R, w' σ H R → w σ H R) : PI X tg iter w' := ⟨fun pins s σ H R I q => h.run pins s σ H R I (k _ _ _ q)⟩
theorem i_rng {a : Expr} {t : M VD} (hg : Gl X "range") (hm : X.mg "range" = none) (ha : PD X E a t) (hs : starEach [a] X.env = [(false, eval a X.env)] := by rfl) : PDI X E tg (.Call (.Name "range" p) [a] [] pos) (srcRng t) :=
  PI.weak (pi_range1 hg hm (pa_cons ha pa_nil (by rw [hs]; rfl)) hs) fun σ H R q => by
  obtain ⟨F, rs, S, G, m, p⟩ := q
  refine ⟨F, rs, S, G, m, (Post.seq p).mono fun v H1 ⟨rs1, S1, G1, x, u1, m1, r1, p1⟩ => ?_⟩
  cases x with
  | rf j => exact p1.elim
  | bag _ => exact p1.elim
  | st _ => exact p1.elim
  | ex _ => exact p1.elim
  | exs _ => exact p1.elim
  | dat d =>
    cases d with
    | int j =>
      cases (show Dd X.K G1 v (.int j) from r1)
      obtain ⟨hb, p2⟩ := Post.chk p1
      have hb' := of_decide_eq_true hb
      exact ⟨j, rfl, hb'.1, hb'.2, p2 (Itr 0 j.toNat) H1 G1 rs1 Up.refl m1 (src_rng 0 j.toNat)⟩
    | _ => exact p1.elim
end

/-! ### for -/
def forD (g : VD → M Unit) (body : MS) : List PyData → MS
  | [] => pure .nx
  | d :: ds => do
    let _ ← noX (g (.dat d))
    let f ← body
    match f with
    | .nx => forD g body ds
    | .ct => forD g body ds
    | .bk => pure .nx
    | .rt x => pure (.rt x)
def sFor (src : M (List PyData)) (g : VD → M Unit) (body : MS) : MS := do let ds ← src; forD g body ds
section
variable {X : Cx} {E : XK} {tg iter : Expr} {body : List Stmt} {pos : Pos}
theorem s_for {src : M (List PyData)} {g : VD → M Unit} {t : MS} (hp : PassesOwn (model X.prog X.w) X.A X.env X.xe) (hc : X.calm = true) (hi : PDI X E tg iter src) {is : List Nat} (hg : PDG X is tg g) (hb : PDSs X E body t)
    (hs : ∀ x, foldedSetIterable iter X.env x = pure x := by intro _; rfl) : PDS X E (.For tg iter body [] pos) (sFor src g t) := PS.weak (ps_for hp hc hi hg hb hs) fun D σ H q => by
  obtain ⟨F, rs, S, G, m, p⟩ := q
  refine ⟨F, rs, S, G, m, (PostS.expr p).mono fun J H1 ⟨rs1, S1, G1, ds, u1, m1, r1, p1⟩ => ?_⟩
  refine ⟨fun i n σ' H' => n = ds.length - i ∧ i ≤ ds.length ∧ ∃ rs2 S2 G2, Up rs1 G1 rs2 G2 ∧ Md X.K X.wd F rs2 S2 σ' H' G2 ∧ PostS X.K X.wd X.mg E F rs2 G2 (forD g t (ds.drop i) S2) D, ⟨ds.length, by simp, by simp, rs1, S1, G1, Up.refl, m1, by simpa using p1⟩, ?_⟩
  rintro i n σ' H' ⟨rfl, hi, rs2, S2, G2, u2, m2, p2⟩
  by_cases hlt : i < ds.length
  · refine .inr ⟨r1.go i H' G2 hlt u2.2 m2.sub, fun σ'' H'' => ∃ rs3 S3 G3, Up rs1 G1 rs3 G3 ∧ Md X.K X.wd F rs3 S3 σ'' H'' G3 ∧ PostS X.K X.wd X.mg E F rs3 G3 (forD g t (ds.drop (i + 1)) S3) D,
      fun σ'' H'' ⟨rs3, S3, G3, u3, m3, p3⟩ => ⟨ds.length - (i + 1), by omega, rfl, hlt, rs3, S3, G3, u3, m3, p3⟩, fun x H'' y => ?_⟩
    obtain ⟨d, hd, hy⟩ := r1.yld i H' G2 x H'' hlt u2.2 m2.sub y
    have step : ∀ G3, Same G2 G3 → Md X.K X.wd F rs2 S2 σ' H'' G3 → Dd X.K G3 x d → ∃ F' rs S G y, Md X.K X.wd F' rs S σ' H'' G ∧ RdV X.K X.wd rs G y x ∧ PostU X.K X.wd F' rs G is σ' (g y S) fun σ2 H2 =>
        liftS X.K X.wd X.mg E t { D with nx := fun σ'' H'' => ∃ rs3 S3 G3, Up rs1 G1 rs3 G3 ∧ Md X.K X.wd F rs3 S3 σ'' H'' G3 ∧ PostS X.K X.wd X.mg E F rs3 G3 (forD g t (ds.drop (i + 1)) S3) D, ct := fun σ'' H'' => ∃ rs3 S3 G3, Up rs1 G1 rs3 G3 ∧ Md X.K X.wd F rs3 S3 σ'' H'' G3 ∧ PostS X.K X.wd X.mg E F rs3 G3 (forD g t (ds.drop (i + 1)) S3) D, bk := D.nx } σ2 H2 := by
      intro G3 s3 m3 rd
      refine ⟨F, rs2, S2, G3, .dat d, m3, rd, ?_⟩
      have hdrop : ds.drop i = d :: ds.drop (i + 1) := by
        rw [List.drop_eq_getElem_cons hlt]; congr 1
        have := List.getElem?_eq_getElem hlt
        rw [hd] at this; exact (Option.some.inj this).symm
      rw [hdrop] at p2
      unfold forD at p2
      rw [M.bind_run] at p2
      unfold noX at p2
      cases e : g (.dat d) S2 with
      | exc _ _ => rw [e] at p2; exact p2.elim
      | bad => rw [e] at p2; exact p2.elim
      | ok q =>
        rw [e] at p2
        simp only [R.bind] at p2
        intro σ4 H4 G4 rs4 u4 m4 _
        refine ⟨F, rs4, q.2, G4, m4, ?_⟩
        rw [M.bind_run] at p2
        have up4 : Up rs2 G2 rs4 G4 := ⟨u4.1, L2.Same.trans s3 u4.2⟩
        cases e2 : t q.2 with
        | bad => rw [e2] at p2; exact p2.elim
        | exc x S' =>
          rw [e2] at p2
          exact PostS.up (r := .exc x S') up4 p2
        | ok w =>
          rw [e2] at p2
          obtain ⟨f, S5⟩ := w
          intro σ5 H5 G5 rs5 u5 m5
          have up5 := up4.trans u5
          cases f with
          | nx => exact ⟨rs5, S5, G5, u2.trans up5, m5, PostS.up up5 p2⟩
          | ct => exact ⟨rs5, S5, G5, u2.trans up5, m5, PostS.up up5 p2⟩
          | bk => exact p2 σ5 H5 G5 rs5 up5 m5
          | rt x => exact p2 σ5 H5 G5 rs5 up5 m5
    rcases hy with ⟨rfl, rd⟩ | ⟨T, o, hT, rfl, rd⟩
    · exact step G2 (L2.Same.refl _) m2 rd
    · exact step (upd G2 T o) (same_upd (L2.Same.free m2.sub hT)) (m2.new hT) rd
  · have e : i = ds.length := by omega
    subst e
    refine .inl ⟨r1.stop H' G2 u2.2 m2.sub, ?_⟩
    rw [List.drop_length] at p2
    exact p2 σ' H' G2 rs2 Up.refl m2
end
end DL
/-! DL6: list comprehensions. -/
namespace DL
open PySem PySem.Spec L2

abbrev Ce := List (Bool × List PyData)
def wipeD (sl : List (Option VD)) : List Nat → List (Option VD)
  | [] => sl
  | v :: vs => (wipeD sl vs).set v none
theorem Md.wipe {K : PySem.W.Frag} {wl : Wd} {F : Hp} {rs : List Addr} {S : DS} {σ : L2.St} {H G : Hp} (m : Md K wl F rs S σ H G) : ∀ vs : List Nat, Md K wl F rs ⟨wipeD S.sl vs, S.ce⟩ (L2.wipe σ vs) H G
  | [] => m
  | v :: vs => by
    have m1 := Md.wipe m vs
    refine ⟨by simp only [wipeD, L2.wipe, List.length_set]; exact m1.len, m.sub, m.frm, m.rl, m.nd, m.cel, fun i x h => ?_⟩
    simp only [wipeD] at h
    by_cases hi : i = v
    · subst hi
      have hl := (List.getElem?_eq_some_iff.mp h).1
      simp only [List.length_set] at hl
      rw [List.getElem?_set_self hl] at h
      cases h
    · rw [List.getElem?_set_ne (Ne.symm hi)] at h
      obtain ⟨w, h1, h2⟩ := m1.slot i x h
      exact ⟨w, by simp only [L2.wipe]; rw [List.getElem?_set_ne (Ne.symm hi)]; exact h1, h2⟩
theorem wipe_get {σ : L2.St} : ∀ {vs : List Nat} {k : Nat}, k ∉ vs → (L2.wipe σ vs)[k]? = σ[k]?
  | [], _, _ => rfl
  | v :: vs, k, h => by
    simp only [L2.wipe]
    rw [List.getElem?_set_ne (fun z => h (by simp [z]))]
    exact wipe_get fun z => h (List.mem_cons_of_mem _ z)
theorem wipe_none {σ : L2.St} : ∀ {vs : List Nat} {k : Nat}, k ∈ vs → k < σ.length → (L2.wipe σ vs)[k]? = some none
  | v :: vs, k, h, hl => by
    simp only [L2.wipe]
    by_cases e : k = v
    · subst e
      rw [List.getElem?_set_self (by rw [wipe_length]; exact hl)]
    · rw [List.getElem?_set_ne (Ne.symm e)]
      rcases List.mem_cons.1 h with z | z
      · exact absurd z e
      · exact wipe_none z hl
theorem wipe_off {σ σ2 : L2.St} {vs is : List Nat} (o : Off is (L2.wipe σ vs) σ2) (h : ∀ i ∈ is, i ∈ vs) : L2.wipe σ2 vs = L2.wipe σ vs := by
  apply List.ext_getElem?
  intro k
  have hl : σ2.length = σ.length := o.1.trans (wipe_length σ vs)
  by_cases hk : k ∈ vs
  · by_cases hb : k < σ.length
    · rw [wipe_none hk hb, wipe_none hk (by rw [hl]; exact hb)]
    · rw [List.getElem?_eq_none (by rw [wipe_length, hl]; omega), List.getElem?_eq_none (by rw [wipe_length]; omega)]
  · rw [wipe_get hk, o.2 k (fun z => hk (h k z))]

/-- one turn: the item, or nothing -/
def stepC (g : VD → M Unit) (tt : M Bool) (te : M VD) (d : PyData) : M (Option PyData) := do
  g (.dat d)
  let b ← tt
  if b then do
    let y ← te
    let e ← toD y
    pure (some e)
  else pure none
def lcGo (step : PyData → M (Option PyData)) (n0 : Nat) (sl0 : List (Option VD)) : List PyData → Ce → Option Ce
  | [], ce => some ce
  | d :: ds, ce => match step d ⟨sl0, ce⟩ with
    | .ok (o, S') => match S'.ce[n0]? with
      | some (true, acc) => match o with
        | some e => if acc.length < 16777216 then lcGo step n0 sl0 ds (S'.ce.take n0 ++ [(true, acc ++ [e])]) else none
        | none => lcGo step n0 sl0 ds (S'.ce.take n0 ++ [(true, acc)])
      | _ => none
    | _ => none
def eLc (vs : List Nat) (src : M (List PyData)) (step : PyData → M (Option PyData)) : M VD := do
  let ds ← src
  fun S => match lcGo step S.ce.length (wipeD S.sl vs) ds (S.ce ++ [(true, [])]) with
    | some ce => .ok (.rf S.ce.length, ⟨S.sl, ce⟩)
    | none => .bad

theorem take_set {α : Type} {l : List α} {n : Nat} {x : α} (h : n < l.length) : (l.take (n + 1)).set n x = l.take n ++ [x] := by
  apply List.ext_getElem?
  intro k
  by_cases hk : k < n
  · rw [List.getElem?_set_ne (by omega), List.getElem?_take, if_pos (by omega), List.getElem?_append_left (by simp; omega), List.getElem?_take, if_pos hk]
  · by_cases e : k = n
    · subst e
      rw [List.getElem?_set_self (by simp; omega), List.getElem?_append_right (by simp; omega)]
      simp [Nat.min_eq_left (Nat.le_of_lt h)]
    · rw [List.getElem?_eq_none (by simp; omega), List.getElem?_eq_none (by simp; omega)]
theorem take_get {α : Type} {l : List α} {n : Nat} {x : α} (h : l[n]? = some x) : l.take (n + 1) = l.take n ++ [x] := by
  rw [List.take_succ, h]; rfl

section
variable {K : PySem.W.Frag} {wl : Wd} {mg : Str → Option Value} {F : Hp} {rs : List Addr} {S : DS} {σ : L2.St} {H G : Hp}
/-- what a run that ends well shows, whatever is wanted of exceptions -/
theorem Post.okE {α β : Type} {E E' : XK} {Rel : List Addr → Hp → α → β → Prop} {r : R (α × DS)} {p : α × DS} {Q Q' : β → Hp → Prop} (e : r = .ok p) (h : ∀ (b : β) (H' G' : Hp) (rs' : List Addr), Up rs G rs' G' → Md K wl F rs' p.2 σ H' G' → Rel rs' G' p.1 b → Q b H') : Post K wl mg E F σ Rel rs G r Q := by
  rw [e]; exact h
end

section
variable {X : Cx} {E : XK} {elt tg iter : Expr} {ifs : List Expr} {scope : Scope} {own : List (Str × Nat)} {pos : Pos} {src : M (List PyData)} {g : VD → M Unit} {tt : M Bool} {te : M VD} {is : List Nat}
/-- the reading of a comprehension -/
theorem lc_lift {gr : TG} (hgr : ∀ (σ : L2.St) (H : Hp) (v : V) (Q : L2.St → Hp → Prop), (∃ (F : Hp) (rs : List Addr) (S : DS) (G : Hp) (x : VD), Md X.K X.wd F rs S σ H G ∧ RdV X.K X.wd rs G x v ∧ PostU X.K X.wd F rs G is σ (g x S) Q) → gr v σ H Q)
    (his : ∀ i ∈ is, i ∈ own.map (·.2)) {σ : L2.St} {H : Hp} {Q : VK} (q : liftE X.K X.wd X.mg E (eLc (own.map (·.2)) src (stepC g tt te)) σ H Q) :
    tLc (lift X.K X.wd X.mg E (fun _ G ds J => SrcOk X.K J G ds) src) gr (liftT X.K X.wd X.mg E0 tt) (liftE X.K X.wd X.mg E0 te) (own.map (·.2)) σ H Q := by
  obtain ⟨F, rs, S, G, m, p⟩ := q
  refine ⟨F, rs, S, G, m, (Post.seq p).mono fun J H1 ⟨rs1, S1, G1, ds, u1, m1, r1, p1⟩ => fun D hD => ?_⟩
  have m2 := m1.cell (ds := []) (vs := []) hD .nil
  have hn0 : rs1.length = S1.ce.length := m1.rl
  refine ⟨fun i n H' => n = ds.length - i ∧ i ≤ ds.length ∧ ∃ ce2 G2, Same G1 G2 ∧ Md X.K X.wd F (rs1 ++ [D]) ⟨S1.sl, ce2⟩ σ H' G2 ∧
      Post X.K X.wd X.mg E F σ (RdV X.K X.wd) rs1 G1 (match lcGo (stepC g tt te) S1.ce.length (wipeD S1.sl (own.map (·.2))) (ds.drop i) ce2 with
        | some ce => .ok (.rf S1.ce.length, ⟨S1.sl, ce⟩)
        | none => .bad) Q, ⟨ds.length, by simp, by simp, _, G1, L2.Same.refl _, m2, by simpa using p1⟩, ?_⟩
  rintro i n H' ⟨rfl, hi, ce2, G2, s2, m3, p2⟩
  by_cases hlt : i < ds.length
  · refine .inr ⟨r1.go i H' G2 hlt s2 m3.sub, fun H'' => ∃ ce3 G3, Same G1 G3 ∧ Md X.K X.wd F (rs1 ++ [D]) ⟨S1.sl, ce3⟩ σ H'' G3 ∧
      Post X.K X.wd X.mg E F σ (RdV X.K X.wd) rs1 G1 (match lcGo (stepC g tt te) S1.ce.length (wipeD S1.sl (own.map (·.2))) (ds.drop (i + 1)) ce3 with
        | some ce => .ok (.rf S1.ce.length, ⟨S1.sl, ce⟩)
        | none => .bad) Q, fun H'' ⟨ce3, G3, s3, m4, p3⟩ => ⟨ds.length - (i + 1), by omega, rfl, hlt, ce3, G3, s3, m4, p3⟩, fun x H'' y => ?_⟩
    obtain ⟨d, hd, hy⟩ := r1.yld i H' G2 x H'' hlt s2 m3.sub y
    have hdrop : ds.drop i = d :: ds.drop (i + 1) := by
      rw [List.drop_eq_getElem_cons hlt]; congr 1
      have := List.getElem?_eq_getElem hlt
      rw [hd] at this; exact (Option.some.inj this).symm
    rw [hdrop] at p2
    unfold lcGo at p2
    -- the turn ends well
    cases es : stepC g tt te d ⟨wipeD S1.sl (own.map (·.2)), ce2⟩ with
    | exc _ _ => rw [es] at p2; exact p2.elim
    | bad => rw [es] at p2; exact p2.elim
    | ok w =>
      obtain ⟨o, S'⟩ := w
      rw [es] at p2
      dsimp only at p2
      cases ea : S'.ce[S1.ce.length]? with
      | none => rw [ea] at p2; exact p2.elim
      | some c =>
        obtain ⟨live, acc⟩ := c
        cases live with
        | false => rw [ea] at p2; exact p2.elim
        | true =>
          rw [ea] at p2
          dsimp only at p2
          -- the parts of the turn
          unfold stepC at es
          rw [M.bind_run] at es
          have step : ∀ G3, Same G2 G3 → Md X.K X.wd F (rs1 ++ [D]) ⟨S1.sl, ce2⟩ σ H'' G3 → Dd X.K G3 x d → gr x (L2.wipe σ (own.map (·.2))) H'' fun σ2 H2 => L2.wipe σ2 (own.map (·.2)) = L2.wipe σ (own.map (·.2)) ∧ liftT X.K X.wd X.mg E0 tt σ2 H2 fun b H3 =>
              if b = true then liftE X.K X.wd X.mg E0 te σ2 H3 fun y H4 => ∃ accV, H4 D = some (.lst accV) ∧ accV.length < sizeLine ∧ (∃ ce3 G3, Same G1 G3 ∧ Md X.K X.wd F (rs1 ++ [D]) ⟨S1.sl, ce3⟩ σ (upd H4 D (.lst (accV ++ [y]))) G3 ∧
                Post X.K X.wd X.mg E F σ (RdV X.K X.wd) rs1 G1 (match lcGo (stepC g tt te) S1.ce.length (wipeD S1.sl (own.map (·.2))) (ds.drop (i + 1)) ce3 with
                  | some ce => .ok (.rf S1.ce.length, ⟨S1.sl, ce⟩)
                  | none => .bad) Q)
              else (∃ ce3 G3, Same G1 G3 ∧ Md X.K X.wd F (rs1 ++ [D]) ⟨S1.sl, ce3⟩ σ H3 G3 ∧
                Post X.K X.wd X.mg E F σ (RdV X.K X.wd) rs1 G1 (match lcGo (stepC g tt te) S1.ce.length (wipeD S1.sl (own.map (·.2))) (ds.drop (i + 1)) ce3 with
                  | some ce => .ok (.rf S1.ce.length, ⟨S1.sl, ce⟩)
                  | none => .bad) Q) := by
            intro G3 s3 m4 rd
            refine hgr _ _ _ _ ⟨F, _, _, G3, .dat d, m4.wipe (own.map (·.2)), rd, ?_⟩
            cases eg : g (.dat d) ⟨wipeD S1.sl (own.map (·.2)), ce2⟩ with
            | exc _ _ => rw [eg] at es; cases es
            | bad => rw [eg] at es; cases es
            | ok q =>
              rw [eg] at es
              simp only [R.bind] at es
              intro σ2 H2 G4 rs4 u4 m5 off
              refine ⟨wipe_off off his, ?_⟩
              rw [M.bind_run] at es
              cases et : tt q.2 with
              | exc _ _ => rw [et] at es; cases es
              | bad => rw [et] at es; cases es
              | ok q2 =>
                rw [et] at es
                simp only [R.bind] at es
                refine ⟨F, rs4, q.2, G4, m5, Post.okE (E' := E) (Q' := fun _ _ => True) et fun b H3 G5 rs5 u5 m6 eb => ?_⟩
                have hb : q2.1 = b := eb
                subst hb
                have upA : Up (rs1 ++ [D]) G3 rs5 G5 := u4.trans u5
                -- back to the def's own slots
                have back : ∀ (H9 G9 : Hp) (rs9 : List Addr) (S9 : DS) (σ9 : L2.St), Up (rs1 ++ [D]) G3 rs9 G9 → Md X.K X.wd F rs9 S9 σ9 H9 G9 → Md X.K X.wd F (rs1 ++ [D]) ⟨S1.sl, S9.ce.take (S1.ce.length + 1)⟩ σ H9 G9 := by
                  intro H9 G9 rs9 S9 σ9 u9 m9
                  obtain ⟨⟨more, e9⟩, sg9⟩ := u9
                  rw [e9] at m9
                  have mp := m9.pre (n := S1.ce.length + 1) (by simp [hn0])
                  refine mp.slots m4.len fun k y hk => ?_
                  obtain ⟨v, h1, h2⟩ := m4.slot k y hk
                  exact ⟨v, h1, RdV.up ⟨⟨[], by simp⟩, sg9⟩ h2⟩
                cases hq2 : q2.1 with
                | false =>
                  rw [hq2] at es
                  simp only [Bool.false_eq_true, if_false] at es ⊢
                  have es' : (none, q2.2) = (o, S') := R.ok.inj es
                  cases es'
                  dsimp only at p2
                  have mb := back H3 G5 rs5 q2.2 _ upA m6
                  rw [take_get ea] at mb
                  exact ⟨_, G5, L2.Same.trans s2 (L2.Same.trans s3 upA.2), mb, p2⟩
                | true =>
                  rw [hq2] at es
                  simp only [if_true] at es ⊢
                  rw [M.bind_run] at es
                  cases ee : te q2.2 with
                  | exc _ _ => rw [ee] at es; cases es
                  | bad => rw [ee] at es; cases es
                  | ok q3 =>
                    rw [ee] at es
                    simp only [R.bind] at es
                    refine ⟨F, rs5, q2.2, G5, m6, Post.okE (E' := E) (Q' := fun _ _ => True) ee fun yv H4 G6 rs6 u6 m7 ry => ?_⟩
                    rw [M.bind_run] at es
                    -- the item as data
                    have key : ∃ e9 S9 G9, Same G6 G9 ∧ Md X.K X.wd F rs6 S9 σ2 H4 G9 ∧ Dd X.K G9 yv e9 ∧ o = some e9 ∧ S' = S9 := by
                      cases ed : toD q3.1 q3.2 with
                      | exc _ _ => rw [ed] at es; cases es
                      | bad => rw [ed] at es; cases es
                      | ok q4 =>
                        rw [ed] at es
                        have es' : (some q4.1, q4.2) = (o, S') := R.ok.inj es
                        have pp : Post X.K X.wd X.mg (fun _ _ _ => True) F σ2 (fun _ _ (a : PyData) (b : PyData) => True) rs6 G6 ((toD q3.1 >>= fun d => (pure d : M PyData)) q3.2) (fun _ _ => True) := by
                          rw [M.bind_run, ed]
                          exact fun _ _ _ _ _ _ _ => trivial
                        cases hx : q3.1 with
                        | dat d9 =>
                          rw [hx] at ed ry
                          have e1 : (d9, q3.2) = q4 := R.ok.inj ed
                          subst e1
                          cases es'
                          exact ⟨d9, q3.2, G6, L2.Same.refl _, m7, ry, rfl, rfl⟩
                        | bag _ => rw [hx] at ed; cases ed
                        | st _ => rw [hx] at ed; cases ed
                        | ex _ => rw [hx] at ed; cases ed
                        | exs _ => rw [hx] at ed; cases ed
                        | rf j =>
                          rw [hx] at ed ry
                          obtain ⟨aa, haa, rfl⟩ := ry
                          unfold toD at ed
                          dsimp only at ed
                          cases ej : q3.2.ce[j]? with
                          | none => rw [ej] at ed; cases ed
                          | some cc =>
                            obtain ⟨bb, dss⟩ := cc
                            rw [ej] at ed
                            cases bb with
                            | true =>
                              cases ed
                              cases es'
                              obtain ⟨G9, sg9, m9, rd9⟩ := m7.freeze haa ej
                              exact ⟨_, _, G9, sg9, m9, rd9, rfl, rfl⟩
                            | false =>
                              cases ed
                              cases es'
                              obtain ⟨vs9, hv9, hd9⟩ := m7.cel j aa _ haa ej
                              exact ⟨_, _, G6, L2.Same.refl _, m7, .lst (Rd.of hv9) hd9, rfl, rfl⟩
                    obtain ⟨e9, S9, G9, sg9, m9, rd9, rfl, rfl⟩ := key
                    have upB : Up (rs1 ++ [D]) G3 rs6 G9 := upA.trans (u6.trans ⟨⟨[], by simp⟩, sg9⟩)
                    have mb := back H4 G9 rs6 S' _ upB m9
                    have hDn : (rs1 ++ [D])[S1.ce.length]? = some D := by rw [List.getElem?_append_right (by omega)]; simp [hn0]
                    have hln : S1.ce.length < S'.ce.length := (List.getElem?_eq_some_iff.mp ea).1
                    have hcn : (⟨S1.sl, S'.ce.take (S1.ce.length + 1)⟩ : DS).ce[S1.ce.length]? = some (true, acc) := by
                      show (S'.ce.take (S1.ce.length + 1))[S1.ce.length]? = some (true, acc)
                      rw [List.getElem?_take, if_pos (by omega)]
                      exact ea
                    obtain ⟨_, _, accV, hv, hdv⟩ := mb.cel _ _ _ hDn hcn
                    dsimp only at p2
                    by_cases hz : acc.length < 16777216
                    · rw [if_pos hz] at p2
                      refine ⟨accV, hv, ?_, ?_⟩
                      · rw [DdAll.length hdv, sizeLine_eq]; exact hz
                      · have mw := mb.write (ds' := acc ++ [e9]) (vs' := accV ++ [yv]) hDn hcn (DdAll.append hdv (.cons rd9 .nil))
                        dsimp only at mw
                        rw [take_set hln] at mw
                        exact ⟨_, G9, L2.Same.trans s2 (L2.Same.trans s3 upB.2), mw, p2⟩
                    · rw [if_neg hz] at p2
                      exact p2.elim
          rcases hy with ⟨rfl, rd⟩ | ⟨T, oo, hT, rfl, rd⟩
          · exact step G2 (L2.Same.refl _) m3 rd
          · exact step (upd G2 T oo) (same_upd (L2.Same.free m3.sub hT)) (m3.new hT) rd
  · have e : i = ds.length := by omega
    subst e
    refine .inl ⟨r1.stop H' G2 s2 m3.sub, ?_⟩
    rw [List.drop_length] at p2
    exact p2 (.ref D) H' G2 (rs1 ++ [D]) ⟨⟨[D], rfl⟩, s2⟩ m3 ⟨D, by rw [List.getElem?_append_right (by omega)]; simp [hn0], rfl⟩
def tYesD : M Bool := pure true
theorem d_lc (hc : X.calm = true) (hN : X.N.Nodup) (ok : BlkOk X.N X.env.scope scope own) (his : ∀ i ∈ is, i ∈ own.map (·.2)) (hi : PDI X E tg iter src)
    (hg : ∀ (s : Shared) (H : Hp) (C : Addr) (cl : List (Str × Addr)) (fp : List Addr), PDG (X.blk s H scope (compEnvC scope cl C X.env) fp) is tg g)
    (ht : ∀ (s : Shared) (H : Hp) (C : Addr) (cl : List (Str × Addr)) (fp : List Addr), PTs (X.blk s H scope (compEnvC scope cl C X.env) fp) ifs (liftT X.K X.wd X.mg E0 tt))
    (he : ∀ (s : Shared) (H : Hp) (C : Addr) (cl : List (Str × Addr)) (fp : List Addr), PD (X.blk s H scope (compEnvC scope cl C X.env) fp) E0 elt te) (hs : ∀ x, foldedSetIterable iter X.env x = pure x := by intro _; rfl) :
    PD X E (.ListComp elt [⟨tg, iter, ifs, 0⟩] scope pos) (eLc (own.map (·.2)) src (stepC g tt te)) :=
  PE.weak (pe_lc (g := liftG X.K X.wd is g) (tt := liftT X.K X.wd X.mg E0 tt) (te := liftE X.K X.wd X.mg E0 te) hc hN hi ok hg ht he hs) fun σ H Q q => lc_lift (fun _ _ _ _ h => h) his q
theorem ts_nil {E : XK} : PTs X [] (liftT X.K X.wd X.mg E tYesD) := ⟨fun pins s σ H Q I q => pts_nil.run pins s σ H Q I (by
  obtain ⟨F, rs, S, G, m, p⟩ := q
  exact Post.ret m p rfl)⟩
theorem ts_one {E : XK} {c : Expr} {t : M Bool} (h : PDT X E c t) : PTs X [c] (liftT X.K X.wd X.mg E t) := pts_one h
end
end DL
/-! DL7: operators and built-ins by data. -/
namespace DL
open PySem PySem.Spec L2

/-! ### ints -/
def fI (g : Int → Int → Option PyData) : PyData → PyData → Option PyData
  | .int i, .int j => g i j
  | _, _ => none
theorem fI_inv {g : Int → Int → Option PyData} {d e r : PyData} (h : fI g d e = some r) : ∃ i j, d = .int i ∧ e = .int j ∧ g i j = some r := by
  unfold fI at h
  split at h
  · exact ⟨_, _, rfl, rfl, h⟩
  · cases h
section
variable {X : Cx}
theorem rD_int {K : PySem.W.Frag} {g : Int → Int → Option PyData} {x y : V} {H : Hp} {Q : VK} (h : rD K (fI g) x y H Q) : ∃ i j r w, x = .int i ∧ y = .int j ∧ g i j = some r ∧ scalV r = some w ∧ Q w H := by
  obtain ⟨d, e, r, w, h1, h2, h3, h4, q⟩ := h
  obtain ⟨i, j, rfl, rfl, h5⟩ := fI_inv h3
  cases h1
  cases h2
  exact ⟨i, j, r, w, rfl, rfl, h5, h4, q⟩
abbrev fAdd := fI fun i j => some (.int (i + j))
abbrev fSub := fI fun i j => some (.int (i - j))
abbrev fMul := fI fun i j => if (-(2 ^ 64) < i ∧ i < 2 ^ 64) ∨ (-(2 ^ 64) < j ∧ j < 2 ^ 64) then some (.int (i * j)) else none
abbrev fDiv := fI fun i j => if 0 < j ∧ j < 1073741824 then some (.int (i / j)) else none
abbrev fMod := fI fun i j => if 0 < j then some (.int (i % j)) else none
abbrev fPow := fI fun i j => if 0 ≤ j ∧ j ≤ 1000 ∧ i.natAbs < 2 ^ 64 then some (.int (i ^ j.toNat)) else none
theorem o_add : OpR X (binaryOp .Add) (rD X.K fAdd) := OpR.weak op_add fun x y H Q h => by
  obtain ⟨i, j, r, w, rfl, rfl, h1, h2, q⟩ := rD_int h
  cases h1; cases h2; exact ⟨i, j, rfl, rfl, q⟩
theorem o_sub : OpR X (binaryOp .Sub) (rD X.K fSub) := OpR.weak op_sub fun x y H Q h => by
  obtain ⟨i, j, r, w, rfl, rfl, h1, h2, q⟩ := rD_int h
  cases h1; cases h2; exact ⟨i, j, rfl, rfl, q⟩
theorem o_mul : OpR X (binaryOp .Mult) (rD X.K fMul) := OpR.weak op_mul fun x y H Q h => by
  obtain ⟨i, j, r, w, rfl, rfl, h1, h2, q⟩ := rD_int h
  split at h1
  · rename_i hc
    cases h1; cases h2; exact ⟨i, j, rfl, rfl, hc, q⟩
  · cases h1
theorem o_div : OpR X (binaryOp .FloorDiv) (rD X.K fDiv) := OpR.weak op_fdiv fun x y H Q h => by
  obtain ⟨i, j, r, w, rfl, rfl, h1, h2, q⟩ := rD_int h
  split at h1
  · rename_i hc
    cases h1; cases h2; exact ⟨i, j, rfl, rfl, hc, q⟩
  · cases h1
theorem o_mod : OpR X (binaryOp .Mod) (rD X.K fMod) := OpR.weak op_mod fun x y H Q h => by
  obtain ⟨i, j, r, w, rfl, rfl, h1, h2, q⟩ := rD_int h
  split at h1
  · rename_i hc
    cases h1; cases h2; exact ⟨i, j, rfl, rfl, hc, q⟩
  · cases h1
theorem o_pow : OpR X (binaryOp .Pow) (rD X.K fPow) := OpR.weak op_pow fun x y H Q h => by
  obtain ⟨i, j, r, w, rfl, rfl, h1, h2, q⟩ := rD_int h
  split at h1
  · rename_i hc
    cases h1; cases h2; exact ⟨i, j, rfl, rfl, ⟨hc.1, by omega, hc.2.2⟩, q⟩
  · cases h1
abbrev fLt := fI fun i j => some (.bool (decide (i < j)))
abbrev fLe := fI fun i j => some (.bool (decide (i ≤ j)))
abbrev fGt := fI fun i j => some (.bool (decide (j < i)))
abbrev fGe := fI fun i j => some (.bool (decide (j ≤ i)))
theorem o_lt : OpR X (compareOp .Lt) (rD X.K fLt) := OpR.weak op_lt fun x y H Q h => by
  obtain ⟨i, j, r, w, rfl, rfl, h1, h2, q⟩ := rD_int h
  cases h1; cases h2; exact ⟨i, j, rfl, rfl, q⟩
theorem o_le : OpR X (compareOp .LtE) (rD X.K fLe) := OpR.weak op_le fun x y H Q h => by
  obtain ⟨i, j, r, w, rfl, rfl, h1, h2, q⟩ := rD_int h
  cases h1; cases h2; exact ⟨i, j, rfl, rfl, q⟩
theorem o_gt : OpR X (compareOp .Gt) (rD X.K fGt) := OpR.weak op_gt fun x y H Q h => by
  obtain ⟨i, j, r, w, rfl, rfl, h1, h2, q⟩ := rD_int h
  cases h1; cases h2; exact ⟨i, j, rfl, rfl, q⟩
theorem o_ge : OpR X (compareOp .GtE) (rD X.K fGe) := OpR.weak op_ge fun x y H Q h => by
  obtain ⟨i, j, r, w, rfl, rfl, h1, h2, q⟩ := rD_int h
  cases h1; cases h2; exact ⟨i, j, rfl, rfl, q⟩

/-! ### data compared -/
/-- a rule for data by what is read off the heap -/
theorem o_reads {f : Value → Value → Sem Value} {g : PyData → PyData → Option PyData} (rule : ∀ (s : Shared) (v u : Value) (d e : PyData) (as bs : List Addr) (b : Bool) (Q E : Value → Shared → Prop), Reads s.heap v d as → Reads s.heap u e bs → g d e = some (.bool b) → Q (.bool b) s → wpAny (model X.prog X.w) X.A (f v u) Q E s)
    (hb : ∀ d e r, g d e = some r → ∃ b, r = .bool b) : OpR X f (rD X.K g) := by
  intro pins s σ H x y v u Q I rx ry h; obtain ⟨d, e, r, w, h1, h2, h3, h4, q⟩ := h
  obtain ⟨b, rfl⟩ := hb d e r h3
  cases h4
  obtain ⟨as, r1⟩ := Dd.reads I d x v h1 rx
  obtain ⟨bs, r2⟩ := Dd.reads I e y u h2 ry
  exact rule s v u d e as bs b _ _ r1 r2 h3 ⟨.bl b, H, I, rfl, q⟩
def eqD (d e : PyData) : Option Bool :=
  if d.plain && e.plain && decide (min d.depth e.depth ≤ 100) then some (PyData.eqv d e)
  else match d, e with
    | .tuple xs, .tuple [] => some xs.isEmpty
    | _, _ => none
def fEq (d e : PyData) : Option PyData := (eqD d e).map .bool
def fNe (d e : PyData) : Option PyData := (eqD d e).map fun b => .bool (!b)
theorem rc_tup0 {A : Around} {s : Shared} {a b : Value} {xs : List PyData} {as bs : List Addr} (ra : Reads s.heap a (.tuple xs) as) (rb : Reads s.heap b (.tuple []) bs) (hu : A.units < cLine) : SeqAt.RcAt A s a b xs.isEmpty ∧ SeqAt.RcNeAt A s a b (!xs.isEmpty) := by
  cases ra with
  | @tuple l o vs n _ _ h1 h2 h3 h4 =>
    cases rb with
    | @tuple l' o' vs' n' _ _ k1 k2 k3 k4 =>
      have n1 : vs.size = xs.length := by simpa using SeqAt.ReadsAll.length _ _ _ h4
      have n2 : vs'.size = 0 := by simpa using SeqAt.ReadsAll.length _ _ _ k4
      have z := SeqAt.RcAt.tuples (A := A) (s := s) (e := fun _ => true) ⟨_, h1, h2, _, h3⟩ ⟨_, k1, k2, _, k3⟩ hu (fun j j1 j2 => by omega)
      have z2 := SeqAt.RcNeAt.tuples (A := A) (s := s) (e := fun _ => true) ⟨_, h1, h2, _, h3⟩ ⟨_, k1, k2, _, k3⟩ hu (fun j j1 j2 => by omega)
      have e : ((List.range (min vs.size vs'.size)).all (fun _ => true) && vs.size == vs'.size) = xs.isEmpty := by
        rw [n1, n2]
        cases xs <;> simp
      rw [e] at z z2
      exact ⟨z, z2⟩
theorem eqD_run {s : Shared} {v u : Value} {d e : PyData} {as bs : List Addr} {b : Bool} {Q E : Value → Shared → Prop} (hu : X.A.units + 200 < cLine) (r1 : Reads s.heap v d as) (r2 : Reads s.heap u e bs) (h : eqD d e = some b) (q : Q (.bool b) s) : wpAny (model X.prog X.w) X.A (compareOp .Eq v u) Q E s := by
  unfold eqD at h
  split at h
  · rename_i hc
    simp only [Bool.and_eq_true, decide_eq_true_eq] at hc; cases h
    exact SeqAt.eq_plain r1 r2 hc.1.1 hc.1.2 (by omega) q
  · split at h
    · cases h
      exact (rc_tup0 r1 r2 (by omega)).1 X.prog X.w E Q q
    · cases h
theorem neD_run {s : Shared} {v u : Value} {d e : PyData} {as bs : List Addr} {b : Bool} {Q E : Value → Shared → Prop} (hu : X.A.units + 200 < cLine) (r1 : Reads s.heap v d as) (r2 : Reads s.heap u e bs) (h : eqD d e = some b) (q : Q (.bool (!b)) s) : wpAny (model X.prog X.w) X.A (compareOp .NotEq v u) Q E s := by
  unfold eqD at h
  split at h
  · rename_i hc
    simp only [Bool.and_eq_true, decide_eq_true_eq] at hc; cases h
    exact SeqAt.ne_plain r1 r2 hc.1.1 hc.1.2 (by omega) q
  · split at h
    · cases h
      exact (rc_tup0 r1 r2 (by omega)).2 X.prog X.w E Q q
    · cases h
theorem o_eq (hu : X.A.units + 200 < cLine) : OpR X (compareOp .Eq) (rD X.K fEq) := o_reads (fun s v u d e as bs b Q E r1 r2 h q => by
  unfold fEq at h
  cases he : eqD d e with
  | none => rw [he] at h; cases h
  | some b' => rw [he] at h; cases h; exact eqD_run hu r1 r2 he q) fun d e r h => by
  unfold fEq at h
  cases he : eqD d e with
  | none => rw [he] at h; cases h
  | some b' => rw [he] at h; cases h; exact ⟨_, rfl⟩
theorem o_ne (hu : X.A.units + 200 < cLine) : OpR X (compareOp .NotEq) (rD X.K fNe) := o_reads (fun s v u d e as bs b Q E r1 r2 h q => by
  unfold fNe at h
  cases he : eqD d e with
  | none => rw [he] at h; cases h
  | some b' => rw [he] at h; cases h; exact neD_run hu r1 r2 he q) fun d e r h => by
  unfold fNe at h
  cases he : eqD d e with
  | none => rw [he] at h; cases h
  | some b' => rw [he] at h; cases h; exact ⟨_, rfl⟩
def isN (d : PyData) : Bool := match d with
  | .none => true
  | _ => false
/-- < of data whose places are alike -/
def fLtD (d e : PyData) : Option PyData := if W.alike d e && !isN d && decide (min d.depth e.depth ≤ 100) then some (.bool (W.dataLt d e)) else none
theorem o_ltD (hu : X.A.units + 200 < cLine) : OpR X (compareOp .Lt) (rD X.K fLtD) := o_reads (fun s v u d e as bs b Q E r1 r2 h q => by
  unfold fLtD at h
  split at h
  · rename_i hc
    simp only [Bool.and_eq_true, decide_eq_true_eq, Bool.not_eq_true'] at hc
    cases h
    exact W.rcLt_alike d e X.A s v u as bs r1 r2 hc.1.1 (fun z => by rw [z] at hc; cases hc.1.2) (by omega) X.prog X.w E Q q
  · cases h) fun d e r h => by
  unfold fLtD at h
  split at h
  · cases h; exact ⟨_, rfl⟩
  · cases h
/-- in, not in: lists and tuples -/
def inD (d c : PyData) : Option Bool := match asSeq c with
  | some xs => if d.plain && PyData.plainAll xs && decide (min (PyData.depthAll xs) d.depth ≤ 100) then some (xs.any fun z => PyData.eqv z d) else none
  | none => none
def fIn (d c : PyData) : Option PyData := (inD d c).map .bool
def fNotIn (d c : PyData) : Option PyData := (inD d c).map fun b => .bool (!b)
theorem o_in (hu : X.A.units + 200 < cLine) : OpR X (compareOp .In) (rD X.K fIn) := o_reads (fun s v u d e as bs b Q E r1 r2 h q => by
  unfold fIn inD at h
  cases e with
  | list xs =>
    simp only [asSeq] at h
    split at h
    · rename_i hc
      simp only [Bool.and_eq_true, decide_eq_true_eq] at hc; cases h
      exact SeqAt.in_list_data r2 r1 hc.1.2 hc.1.1 (by omega) q
    · cases h
  | tuple xs =>
    simp only [asSeq] at h
    split at h
    · rename_i hc
      simp only [Bool.and_eq_true, decide_eq_true_eq] at hc; cases h
      exact SeqAt.in_tuple_data r2 r1 hc.1.2 hc.1.1 (by omega) q
    · cases h
  | _ => cases h) fun d e r h => by
  unfold fIn at h
  cases he : inD d e with
  | none => rw [he] at h; cases h
  | some b' => rw [he] at h; cases h; exact ⟨_, rfl⟩
theorem o_notIn (hu : X.A.units + 200 < cLine) : OpR X (compareOp .NotIn) (rD X.K fNotIn) := o_reads (fun s v u d e as bs b Q E r1 r2 h q => by
  unfold fNotIn inD at h
  cases e with
  | list xs =>
    simp only [asSeq] at h
    split at h
    · rename_i hc
      simp only [Bool.and_eq_true, decide_eq_true_eq] at hc; cases h
      exact SeqAt.notIn_list_data r2 r1 hc.1.2 hc.1.1 (by omega) q
    · cases h
  | tuple xs =>
    simp only [asSeq] at h
    split at h
    · rename_i hc
      simp only [Bool.and_eq_true, decide_eq_true_eq] at hc; cases h
      exact SeqAt.notIn_tuple_data r2 r1 hc.1.2 hc.1.1 (by omega) q
    · cases h
  | _ => cases h) fun d e r h => by
  unfold fNotIn at h
  cases he : inD d e with
  | none => rw [he] at h; cases h
  | some b' => rw [he] at h; cases h; exact ⟨_, rfl⟩
/-- is None, is not None -/
def fIs (d e : PyData) : Option PyData := match e with
  | .none => some (.bool (isN d))
  | _ => none
def fIsNot (d e : PyData) : Option PyData := match e with
  | .none => some (.bool (!isN d))
  | _ => none
theorem isN_v {K : PySem.W.Frag} {H : Hp} {v : V} {d : PyData} (h : Dd K H v d) : decide (v = .non) = isN d := by
  cases h <;> first | rfl | (simp [isN])
theorem o_is : OpR X (compareOp .Is) (rD X.K fIs) := OpR.weak op_isN fun x y H Q h => by
  obtain ⟨d, e, r, w, h1, h2, h3, h4, q⟩ := h
  cases e with
  | none => cases h2; cases h3; cases h4; exact ⟨rfl, by rw [isN_v h1]; exact q⟩
  | _ => cases h3
theorem o_isNot : OpR X (compareOp .IsNot) (rD X.K fIsNot) := OpR.weak op_notN fun x y H Q h => by
  obtain ⟨d, e, r, w, h1, h2, h3, h4, q⟩ := h
  cases e with
  | none => cases h2; cases h3; cases h4; exact ⟨rfl, by rw [isN_v h1]; exact q⟩
  | _ => cases h3
end
end DL
/-! DL8: subscripts, slices, sums of sequences, built-ins, methods. -/
namespace DL
open PySem PySem.Spec L2

section
variable {X : Cx} {E : XK} {e a b : Expr} {es : List Expr} {pos p p2 apos : Pos}
variable {F : Hp} {rs : List Addr} {S : DS} {σ : L2.St} {H G : Hp}
/-! ### a list or a tuple at hand -/
theorem Md.seq {K : PySem.W.Frag} {wl : Wd} (m : Md K wl F rs S σ H G) {x : VD} {v : V} {d : PyData} {ds : List PyData} (r : RdV K wl rs G x v) (hp : peekS S x = some d) (hs : asSeq d = some ds) :
    ∃ a vs, v = .ref a ∧ DdAll K G vs ds ∧ ((d = .list ds ∧ Rd H a (.lst vs)) ∨ (d = .tuple ds ∧ SqT K H a vs ∧ Dd K G v (.tuple ds))) := by
  cases d with
  | list es =>
    cases hs
    obtain ⟨a, vs, e, h1, h2⟩ := m.peekL r hp
    exact ⟨a, vs, e, h2, .inl ⟨rfl, h1⟩⟩
  | tuple es =>
    cases hs
    obtain ⟨a, vs, e, h1, h2, h3⟩ := m.peekT r hp
    exact ⟨a, vs, e, h2, .inr ⟨rfl, h1, h3⟩⟩
  | _ => cases hs

/-! ### x[i] -/
def idxD (c i : PyData) : Option PyData := match asSeq c, i with
  | some ds, .int i => atI ds i
  | _, _ => none
def eIdx (ta tb : M VD) : M VD := do let x ← ta; let y ← tb; let c ← peek x; let i ← peek y; let r ← ofO (idxD c i); pure (.dat r)
theorem atI_dd {K : PySem.W.Frag} {vs : List V} {ds : List PyData} (h : DdAll K G vs ds) {i : Int} {d : PyData} (e : atI ds i = some d) : ∃ v, atI vs i = some v ∧ Dd K G v d := by
  unfold atI at e ⊢
  rw [DdAll.length h]
  cases e1 : ixN ds.length i with
  | none => rw [e1] at e; cases e
  | some j =>
    rw [e1] at e
    exact DdAll.get' h e
theorem d_idx {ta tb : M VD} (ha : PD X E a ta) (hb : PD X E b tb) (hs : PlainIx b := by exact fun _ _ => rfl) : PD X E (.Subscript a b pos) (eIdx ta tb) :=
  PE.weak (pe_ix (r := fun x y H Q => rIxL X.K x y H Q ∨ rIxT X.K x y H Q) (ix_list.or ix_tup) ha hb hs) fun σ H Q q => by
  obtain ⟨F, rs, S, G, m, p⟩ := q
  refine ⟨F, rs, S, G, m, (Post.seq p).mono fun v H1 ⟨rs1, S1, G1, x, u1, m1, r1, p1⟩ => ?_⟩
  refine ⟨F, rs1, S1, G1, m1, (Post.seq p1).mono fun w H2 ⟨rs2, S2, G2, y, u2, m2, r2, p2⟩ => ?_⟩
  obtain ⟨d, hd, p3⟩ := Post.peek p2
  obtain ⟨i, hi, p4⟩ := Post.peek p3
  obtain ⟨r, hr, p5⟩ := Post.ofO p4
  unfold idxD at hr
  cases hq : asSeq d with
  | none => rw [hq] at hr; cases hr
  | some ds =>
    rw [hq] at hr
    cases i with
    | int i =>
      dsimp only at hr
      obtain ⟨a, vs, rfl, hda, hk⟩ := m2.seq (RdV.up u2 r1) hd hq
      obtain ⟨z, hz, rz⟩ := atI_dd hda hr
      have ey : w = .int i := by
        have := m2.peek r2 hi
        cases this
        rfl
      rcases hk with ⟨_, hk⟩ | ⟨_, hk, _⟩
      · exact .inl ⟨a, vs, i, z, rfl, ey, .inl hk, hz, Post.ret m2 p5 rz⟩
      · exact .inr ⟨a, vs, i, z, rfl, ey, hk, hz, Post.ret m2 p5 rz⟩
    | _ => cases hr

/-! ### slices -/
abbrev liftO (K : PySem.W.Frag) (wl : Wd) (mg : Str → Option Value) (E : XK) (t : M (Option Int)) : TO := lift K wl mg E (fun _ _ (a b : Option Int) => a = b) t
abbrev PDO (X : Cx) (E : XK) (o : Option Expr) (t : M (Option Int)) : Prop := PO X o (liftO X.K X.wd X.mg E t)
theorem PO.weak {o : Option Expr} {t t' : TO} (h : PO X o t) (k : ∀ σ H Q, t' σ H Q → t σ H Q) : PO X o t' := ⟨fun pins s σ H Q I q => h.run pins s σ H Q I (k _ _ _ q)⟩
def oNone : M (Option Int) := pure none
def oSome (t : M VD) : M (Option Int) := do
  let x ← t
  match x with
  | .dat (.int i) => pure (some i)
  | _ => M.bad
theorem p_none : PDO X E none oNone := PO.weak po_none fun σ H Q q => by
  obtain ⟨F, rs, S, G, m, p⟩ := q
  exact Post.ret m p rfl
theorem p_some {t : M VD} (h : PD X E e t) : PDO X E (some e) (oSome t) := PO.weak (po_some h) fun σ H Q q => by
  obtain ⟨F, rs, S, G, m, p⟩ := q
  refine ⟨F, rs, S, G, m, (Post.seq p).mono fun v H1 ⟨rs1, S1, G1, x, u1, m1, r1, p1⟩ => ?_⟩
  cases x with
  | rf j => exact p1.elim
  | bag _ => exact p1.elim
  | st _ => exact p1.elim
  | ex _ => exact p1.elim
  | exs _ => exact p1.elim
  | dat d =>
    cases d with
    | int i =>
      cases (show Dd X.K G1 v (.int i) from r1)
      exact ⟨i, rfl, Post.ret m1 p1 rfl⟩
    | _ => exact p1.elim
def cutD (xs : List PyData) (lo hi : Option Int) : List PyData := (xs.drop (HT.sIx xs.length 0 lo)).take (HT.sIx xs.length xs.length hi - HT.sIx xs.length 0 lo)
theorem cut_dd {K : PySem.W.Frag} {vs : List V} {ds : List PyData} (h : DdAll K G vs ds) (lo hi : Option Int) : DdAll K G (cutV vs lo hi) (cutD ds lo hi) := by
  unfold cutV cutD
  rw [DdAll.length h]
  exact DdAll.take _ (DdAll.drop _ h)
def mkSeq (c : PyData) (ds : List PyData) : M VD := match c with
  | .list _ => newL ds
  | .tuple _ => pure (.dat (.tuple ds))
  | _ => M.bad
def slV (x : VD) (lo hi : Option Int) : M VD := match x with
  | .bag ds => newL (cutD ds lo hi)
  | x => do let c ← peek x; let ds ← ofO (asSeq c); mkSeq c (cutD ds lo hi)
def eSl (ta : M VD) (tl th : M (Option Int)) : M VD := do let x ← ta; let lo ← tl; let hi ← th; slV x lo hi
theorem cut_whole {K : PySem.W.Frag} {vs : List V} {ds : List PyData} (h : DdAll K G vs ds) {lo hi : Option Int} (hw : HT.sIx vs.length 0 lo = 0 ∧ HT.sIx vs.length vs.length hi = vs.length) : cutD ds lo hi = ds := by
  unfold cutD
  rw [← DdAll.length h, hw.1, hw.2]
  simp [DdAll.length h]
theorem d_sl {ta : M VD} {tl th : M (Option Int)} {lo hi : Option Expr} (ha : PD X E a ta) (hl : PDO X E lo tl) (hh : PDO X E hi th) : PD X E (.Subscript a (.Slice lo hi none p2) pos) (eSl ta tl th) :=
  PE.weak (pe_slice (SlR.or sl_list sl_tupA) ha hl hh) fun σ H Q q => by
  obtain ⟨F, rs, S, G, m, p⟩ := q
  refine ⟨F, rs, S, G, m, (Post.seq p).mono fun v H1 ⟨rs1, S1, G1, x, u1, m1, r1, p1⟩ => ?_⟩
  refine ⟨F, rs1, S1, G1, m1, (Post.seq p1).mono fun l H2 ⟨rs2, S2, G2, l', u2, m2, e2, p2⟩ => ?_⟩
  subst e2
  refine ⟨F, rs2, S2, G2, m2, (Post.seq p2).mono fun h H3 ⟨rs3, S3, G3, h', u3, m3, e3, p3⟩ => ?_⟩
  subst e3
  have r3 := RdV.up (u2.trans u3) r1
  unfold slV at p3
  cases x with
  | bag ds =>
    obtain ⟨a, vs, rfl, h1, h2⟩ := r3
    exact .inl ⟨a, vs, rfl, L2.Same.seq m3.sub h1, fun q hq => newLst m3 (cut_dd h2 _ _) p3 hq⟩
  | _ =>
  all_goals dsimp only at p3
  all_goals obtain ⟨d, hd, p4⟩ := Post.peek p3
  all_goals obtain ⟨ds, hs, p5⟩ := Post.ofO p4
  all_goals obtain ⟨a, vs, rfl, hda, hk⟩ := m3.seq r3 hd hs
  all_goals rcases hk with ⟨rfl, hk⟩ | ⟨rfl, hk, hw⟩
  all_goals first
    | exact .inl ⟨a, vs, rfl, .inl hk, fun q hq => newLst m3 (cut_dd hda _ _) p5 hq⟩
    | exact .inr ⟨a, vs, rfl, hk, fun hwh => Post.ret m3 p5 (show Dd X.K G3 (.ref a) (.tuple (cutD ds l' h')) from (cut_whole hda hwh).symm ▸ hw), fun _ q hq => newTup m3 (cut_dd hda _ _) p5 hq⟩
end
end DL
/-! DL9: more of sequences; built-ins; methods. -/
namespace DL
open PySem PySem.Spec L2

section
variable {X : Cx} {E : XK} {e a b : Expr} {es : List Expr} {pos p p1 p2 p3 apos : Pos}
variable {F : Hp} {rs : List Addr} {S : DS} {σ : L2.St} {H G : Hp}
/-! ### x + y, whatever they are -/
def rCatL : R2 := fun x y H Q => ∃ l b xs zs, x = .ref l ∧ y = .ref b ∧ Rd H l (.lst xs) ∧ Rd H b (.lst zs) ∧ xs.length + zs.length ≤ sizeLine ∧ ∀ p, H p = none → Q (.ref p) (upd H p (.lst (xs ++ zs)))
theorem op_catL : OpR X (binaryOp .Add) rCatL := by
  intro pins s σ H x y v u Q I rx ry h; obtain ⟨l, b, xs, zs, rfl, rfl, hH, hB, hz, q⟩ := h
  cases rx
  cases ry
  obtain ⟨_, its, n, r, e⟩ := hH.ok I.hok
  obtain ⟨_, its2, n2, r2, e2⟩ := hB.ok I.hok
  have e1 := r.length
  have e3 := r2.length; refine PySem.P.add_list e e2 ?_ (by rw [List.size_toArray, List.size_toArray]; omega); have ea : its.toArray ++ its2.toArray = (its ++ its2).toArray := by simp
  rw [ea]; exact ⟨.ref _, _, I.lnew (t' := s.toks) (r.append r2) (by rw [List.length_append]; omega), rfl, q _ I.fresh⟩
def addD (d e : PyData) : M VD := match d, e with
  | .int i, .int j => pure (.dat (.int (i + j)))
  | .list xs, .list ys => do chk (decide (xs.length + ys.length ≤ 16777216)); newL (xs ++ ys)
  | .tuple xs, .tuple ys => do chk (decide (xs.length + ys.length ≤ 16777216)); pure (.dat (.tuple (xs ++ ys)))
  | _, _ => M.bad
def eAdd (ta tb : M VD) : M VD := do let x ← ta; let y ← tb; let d ← peek x; let e ← peek y; addD d e
theorem d_add {ta tb : M VD} (ha : PD X E a ta) (hb : PD X E b tb) : PD X E (.BinOp a .Add b pos) (eAdd ta tb) :=
  PE.weak (pe_op (OpR.or op_add (OpR.or op_catL op_catA)) ha hb) fun σ H Q q => by
  obtain ⟨F, rs, S, G, m, p⟩ := q
  refine ⟨F, rs, S, G, m, (Post.seq p).mono fun v H1 ⟨rs1, S1, G1, x, u1, m1, r1, p1⟩ => ?_⟩
  refine ⟨F, rs1, S1, G1, m1, (Post.seq p1).mono fun w H2 ⟨rs2, S2, G2, y, u2, m2, r2, p2⟩ => ?_⟩
  obtain ⟨d, hd, p3⟩ := Post.peek p2
  obtain ⟨e, he, p4⟩ := Post.peek p3
  have hx := m2.peek (RdV.up u2 r1) hd
  have hy := m2.peek r2 he
  unfold addD at p4
  split at p4
  · cases hx
    cases hy
    exact .inl ⟨_, _, rfl, rfl, Post.ret m2 p4 (.int _)⟩
  · rename_i xs ys
    obtain ⟨hc, p5⟩ := Post.chk p4
    have hc' := of_decide_eq_true hc
    obtain ⟨l, vs, rfl, h1, h2⟩ := m2.peekL (RdV.up u2 r1) hd
    obtain ⟨l', vs', rfl, h3, h4⟩ := m2.peekL r2 he
    refine .inr (.inl ⟨l, l', vs, vs', rfl, rfl, h1, h3, ?_, fun q hq => newLst m2 (DdAll.append h2 h4) p5 hq⟩)
    rw [DdAll.length h2, DdAll.length h4, sizeLine_eq]
    exact hc'
  · rename_i xs ys
    obtain ⟨hc, p5⟩ := Post.chk p4
    have hc' := of_decide_eq_true hc
    obtain ⟨l, vs, rfl, h1, h2, w1⟩ := m2.peekT (RdV.up u2 r1) hd
    obtain ⟨l', vs', rfl, h3, h4, w2⟩ := m2.peekT r2 he
    refine .inr (.inr ⟨l, l', vs, vs', rfl, rfl, h1, h3, ?_, fun e0 => ?_, fun _ e0 => ?_, fun _ _ q hq => newTup m2 (DdAll.append h2 h4) p5 hq⟩)
    · rw [DdAll.length h2, DdAll.length h4, sizeLine_eq]
      exact hc'
    · subst e0
      cases h2
      exact Post.ret m2 p5 w2
    · subst e0
      cases h4
      refine Post.ret m2 p5 ?_
      show Dd X.K G2 (.ref l) (.tuple (xs ++ []))
      rw [List.append_nil]
      exact w1
  · exact p4.elim

/-! ### -x -/
def eNeg (ta : M VD) : M VD := do
  let x ← ta
  match x with
  | .dat (.int i) => pure (.dat (.int (-i)))
  | _ => M.bad
theorem d_neg {ta : M VD} (ha : PD X E a ta) : PD X E (.UnaryOp .USub a pos) (eNeg ta) := PE.weak (pe_un un_neg ha) fun σ H Q q => by
  obtain ⟨F, rs, S, G, m, p⟩ := q
  refine ⟨F, rs, S, G, m, (Post.seq p).mono fun v H1 ⟨rs1, S1, G1, x, u1, m1, r1, p1⟩ => ?_⟩
  cases x with
  | rf j => exact p1.elim
  | bag _ => exact p1.elim
  | st _ => exact p1.elim
  | ex _ => exact p1.elim
  | exs _ => exact p1.elim
  | dat d =>
    cases d with
    | int i =>
      cases (show Dd X.K G1 v (.int i) from r1)
      exact ⟨i, rfl, Post.ret m1 p1 (.int _)⟩
    | _ => exact p1.elim

/-! ### built-ins of one value -/
/-- a built-in of one value whose answer is a scalar by the data -/
def eFn (f : PyData → Option PyData) (ta : M VD) : M VD := do let x ← ta; let d ← peek x; let r ← ofO (f d); scal r
def rFn (K : PySem.W.Frag) (f : PyData → Option PyData) : List V → Hp → VK → Prop := fun xs H Q => ∃ x d r w, xs = [x] ∧ Dd K H x d ∧ f d = some r ∧ scalV r = some w ∧ Q w H
theorem fnD {f : PyData → Option PyData} {ta : M VD} {σ : L2.St} {H : Hp} {Q : VK} (q : liftE X.K X.wd X.mg E (eFn f ta) σ H Q) : tCB (rFn X.K f) (tCons (liftE X.K X.wd X.mg E ta) tNil) σ H Q := by
  obtain ⟨F, rs, S, G, m, p⟩ := q
  refine ⟨F, rs, S, G, m, (Post.seq p).mono fun v H1 ⟨rs1, S1, G1, x, u1, m1, r1, p1⟩ => ?_⟩
  obtain ⟨d, hd, p2⟩ := Post.peek p1
  obtain ⟨r, hr, p3⟩ := Post.ofO p2
  obtain ⟨w, hw, p4⟩ := Post.scal m1 p3
  exact ⟨v, d, r, w, rfl, m1.peek r1 hd, hr, hw, p4⟩
theorem d_fnB {x : Str} {id : String} {f : PyData → Option PyData} {ta : M VD} (hc : CallR X (.builtin id) (rFn X.K f)) (ha : PD X E a ta) (hg : Gl X x) (hm : X.mg x = none) (hv : bootBuiltins x = some (.builtin id)) (hn : x ≠ "__name__") (hd : (x == ("__debug__" : Str)) = false) (na : starEach [a] X.env = (false, eval a X.env) :: starEach [] X.env := by rfl) :
    PD X E (.Call (.Name x p) [a] [] pos) (eFn f ta) := PE.weak (pe_callB hc hg hm hv (pa_cons ha pa_nil na) (hn := hn) (hdb := hd) (he := na)) fun σ H Q q => fnD q
end
end DL
/-! DL10: built-ins. -/
namespace DL
open PySem PySem.Spec L2

section
variable {X : Cx} {E : XK} {e a b : Expr} {es : List Expr} {pos p p1 p2 p3 apos : Pos} {x : Str}
variable {F : Hp} {rs : List Addr} {S : DS} {σ : L2.St} {H G : Hp}
theorem CallR.weak {f : Value} {r r' : List V → Hp → VK → Prop} (h : CallR X f r) (k : ∀ xs H Q, r' xs H Q → r xs H Q) : CallR X f r' := fun pins s σ H xs us Q I rv q => h pins s σ H xs us Q I rv (k _ _ _ q)
/-! ### len -/
def lenD (d : PyData) : Option PyData := match d with
  | .str z => if z.length ≤ 16777216 then some (.int z.length) else none
  | d => (asSeq d).map fun ds => .int ds.length
theorem c_len : CallR X (.builtin "len") (rFn X.K lenD) := CallR.weak (CallR.or call_len_seq call_len_str) fun xs H Q h => by
  obtain ⟨v, d, r, w, rfl, hd, hr, hw, q⟩ := h
  cases d with
  | list ds =>
    cases hr; cases hw
    cases hd with
    | @lst a vs _ h1 h2 => exact .inl ⟨a, vs, rfl, .inl (.inl h1), by rw [DdAll.length h2]; exact q⟩
  | tuple ds =>
    cases hr; cases hw
    cases hd with
    | @tup a vs _ h1 h2 => exact .inl ⟨a, vs, rfl, .inr h1, by rw [DdAll.length h2]; exact q⟩
  | str z =>
    unfold lenD at hr
    dsimp only at hr
    split at hr
    · rename_i hz
      cases hr; cases hw
      cases hd
      exact .inr ⟨z, rfl, by rw [sizeLine_eq]; exact hz, q⟩
    · cases hr
  | _ => cases hr
theorem d_len {ta : M VD} (ha : PD X E a ta) (hg : Gl X "len" := by rfl) (hm : X.mg "len" = none) (na : starEach [a] X.env = (false, eval a X.env) :: starEach [] X.env := by rfl) : PD X E (.Call (.Name "len" p) [a] [] pos) (eFn lenD ta) :=
  d_fnB c_len ha hg hm PySem.boot_len (by decide) (by decide) na

/-! ### isinstance, type(x) is -/
def isT : String → PyData → Option Bool
  | "int", d => some d.isInt
  | "bool", d => some d.isBool
  | "tuple", d => some d.isTuple
  | "list", d => some d.isList
  | "str", d => some d.isStr
  | _, _ => none
def rIsT (K : PySem.W.Frag) (T : String) : List V → Hp → VK → Prop := fun xs H Q => ∃ x d b, xs = [x, .ty T] ∧ Dd K H x d ∧ isT T d = some b ∧ Q (.bl b) H
theorem c_isi (T : String) : CallR X (.builtin "isinstance") (rIsT X.K T) := by
  intro pins s σ H xs us Q I r h; obtain ⟨x, d, b, rfl, hd, hb, q⟩ := h; obtain ⟨u, w', rfl, ru, rw'⟩ := vals2 r
  cases (show w' = Value.type T from rw')
  obtain ⟨as, rd⟩ := Dd.reads I d x u hd ru
  unfold isT at hb
  split at hb
  · cases hb; exact W.isinstance_int_data rd fun tk _ => ⟨.bl _, H, I.tok tk, rfl, q⟩
  · cases hb; exact W.isinstance_bool_data rd fun tk _ => ⟨.bl _, H, I.tok tk, rfl, q⟩
  · cases hb; exact W.isinstance_tuple_data rd fun tk _ => ⟨.bl _, H, I.tok tk, rfl, q⟩
  · cases hb; exact W.isinstance_list_data rd fun tk _ => ⟨.bl _, H, I.tok tk, rfl, q⟩
  · cases hb; exact W.isinstance_str_data rd fun tk _ => ⟨.bl _, H, I.tok tk, rfl, q⟩
  · cases hb
def eIsi (T : String) (ta : M VD) : M VD := do let x ← ta; let d ← peek x; let b ← ofO (isT T d); pure (.dat (.bool b))
theorem d_isi {T : String} {t : Expr} {ta : M VD} (ha : PD X E a ta) (ht : PE X t (tC (.ty T))) (hm : X.mg "isinstance" = none) (hg : Gl X "isinstance" := by rfl)
    (hs : starEach [a, t] X.env = (false, eval a X.env) :: starEach [t] X.env := by rfl) (hs2 : starEach [t] X.env = (false, eval t X.env) :: starEach [] X.env := by rfl) (hpl : (backTo pos (starEach [t] X.env)).any (·.1) = false := by rfl) :
    PD X E (.Call (.Name "isinstance" p) [a, t] [] pos) (eIsi T ta) := PE.weak (pe_callB (c_isi T) hg hm (by decide +kernel) (pa_cons ha (pa_cons ht pa_nil hs2) hs) (he := hs) (hpl := hpl)) fun σ H Q q => by
  obtain ⟨F, rs, S, G, m, p⟩ := q
  refine ⟨F, rs, S, G, m, (Post.seq p).mono fun v H1 ⟨rs1, S1, G1, x, u1, m1, r1, p1⟩ => ?_⟩
  obtain ⟨d, hd, p2⟩ := Post.peek p1
  obtain ⟨b, hb, p3⟩ := Post.ofO p2
  exact ⟨v, d, b, rfl, m1.peek r1 hd, hb, Post.ret m1 p3 (.bl b)⟩
def tyName : PyData → String
  | .none => "NoneType"
  | .bool _ => "bool"
  | .int _ => "int"
  | .str _ => "str"
  | .list _ => "list"
  | .tuple _ => "tuple"
  | .dict _ => "dict"
def kTy (K : PySem.W.Frag) (x : V) (H : Hp) (Q : VK) : Prop := ∃ d, Dd K H x d ∧ Q (.ty (tyName d)) H
theorem reads_type {s : Shared} {v : Value} {d : PyData} {as : List Addr} (r : Reads s.heap v d as) : s.TypeIs v (tyName d) := by
  cases r with
  | none => rfl
  | bool => rfl
  | int => rfl
  | str => rfl
  | list h1 h2 h3 h4 => exact ⟨_, h1, h2⟩
  | tuple h1 h2 h3 h4 => exact ⟨_, h1, h2⟩
  | dict h1 h2 h3 h4 h5 => exact ⟨_, h1, h2⟩
theorem c_type : CallR X (.type "type") (fun xs H Q => ∃ x d, xs = [x] ∧ Dd X.K H x d ∧ Q (.ty (tyName d)) H) := by
  intro pins s σ H xs us Q I r h; obtain ⟨x, d, rfl, hd, q⟩ := h; obtain ⟨u, rfl, ru⟩ := vals1 r
  obtain ⟨as, rd⟩ := Dd.reads I d x u hd ru
  have ht := reads_type rd
  have fin : EP X pins σ Q (.type (tyName d)) s := ⟨.ty _, H, I, rfl, q⟩
  cases d with
  | none => exact call_type_of (Tx := "NoneType") ht (by decide +kernel) fin
  | bool _ => exact call_type_of (Tx := "bool") ht (by decide +kernel) fin
  | int _ => exact call_type_of (Tx := "int") ht (by decide +kernel) fin
  | str _ => exact call_type_of (Tx := "str") ht (by decide +kernel) fin
  | list _ => exact call_type_of (Tx := "list") ht (by decide +kernel) fin
  | tuple _ => exact call_type_of (Tx := "tuple") ht (by decide +kernel) fin
  | dict _ => exact call_type_of (Tx := "dict") ht (by decide +kernel) fin
def eTyIs (T : String) (ta : M VD) : M VD := do let x ← ta; let d ← peek x; pure (.dat (.bool (decide (tyName d = T))))
theorem d_tyIs {T : String} {t : Expr} {ta : M VD} (ha : PD X E a ta) (ht : PE X t (tC (.ty T))) (hm : X.mg "type" = none) (hg : Gl X "type" := by rfl) (na : starEach [a] X.env = (false, eval a X.env) :: starEach [] X.env := by rfl) (hpl : (backTo p1 (starEach [] X.env)).any (·.1) = false := by rfl) (hb : behindInMarks .Is t = false := by rfl) :
    PD X E (.Compare (.Call (.Name "type" p) [a] [] p1) [.Is] [t] pos) (eTyIs T ta) := PE.weak (pe_cmpR op_isTy (pe_callTy c_type hg hm (by decide +kernel) (pa_cons ha pa_nil na) (he := na) (hpl := hpl)) ht hb) fun σ H Q q => by
  obtain ⟨F, rs, S, G, m, p⟩ := q
  refine ⟨F, rs, S, G, m, (Post.seq p).mono fun v H1 ⟨rs1, S1, G1, x, u1, m1, r1, p1⟩ => ?_⟩
  obtain ⟨d, hd, p2⟩ := Post.peek p1
  exact ⟨v, d, rfl, m1.peek r1 hd, _, _, rfl, rfl, Post.ret m1 p2 (.bl _)⟩
theorem dt_tyIs {T : String} {t : Expr} {ta : M VD} (ha : PD X E a ta) (ht : PE X t (tC (.ty T))) (hm : X.mg "type" = none) (hg : Gl X "type" := by rfl) (na : starEach [a] X.env = (false, eval a X.env) :: starEach [] X.env := by rfl) (hpl : (backTo p1 (starEach [] X.env)).any (·.1) = false := by rfl) (hb : behindInMarks .Is t = false := by rfl) :
    PDT X E (.Compare (.Call (.Name "type" p) [a] [] p1) [.Is] [t] pos) (tOf (eTyIs T ta)) := PT.weak (pt_cmpR op_isTy (pe_callTy c_type hg hm (by decide +kernel) (pa_cons ha pa_nil na) (he := na) (hpl := hpl)) ht hb) fun σ H Q q => by
  obtain ⟨F, rs, S, G, m, p⟩ := tOf_lift q
  refine ⟨F, rs, S, G, m, (Post.seq p).mono fun v H1 ⟨rs1, S1, G1, x, u1, m1, r1, p1⟩ => ?_⟩
  obtain ⟨d, hd, p2⟩ := Post.peek p1
  exact ⟨v, d, rfl, m1.peek r1 hd, _, _, rfl, rfl, Post.ret m1 p2 (.bl _)⟩

/-! ### chains a <= b <= c -/
def eChain (f g : PyData → PyData → Option PyData) (ta tb tc : M VD) : M VD := do
  let x ← ta
  let y ← tb
  let d ← peek x
  let e ← peek y
  let r ← ofO (f d e)
  match r with
  | .bool true => do
    let z ← tc
    let e' ← peek y
    let d' ← peek z
    let r' ← ofO (g e' d')
    scal r'
  | .bool false => pure (.dat (.bool false))
  | _ => M.bad
theorem chainD {f g : PyData → PyData → Option PyData} {ta tb tc : M VD} {c : Expr} (ha : PD X E a ta) (hb : PD X E b tb) (hc : PD X E c tc) {σ : L2.St} {H : Hp} {Q : VK} (q : liftE X.K X.wd X.mg E (eChain f g ta tb tc) σ H Q) :
    tChain (rD X.K f) (rD X.K g) (liftE X.K X.wd X.mg E ta) (liftE X.K X.wd X.mg E tb) (liftE X.K X.wd X.mg E tc) σ H Q := by
  obtain ⟨F, rs, S, G, m, p⟩ := q
  refine ⟨F, rs, S, G, m, (Post.seq p).mono fun v H1 ⟨rs1, S1, G1, x, u1, m1, r1, p1⟩ => ?_⟩
  refine ⟨F, rs1, S1, G1, m1, (Post.seq p1).mono fun w H2 ⟨rs2, S2, G2, y, u2, m2, r2, p2⟩ => ?_⟩
  obtain ⟨d, hd, p3⟩ := Post.peek p2
  obtain ⟨e, he, p4⟩ := Post.peek p3
  obtain ⟨r, hr, p5⟩ := Post.ofO p4
  cases r with
  | bool k =>
    refine ⟨d, e, _, _, m2.peek (RdV.up u2 r1) hd, m2.peek r2 he, hr, rfl, k, rfl, ?_⟩
    cases k with
    | false => exact Post.ret m2 p5 (.bl false)
    | true =>
      refine ⟨F, rs2, S2, G2, m2, (Post.seq p5).mono fun z H3 ⟨rs3, S3, G3, z', u3, m3, r3, p6⟩ => ?_⟩
      obtain ⟨e', he', p7⟩ := Post.peek p6
      obtain ⟨d', hd', p8⟩ := Post.peek p7
      obtain ⟨r', hr', p9⟩ := Post.ofO p8
      obtain ⟨w', hw', p10⟩ := Post.scal m3 p9
      exact ⟨e', d', r', w', m3.peek (RdV.up u3 r2) he', m3.peek r3 hd', hr', hw', p10⟩
  | _ => exact p5.elim
theorem d_chain {op op' : CmpOp} {f g : PyData → PyData → Option PyData} {ta tb tc : M VD} {c : Expr} (ho : OpR X (compareOp op) (rD X.K f)) (ho' : OpR X (compareOp op') (rD X.K g)) (ha : PD X E a ta) (hb : PD X E b tb) (hc : PD X E c tc)
    (hm : lastMarks [op, op'] [b, c] = false := by with_unfolding_all rfl) : PD X E (.Compare a [op, op'] [b, c] pos) (eChain f g ta tb tc) := PE.weak (pe_chain ho ho' ha hb hc hm) fun σ H Q q => chainD ha hb hc q
theorem dt_chain {op op' : CmpOp} {f g : PyData → PyData → Option PyData} {ta tb tc : M VD} {c : Expr} (ho : OpR X (compareOp op) (rD X.K f)) (ho' : OpR X (compareOp op') (rD X.K g)) (ha : PD X E a ta) (hb : PD X E b tb) (hc : PD X E c tc)
    (hm : lastMarks [op, op'] [b, c] = false := by with_unfolding_all rfl) : PDT X E (.Compare a [op, op'] [b, c] pos) (tOf (eChain f g ta tb tc)) := PT.weak (pt_chain ho ho' ha hb hc hm) fun σ H Q q => chainD ha hb hc (tOf_lift q)

/-! ### int(x) of an int -/
def intD (d : PyData) : Option PyData := match d with
  | .int i => some (.int i)
  | .bool k => some (.int (if k then 1 else 0))
  | _ => none
theorem c_int : CallR X (.type "int") (rFn X.K intD) := CallR.weak call_int1 fun xs H Q h => by
  obtain ⟨v, d, r, w, rfl, hd, hr, hw, q⟩ := h
  cases d with
  | int i => cases hr; cases hw; cases hd; exact .inl ⟨i, rfl, q⟩
  | bool k => cases hr; cases hw; cases hd; exact .inr ⟨k, rfl, q⟩
  | _ => cases hr
theorem d_fnT {x : Str} {T : String} {f : PyData → Option PyData} {ta : M VD} (hc : CallR X (.type T) (rFn X.K f)) (ha : PD X E a ta) (hg : Gl X x) (hm : X.mg x = none) (hv : bootBuiltins x = some (.type T)) (hn : x ≠ "__name__") (hd : (x == ("__debug__" : Str)) = false) (na : starEach [a] X.env = (false, eval a X.env) :: starEach [] X.env := by rfl) :
    PD X E (.Call (.Name x p) [a] [] pos) (eFn f ta) := PE.weak (pe_callTy hc hg hm hv (pa_cons ha pa_nil na) (hn := hn) (hdb := hd) (he := na)) fun σ H Q q => fnD q
theorem d_intOf {ta : M VD} (ha : PD X E a ta) (hm : X.mg "int" = none) (hg : Gl X "int" := by rfl) (na : starEach [a] X.env = (false, eval a X.env) :: starEach [] X.env := by rfl) : PD X E (.Call (.Name "int" p) [a] [] pos) (eFn intD ta) :=
  d_fnT c_int ha hg hm (by decide +kernel) (by decide) (by decide) na

/-! ### tuple(x), list(x) -/
def eTupOf (ta : M VD) : M VD := do let x ← ta; let c ← peek x; let ds ← ofO (asSeq c); pure (.dat (.tuple ds))
theorem d_tupOf {ta : M VD} (ha : PD X E a ta) (hm : X.mg "tuple" = none) (hg : Gl X "tuple" := by rfl) (na : starEach [a] X.env = (false, eval a X.env) :: starEach [] X.env := by rfl) : PD X E (.Call (.Name "tuple" p) [a] [] pos) (eTupOf ta) :=
  PE.weak (pe_callTy call_tuple_of hg hm (by decide +kernel) (pa_cons ha pa_nil na) (he := na)) fun σ H Q q => by
  obtain ⟨F, rs, S, G, m, p⟩ := q
  refine ⟨F, rs, S, G, m, (Post.seq p).mono fun v H1 ⟨rs1, S1, G1, x, u1, m1, r1, p1⟩ => ?_⟩
  obtain ⟨d, hd, p2⟩ := Post.peek p1
  obtain ⟨ds, hs, p3⟩ := Post.ofO p2
  obtain ⟨a, vs, rfl, hda, hk⟩ := m1.seq r1 hd hs
  rcases hk with ⟨rfl, hk⟩ | ⟨rfl, hk, hw⟩
  · exact ⟨a, vs, rfl, .inl ⟨.inl hk, fun q hq => newTup m1 hda p3 hq⟩⟩
  · exact ⟨a, vs, rfl, .inr ⟨hk, Post.ret m1 p3 hw⟩⟩
def eLstOf (ta : M VD) : M VD := do let x ← ta; let c ← peek x; let ds ← ofO (asSeq c); newL ds
theorem d_lstOf {ta : M VD} (ha : PD X E a ta) (hm : X.mg "list" = none) (hg : Gl X "list" := by rfl) (na : starEach [a] X.env = (false, eval a X.env) :: starEach [] X.env := by rfl) : PD X E (.Call (.Name "list" p) [a] [] pos) (eLstOf ta) :=
  PE.weak (pe_callTy call_list_of hg hm (by decide +kernel) (pa_cons ha pa_nil na) (he := na)) fun σ H Q q => by
  obtain ⟨F, rs, S, G, m, p⟩ := q
  refine ⟨F, rs, S, G, m, (Post.seq p).mono fun v H1 ⟨rs1, S1, G1, x, u1, m1, r1, p1⟩ => ?_⟩
  obtain ⟨d, hd, p2⟩ := Post.peek p1
  obtain ⟨ds, hs, p3⟩ := Post.ofO p2
  obtain ⟨a, vs, rfl, hda, hk⟩ := m1.seq r1 hd hs
  rcases hk with ⟨rfl, hk⟩ | ⟨rfl, hk, hw⟩
  · exact ⟨a, vs, rfl, .inl (.inl hk), fun q hq => newLst m1 hda p3 hq⟩
  · exact ⟨a, vs, rfl, .inr hk, fun q hq => newLst m1 hda p3 hq⟩

/-! ### all(list of bools) -/
def boolsD : List PyData → Option (List Bool)
  | [] => some []
  | .bool b :: ds => (boolsD ds).map (b :: ·)
  | _ => none
def allD (d : PyData) : Option PyData := match d with
  | .list ds => (boolsD ds).map fun bs => .bool (bs.all id)
  | _ => none
theorem bools_dd {K : PySem.W.Frag} : ∀ {vs : List V} {ds : List PyData} {bs : List Bool}, DdAll K H vs ds → boolsD ds = some bs → vs = bs.map V.bl
  | _, _, bs, .nil, h => by cases h; rfl
  | _, _, bs, .cons (d := d) (ds := ds) h1 h2, h => by
    cases d with
    | bool b =>
      unfold boolsD at h
      cases e : boolsD ds with
      | none => rw [e] at h; exact nomatch h
      | some bs' =>
        rw [e] at h
        cases h
        cases h1
        rw [bools_dd h2 e]
        rfl
    | _ => cases h
theorem c_all (hc : X.calm = true) : CallR X (.builtin "all") (rFn X.K allD) := CallR.weak (cr_all hc) fun xs H Q h => by
  obtain ⟨v, d, r, w, rfl, hd, hr, hw, q⟩ := h
  cases d with
  | list ds =>
    unfold allD at hr
    dsimp only at hr
    cases e : boolsD ds with
    | none => rw [e] at hr; cases hr
    | some bs =>
      rw [e] at hr
      cases hr; cases hw
      cases hd with
      | @lst a vs _ h1 h2 => exact ⟨a, bs, rfl, .inl (by rw [← bools_dd h2 e]; exact h1), q⟩
  | _ => cases hr
theorem d_all {ta : M VD} (hc : X.calm = true) (ha : PD X E a ta) (hm : X.mg "all" = none) (hg : Gl X "all" := by rfl) (na : starEach [a] X.env = (false, eval a X.env) :: starEach [] X.env := by rfl) : PD X E (.Call (.Name "all" p) [a] [] pos) (eFn allD ta) :=
  d_fnB (c_all hc) ha hg hm (by decide +kernel) (by decide) (by decide) na

/-! ### x.append(y), x[i] = y -/
def pushC (x : VD) (y : VD) : M VD := do
  let d ← toD y
  match x with
  | .rf j => fun S => match S.ce[j]? with
    | some (true, ds) => if ds.length < 16777216 then .ok (.dat .none, { S with ce := S.ce.set j (true, ds ++ [d]) }) else .bad
    | _ => .bad
  | _ => M.bad
def isRf : VD → M Unit
  | .rf _ => pure ()
  | _ => M.bad
def eApp (to te : M VD) : M VD := do let x ← to; isRf x; let y ← te; pushC x y
theorem Rd.lst_tracked {a : Addr} (m : Md X.K X.wd F rs S σ H G) {j : Nat} {ds : List PyData} (ha : rs[j]? = some a) (h : S.ce[j]? = some (true, ds)) : ∃ vs, H a = some (.lst vs) ∧ DdAll X.K G vs ds := by
  obtain ⟨_, _, vs, hv, hd⟩ := m.cel j a _ ha h
  exact ⟨vs, hv, hd⟩
theorem d_app {o : Expr} {to te : M VD} (ho : PD X E o to) (he : PD X E e te) (hs : starEach [e] X.env = (false, eval e X.env) :: starEach [] X.env := by rfl)
    (hbase : attributeBase o "append" X.env (eval o X.env) = eval o X.env := by rfl)
    (hfew : ((backTo pos (starEach [e] X.env)).all (fun x => !x.1) && (backToKw pos (keywordEach [] X.env)).all (fun x => x.1.isSome)
      && decide ([e].length + ([] : List Keyword).length + (if ([] : List Keyword).isEmpty then 0 else 1) < 30)) = true := by rfl)
    (hline : (apos.endLine == pos.line) = true := by rfl) (hplain : (backTo pos (starEach [] X.env)).any (·.1) = false := by rfl) : PD X E (.Call (.Attribute o "append" apos) [e] [] pos) (eApp to te) :=
  PE.weak (pe_bm PySem.F.plainAttrs_list PySem.F.slot_list_append PySem.F.type_list_append mt_append ho (pa_cons he pa_nil hs) hbase hfew hline hs hplain) fun σ H Q q => by
  obtain ⟨F, rs, S, G, m, p⟩ := q
  refine ⟨F, rs, S, G, m, (Post.seq p).mono fun v H1 ⟨rs1, S1, G1, x, u1, m1, r1, p1⟩ => ?_⟩
  -- it is a live list when the argument is there; it is a list now
  cases x with
  | dat d => exact p1.elim
  | bag _ => exact p1.elim
  | st _ => exact p1.elim
  | ex _ => exact p1.elim
  | exs _ => exact p1.elim
  | rf j =>
    obtain ⟨a, ha, rfl⟩ := r1
    have p1 : Post X.K X.wd X.mg E F σ (RdV X.K X.wd) rs1 G1 ((te >>= fun y => pushC (.rf j) y) S1) Q := p1
    refine ⟨.inl ⟨rfl, ?_⟩, ?_⟩
    · have hj : j < S1.ce.length := by rw [← m1.rl]; exact (List.getElem?_eq_some_iff.mp ha).1
      obtain ⟨vs, h1, _⟩ := CellOk.list m1.sub (m1.cel j a _ ha (List.getElem?_eq_getElem hj))
      exact ⟨vs, .inl h1⟩
    · refine ⟨F, rs1, S1, G1, m1, (Post.seq p1).mono fun w H2 ⟨rs2, S2, G2, y, u2, m2, r2, p2⟩ => ?_⟩
      unfold pushC at p2
      obtain ⟨d, S3, G3, s3, m3, rd, p3⟩ := m2.toD r2 p2
      dsimp only at p3
      have ha2 : rs2[j]? = some a := by
        obtain ⟨⟨more, rfl⟩, _⟩ := u2
        rw [List.getElem?_append_left (List.getElem?_eq_some_iff.mp ha).1]
        exact ha
      cases e : S3.ce[j]? with
      | none => rw [e] at p3; exact p3.elim
      | some c =>
        obtain ⟨live, ds⟩ := c
        rw [e] at p3
        cases live with
        | false => exact p3.elim
        | true =>
          dsimp only at p3
          split at p3
          · rename_i hz
            obtain ⟨vs, hv, hd⟩ := Rd.lst_tracked m3 ha2 e
            refine ⟨a, vs, w, rfl, rfl, hv, by rw [DdAll.length hd, sizeLine_eq]; exact hz, ?_⟩
            exact p3 .non _ G3 rs2 Up.refl (m3.write ha2 e (DdAll.append hd (.cons rd .nil))) .non
          · exact p3.elim
/-- x[i] = y as a target -/
def setC (o i x : VD) : M Unit := do
  let d ← toD x
  match o, i with
  | .rf j, .dat (.int k) => fun S => match S.ce[j]? with
    | some (true, ds) => match ixN ds.length k with
      | some q => .ok ((), { S with ce := S.ce.set j (true, ds.set q d) })
      | none => .bad
    | _ => .bad
  | _, _ => M.bad
def gSubD (to ti : M VD) (x : VD) : M Unit := do let o ← to; let i ← ti; setC o i x
theorem PostU.ok {K : PySem.W.Frag} {wl : Wd} {is : List Nat} {α : Type} {t : M α} {g : α → M Unit} {Q : L2.St → Hp → Prop} (h : PostU K wl F rs G is σ ((t >>= g) S) Q) : ∃ p, t S = .ok p ∧ PostU K wl F rs G is σ (g p.1 p.2) Q := by
  rw [M.bind_run] at h
  cases e : t S with
  | ok p => rw [e] at h; exact ⟨p, rfl, h⟩
  | exc _ _ => rw [e] at h; exact h.elim
  | bad => rw [e] at h; exact h.elim
theorem PostU.up {K : PySem.W.Frag} {wl : Wd} {is : List Nat} {rs1 : List Addr} {G1 : Hp} (u : Up rs G rs1 G1) {r : R (Unit × DS)} {Q : L2.St → Hp → Prop} (h : PostU K wl F rs G is σ r Q) : PostU K wl F rs1 G1 is σ r Q := by
  cases r with
  | ok p => exact fun σ' H' G' rs' u' m o => h σ' H' G' rs' (u.trans u') m o
  | exc _ _ => exact h
  | bad => exact h
theorem g_sub {o i : Expr} {to ti : M VD} (ho : PD X E0 o to) (hi : PD X E0 i ti) (ha : ∀ v, assign (.Subscript o i pos) X.env v = (do let ov ← holding [v] (eval o X.env); let iv ← holding [v, ov] (eval i X.env); standAt pos; holding [v, ov, iv] (setItem ov iv v); release [v, ov, iv] []) := by intro _; rfl) : PDG X [] (.Subscript o i pos) (gSubD to ti) := PG.weak (pg_sub ho hi set_list ha) fun v σ H Q q => by
  obtain ⟨F, rs, S, G, x, m, r, p⟩ := q
  obtain ⟨⟨od, S1⟩, e1, p1⟩ := PostU.ok p
  refine ⟨F, rs, S, G, m, Post.okE (E' := E0) (Q' := fun _ _ => True) e1 fun ov H1 G1 rs1 u1 m1 r1 => ?_⟩
  obtain ⟨⟨id, S2⟩, e2, p2⟩ := PostU.ok p1
  refine ⟨F, rs1, S1, G1, m1, Post.okE (E' := E0) (Q' := fun _ _ => True) e2 fun iv H2 G2 rs2 u2 m2 r2 => ?_⟩
  have up2 := u1.trans u2
  have p3 := PostU.up up2 p2
  unfold setC at p3
  dsimp only at p3
  obtain ⟨⟨d, S3⟩, e3, p4⟩ := PostU.ok p3
  have pp : Post X.K X.wd X.mg E0 F σ (fun _ _ (a b : PyData × DS) => True) rs2 G2 ((DL.toD x >>= fun d => (fun S => .ok ((d, S), S) : M (PyData × DS))) S2) (fun _ _ => True) := by
    rw [M.bind_run, e3]
    exact fun _ _ _ _ _ _ _ => trivial
  have key : ∃ G3, Same G2 G3 ∧ Md X.K X.wd F rs2 S3 σ H2 G3 ∧ Dd X.K G3 v d := by
    have rx := RdV.up up2 r
    cases x with
    | dat d9 =>
      have e : (d9, S2) = (d, S3) := R.ok.inj e3
      cases e
      exact ⟨G2, L2.Same.refl _, m2, rx⟩
    | bag _ => cases e3
    | st _ => cases e3
    | ex _ => cases e3
    | exs _ => cases e3
    | rf j =>
      obtain ⟨a, ha, rfl⟩ := rx
      unfold DL.toD at e3
      dsimp only at e3
      cases ej : S2.ce[j]? with
      | none => rw [ej] at e3; cases e3
      | some c =>
        obtain ⟨b, ds⟩ := c
        rw [ej] at e3
        cases b with
        | true =>
          cases e3
          obtain ⟨G3, sg, m3, rd⟩ := m2.freeze ha ej
          exact ⟨G3, sg, m3, rd⟩
        | false =>
          cases e3
          obtain ⟨vs, hv, hd⟩ := m2.cel j a _ ha ej
          exact ⟨G2, L2.Same.refl _, m2, .lst (Rd.of hv) hd⟩
  obtain ⟨G3, s3, m3, rd⟩ := key
  have p5 := PostU.up (⟨⟨[], by simp⟩, s3⟩ : Up rs2 G2 rs2 G3) p4
  cases od with
  | dat _ => exact p5.elim
  | bag _ => exact p5.elim
  | st _ => exact p5.elim
  | ex _ => exact p5.elim
  | exs _ => exact p5.elim
  | rf j =>
    cases id with
    | rf _ => exact p5.elim
    | bag _ => exact p5.elim
    | st _ => exact p5.elim
    | ex _ => exact p5.elim
    | exs _ => exact p5.elim
    | dat k =>
      cases k with
      | int k =>
        dsimp only at p5
        obtain ⟨a, ha, rfl⟩ := RdV.up u2 r1
        cases (show Dd X.K G2 iv (.int k) from r2)
        cases ej : S3.ce[j]? with
        | none => rw [ej] at p5; exact p5.elim
        | some c =>
          obtain ⟨b, ds⟩ := c
          rw [ej] at p5
          cases b with
          | false => exact p5.elim
          | true =>
            dsimp only at p5
            cases eq : ixN ds.length k with
            | none => rw [eq] at p5; exact p5.elim
            | some q =>
              rw [eq] at p5
              obtain ⟨vs, hv, hd⟩ := Rd.lst_tracked m3 ha ej
              exact ⟨a, vs, k, q, rfl, rfl, hv, by rw [DdAll.length hd]; exact eq, p5 _ _ G3 rs2 Up.refl (m3.write ha ej (DdAll.set rd q hd)) Off.refl⟩
      | _ => exact p5.elim
/-- a, b = x, y -/
def sPar (i j : Nat) (t : M (List VD)) : MS := do
  let vs ← t
  match vs with
  | [x, y] => do setSl i x; setSl j y; pure .nx
  | _ => M.bad
theorem s_par {i j : Nat} {x y : Str} {a b : Expr} {ta : M (List VD)} {px py pt : Pos} {kt k2 : Nat} {pt2 : Pos} (hc : X.calm = true) (hN : X.N.Nodup) (ha : PDA X E [a, b] ta) (hi : X.N[i]? = some x := by rfl) (hj : X.N[j]? = some y := by rfl) (hij : i ≠ j := by decide)
    (hx : X.env.scope.names.lookup x = some .local := by rfl) (hy : X.env.scope.names.lookup y = some .local := by rfl)
    (hw : swappedStores [.Tuple [.Name x px, .Name y py] kt pt] (.Tuple [a, b] k2 pt2) X.env = pure (some [x, y]) := by rfl) (hs : swapsWithSole [.Tuple [.Name x px, .Name y py] kt pt] (.Tuple [a, b] k2 pt2) pos.line X.env = pure false := by rfl) :
    PDS X E (.Assign [.Tuple [.Name x px, .Name y py] kt pt] (.Tuple [a, b] k2 pt2) pos) (sPar i j ta) := PS.weak (ps_par hc hN hi hj hij hx hy ha hw hs) fun D σ H q => by
  obtain ⟨F, rs, S, G, m, p⟩ := q
  refine ⟨F, rs, S, G, m, (PostS.expr p).mono fun vs H1 ⟨rs1, S1, G1, xs, u1, m1, r1, p1⟩ => ?_⟩
  match xs, vs, r1, p1 with
  | [x, y], [v, w], r1, p1 => exact ⟨v, w, rfl, p1 _ H1 G1 rs1 Up.refl ((m1.store r1.1).store r1.2.1)⟩
  | [], _, _, p1 => exact p1.elim
  | [_], _, _, p1 => exact p1.elim
  | _ :: _ :: _ :: _, _, _, p1 => exact p1.elim
  | [_, _], [], r1, _ => exact r1.elim
  | [_, _], [_], r1, _ => exact r1.2.elim
  | [_, _], _ :: _ :: _ :: _, r1, _ => exact r1.2.2.elim
end
end DL
/-! DL11: defs that call defs. -/
namespace DL
open PySem PySem.Spec L2
/-- a def of the module under its name, kept at level k -/
def Fnk (P : Program) (w : World) (K : PySem.W.Frag) (mg : Str → Option Value) (base : Heap) (x : Str) (n k : Nat) (den : Fd) : Prop :=
  ∃ (f : Addr) (fd : FuncData) (ps : List Str), DG.FnG P w K mg base k f fd ps (spD K w mg n den) ∧ mg x = some (.ref f) ∧ PySem.W.keepIn K (.ref f) = true ∧ Binds K fd ps []
theorem Fnk.has {X : Cx} {E : XK} {x : Str} {n k j : Nat} {den : Fd} (h : Fnk X.prog X.w X.K X.mg X.base x n k den) (hgd : X.A.guards = some []) (hr : Room j X.A) (hp : Passes (L2.CX X.prog X.w) X E) (hk : k ≤ j := by decide) : Has X E x n den :=
  let ⟨f, fd, ps, F, hm, hkk, hb⟩ := h
  ⟨⟨k, f, fd, ps, F, hgd, hr.mono hk, hm, hkk, hb, hp⟩⟩
theorem passB {P : Program} {w : World} {K : PySem.W.Frag} {mg : Str → Option Value} {base : Heap} {N : List Str} {qual : Str} {sc : Scope} {f : Addr} {cd : Value} {A : Around} {outer : List Env} {s : Shared} {H : Hp} {E : XK} :
    Passes (L2.CX P w) (cxOf (L2.CX P w) P w K mg base N qual sc f cd A outer s H E) E := passes_call (takes_of rfl rfl rfl rfl) fun _ _ _ _ h => h
theorem huB {j : Nat} {A : Around} (hr : Room j A) : A.units + 200 < cLine := by have := hr.un; omega
theorem Fnk.mk {P : Program} {w : World} {K : PySem.W.Frag} {mg : Str → Option Value} {base : Heap} {x : Str} {k : Nat} {den : Fd} {f : Addr} {fd : FuncData} {ps : List Str} (F : DG.FnG P w K mg base k f fd ps (spD K w mg ps.length den)) (hm : mg x = some (.ref f)) (hk : PySem.W.keepIn K (.ref f) = true) (hb : Binds K fd ps []) : Fnk P w K mg base x ps.length k den :=
  ⟨f, fd, ps, F, hm, hk, hb⟩
end DL
/-! DL13: exceptions of own classes: made, read, asked. -/
namespace DL
open PySem PySem.Spec L2 EX

/-! ### what __init__ promises: one field a parameter, under the parameter's name -/
def mkH (H : Hp) (a C dx : Addr) (fs : List (Str × V)) : Hp := upd (upd H dx (exd dx fs)) a (exo a C (some dx))
def iniSp (C : Addr) (names : List Str) : Sp := fun vs H Q _ => ∃ (a : Addr) (ys : List V), vs = .ref a :: ys ∧ ys.length = names.length ∧ H a = some (exo a C none) ∧
  ((names = [] ∧ Q .non H) ∨ (names ≠ [] ∧ ∀ dx, H dx = none → dx ≠ a → Q .non (mkH H a C dx (names.reverse.zip ys.reverse))))
theorem ini_len {C : Addr} {names : List Str} : ∀ (vs : List V) (H : Hp) (Q : VK) (E : XK), iniSp C names vs H Q E → vs.length = (("self" : Str) :: names).length := by
  rintro vs H Q E ⟨a, ys, rfl, hl, _⟩
  simp [hl]
theorem mkH_again {H : Hp} {a C dx : Addr} {fs gs : List (Str × V)} (h : dx ≠ a) : upd (mkH H a C dx fs) dx (exd dx gs) = mkH H a C dx gs := by
  funext b
  unfold mkH
  by_cases h1 : b = dx
  · subst h1; rw [upd_same, upd_ne h, upd_same]
  · rw [upd_ne h1]
    by_cases h2 : b = a
    · subst h2; rw [upd_same, upd_same]
    · rw [upd_ne h2, upd_ne h2, upd_ne h1, upd_ne h1]
/-- the bodies: no field, one, two -/
theorem ini1 {K : PySem.W.Frag} {C : Addr} {n : Str} (T : XcE K C) (h1 : W.takerIn K C n = some none) {vs : List V} {H : Hp} {Q : VK} {E : XK} (h : iniSp C [n] vs H Q E) :
    tSto K n (tVar 0) (tVar 1) { nx := fun _ H' => Q .non H', rt := Q } (L2.start ["self", n] vs) H := by
  obtain ⟨a, ys, rfl, hl, ha, h⟩ := h
  match ys, hl with
  | [y], _ =>
    rcases h with h | ⟨_, h⟩
    · cases h.1
    · exact ⟨y, rfl, .ref a, rfl, a, C, rfl, T, h1, .inl ⟨ha, fun dx n1 n2 => h dx n1 n2⟩⟩
theorem ini2 {K : PySem.W.Frag} {C : Addr} {n m : Str} (T : XcE K C) (h1 : W.takerIn K C n = some none) (h2 : W.takerIn K C m = some none) {vs : List V} {H : Hp} {Q : VK} {E : XK} (h : iniSp C [n, m] vs H Q E) :
    tSeq (tSto K n (tVar 0) (tVar 1)) (tSto K m (tVar 0) (tVar 2)) { nx := fun _ H' => Q .non H', rt := Q } (L2.start ["self", n, m] vs) H := by
  obtain ⟨a, ys, rfl, hl, ha, h⟩ := h
  match ys, hl with
  | [y, z], _ =>
    rcases h with h | ⟨_, h⟩
    · cases h.1
    · refine ⟨y, rfl, .ref a, rfl, a, C, rfl, T, h1, .inl ⟨ha, fun dx n1 n2 => ?_⟩⟩
      refine ⟨z, rfl, .ref a, rfl, a, C, rfl, T, h2, .inr ⟨dx, [(n, y)], upd_same, (upd_ne n2).trans upd_same, by simp, ?_⟩⟩
      have e := h dx n1 n2
      show Q .non (upd (mkH H a C dx [(n, y)]) dx (exd dx [(m, z), (n, y)]))
      rw [mkH_again n2]
      exact e
/-- a class that is called: under its name, its fields in the order of the parameters -/
structure MkO (P : Program) (w : World) (K : PySem.W.Frag) (mg : Str → Option Value) (base : Heap) (cls : Str) (names : List Str) : Prop where
  ex : ∃ (C fI : Addr) (fd : FuncData), mg cls = some (.ref C) ∧ XcE K C ∧ W.findIn K (.ref C) "__init__" = some (some (.ref fI)) ∧ W.typeIn K (.ref fI) = some (.type "function") ∧ FnOk P w K mg base CX0 1 fI fd (("self" : Str) :: names) (iniSp C names) ∧
    KBn K fd (("self" : Str) :: names) (names.length + 1) [] (fun us _ => us) (fun us _ => us) ∧ KBn K fd (("self" : Str) :: names) 1 names (fun us ws => us ++ ws) (fun us ws => us ++ ws) ∧ KBn K fd (("self" : Str) :: names) 1 names.reverse (fun us ws => us ++ ws.reverse) (fun us ws => us ++ ws.reverse)
section
variable {K : PySem.W.Frag} {wl : Wd} {F : Hp} {rs : List Addr} {S : DS} {σ : L2.St} {H G : Hp}
theorem DdAll.reverse' {vs : List V} {ds : List PyData} (h : DdAll K G vs ds) : DdAll K G vs.reverse ds.reverse := DdAll.reverse h
def exV (cls : Str) (names : List Str) (ds : List PyData) : Str × List (Str × PyData) := (cls, names.reverse.zip ds.reverse)
/-- the object stands: as a value -/
theorem exNew {mg : Str → Option Value} {E : XK} {Q : VK} {cls : Str} {names : List Str} {C : Addr} {vs : List V} {ds : List PyData} (m : Md K wl F rs S σ H G) (hm : wl.mg cls = some (.ref C)) (hd : DdAll K G vs ds) (hl : ds.length = names.length)
    (h : Post K wl mg E F σ (RdV K wl) rs G (.ok (.ex (exV cls names ds), S)) Q) {a : Addr} (ha : H a = none) {Q' : VK} (hq : ∀ H3, Q (.ref a) H3 → Q' .non H3) : iniSp C names (.ref a :: vs) (upd H a (exo a C none)) Q' (fun _ _ _ => False) := by
  have hvl : vs.length = names.length := (DdAll.length hd).trans hl
  refine ⟨a, vs, rfl, hvl, upd_same, ?_⟩
  by_cases hn : names = []
  · subst hn
    have e0 : ds = [] := List.length_eq_zero_iff.mp hl
    subst e0
    exact .inl ⟨rfl, hq _ (h (.ref a) _ (upd G a (exo a C none)) rs ⟨⟨[], by simp⟩, same_upd (L2.Same.free m.sub ha)⟩ (m.new ha) ⟨a, C, none, rfl, hm, upd_same, .inl ⟨rfl, rfl⟩⟩)⟩
  · refine .inr ⟨hn, fun dx hx ne => hq _ ?_⟩
    have hx' : H dx = none := by rw [upd_ne ne] at hx; exact hx
    have ha' : upd H dx (exd dx (names.reverse.zip vs.reverse)) a = none := by rw [upd_ne (Ne.symm ne)]; exact ha
    have e : mkH (upd H a (exo a C none)) a C dx (names.reverse.zip vs.reverse) = upd (upd H dx (exd dx (names.reverse.zip vs.reverse))) a (exo a C (some dx)) := by
      funext b
      unfold mkH
      by_cases h1 : b = a
      · subst h1; rw [upd_same, upd_same]
      · rw [upd_ne h1, upd_ne h1]
        by_cases h2 : b = dx
        · subst h2; rw [upd_same, upd_same]
        · rw [upd_ne h2, upd_ne h2, upd_ne h1]
    rw [e]
    have m1 := m.new (o := exd dx (names.reverse.zip vs.reverse)) hx'
    have gx := L2.Same.free m.sub hx'
    have ga := L2.Same.free m1.sub ha'
    have sg : Same G (upd (upd G dx (exd dx (names.reverse.zip vs.reverse))) a (exo a C (some dx))) := L2.Same.trans (same_upd gx) (same_upd ga)
    have l1 : names.reverse.length = ds.reverse.length := by simp [hl]
    refine h (.ref a) _ (upd (upd G dx (exd dx (names.reverse.zip vs.reverse))) a (exo a C (some dx))) rs ⟨⟨[], by simp⟩, sg⟩ (m1.new ha') ⟨a, C, some dx, rfl, hm, upd_same, .inr ⟨dx, vs.reverse, rfl, ?_, ?_⟩⟩
    · show upd (upd G dx _) a _ dx = some (exd dx (((names.reverse.zip ds.reverse).map (·.1)).zip vs.reverse))
      rw [upd_ne ne, upd_same, show (names.reverse.zip ds.reverse).map (·.1) = names.reverse from List.map_fst_zip (Nat.le_of_eq l1)]
    · show DdAll K _ vs.reverse ((names.reverse.zip ds.reverse).map (·.2))
      rw [show (names.reverse.zip ds.reverse).map (·.2) = ds.reverse from List.map_snd_zip (Nat.le_of_eq l1.symm)]
      exact DdAll.same sg _ _ (DdAll.reverse hd)
end
/-! ### the rules -/
abbrev PDK (X : Cx) (E : XK) (kws : List Keyword) (t : M (List VD)) : Prop := PK X kws (liftA X.K X.wd X.mg E t)
def eMk (cls : Str) (names : List Str) (t : M (List VD)) : M VD := do let xs ← t; let ds ← toDs xs; chk (decide (ds.length = names.length)); pure (.ex (exV cls names ds))
def eMkR (cls : Str) (names : List Str) (t : M (List VD)) : M VD := do let xs ← t; let ds ← toDs xs; chk (decide (ds.length = names.length)); pure (.ex (exV cls names ds.reverse))
section
variable {X : Cx} {E : XK} {e o : Expr} {es : List Expr} {kws : List Keyword} {pos p : Pos} {x : Str} {names : List Str}
theorem k_nil : PDK X E [] (pure []) := ⟨fun _ _ _ σ H Q I q => wpAny_evalAll_nil (by
  obtain ⟨F, rs, S, G, m, p⟩ := q
  exact ⟨[], H, I, .nil, Post.ret (b := []) m p trivial⟩)⟩
theorem PK.weak {t t' : TA} (h : PK X kws t) (k : ∀ σ H Q, t' σ H Q → t σ H Q) : PK X kws t' := ⟨fun pos pins s σ H Q I q => h.run pos pins s σ H Q I (k _ _ _ q)⟩
theorem k_cons {a : M VD} {t : M (List VD)} {nm : Option Str} {kp : Pos} (ha : PD X E e a) (ht : PDK X E kws t) : PDK X E (⟨nm, e, kp⟩ :: kws) (aCons a t) := PK.weak (pk_cons ha ht) fun σ H Q q => by
  obtain ⟨F, rs, S, G, m, p⟩ := q
  refine ⟨F, rs, S, G, m, (Post.seq p).mono fun v H1 ⟨rs1, S1, G1, x, u1, m1, r1, p1⟩ => ?_⟩
  refine ⟨F, rs1, S1, G1, m1, (Post.seq p1).mono fun vs H2 ⟨rs2, S2, G2, xs, u2, m2, r2, p2⟩ => ?_⟩
  exact Post.ret (b := v :: vs) m2 p2 ⟨RdV.up u2 r1, r2⟩
theorem d_mk {t : M (List VD)} (hh : MkO X.prog X.w X.K X.mg X.base x names) (hr : Room 2 X.A) (hl : names.length ≤ 1000) (hg : Gl X x) (ht : PDA X E (e :: es) t) (hdb : (x == ("__debug__" : Str)) = false := by decide)
    (he : starEach (e :: es) X.env = (false, eval e X.env) :: starEach es X.env := by rfl) (hpl : (backTo pos (starEach es X.env)).any (·.1) = false := by rfl) : PD X E (.Call (.Name x p) (e :: es) [] pos) (eMk x names t) := by
  obtain ⟨C, fI, fd, hm, T, h1, h2, h3, h4, _, _⟩ := hh.ex
  refine PE.weak (pe_mkX (n := names.length) T h1 h2 h3 hr h4 (fun _ _ _ _ _ _ _ z => z.elim) hg hm ht hdb he hpl) fun σ H Q q => ?_
  obtain ⟨F, rs, S, G, m, p⟩ := q
  refine ⟨F, rs, S, G, m, (Post.seq p).mono fun vs H1 ⟨rs1, S1, G1, xs, u1, m1, r1, p1⟩ => ?_⟩
  obtain ⟨ds, S2, G2, sg, m2, rd, p2⟩ := m1.toDs r1 p1
  obtain ⟨hz, p3⟩ := Post.chk p2
  have hz' := of_decide_eq_true hz
  exact ⟨(DdAll.length rd).trans hz', rfl, hl, fun a ha => exNew m2 hm rd hz' p3 ha fun H3 z => ⟨rfl, z⟩⟩
theorem d_mk0 (hh : MkO X.prog X.w X.K X.mg X.base x []) (hr : Room 2 X.A) (hg : Gl X x) (hdb : (x == ("__debug__" : Str)) = false := by decide) : PD X E (.Call (.Name x p) [] [] pos) (eMk x [] (pure [])) := by
  obtain ⟨C, fI, fd, hm, T, h1, h2, h3, h4, _, _⟩ := hh.ex
  refine PE.weak (pe_mkX0 T h1 h2 h3 hr h4 (fun _ _ _ _ _ _ _ z => z.elim) hg hm hdb) fun σ H Q q => ?_
  obtain ⟨F, rs, S, G, m, p⟩ := q
  exact ⟨rfl, rfl, Nat.zero_le _, fun a ha => exNew (ds := []) m hm .nil rfl p ha fun H3 z => ⟨rfl, z⟩⟩
theorem d_mkK {t : M (List VD)} (hh : MkO X.prog X.w X.K X.mg X.base x names) (hr : Room 2 X.A) (hg : Gl X x) (ht : PDK X E kws t) (hall : (backToKw pos (keywordEach kws X.env)).all (·.1.isSome) = true := by rfl) (hks : (backToKw pos (keywordEach kws X.env)).filterMap (·.1) = names := by rfl) (hdb : (x == ("__debug__" : Str)) = false := by decide)
    (hpl : ((backTo pos (starEach [] X.env)).any (·.1) || (backToKw pos (keywordEach kws X.env)).any (·.1.isNone)) = false := by rfl) : PD X E (.Call (.Name x p) [] kws pos) (eMk x names t) := by
  obtain ⟨C, fI, fd, hm, T, h1, h2, h3, _, h4, _⟩ := hh.ex
  refine PE.weak (pe_mkXK T h1 h2 h3 hr h4 (fun _ _ _ _ _ _ _ z => z.elim) hg hm ht hall hks hdb hpl) fun σ H Q q => ?_
  obtain ⟨F, rs, S, G, m, p⟩ := q
  refine ⟨F, rs, S, G, m, (Post.seq p).mono fun vs H1 ⟨rs1, S1, G1, xs, u1, m1, r1, p1⟩ => ?_⟩
  obtain ⟨ds, S2, G2, sg, m2, rd, p2⟩ := m1.toDs r1 p1
  obtain ⟨hz, p3⟩ := Post.chk p2
  have hz' := of_decide_eq_true hz
  exact ⟨rfl, (DdAll.length rd).trans hz', Nat.zero_le _, fun a ha => exNew m2 hm rd hz' p3 ha fun H3 z => ⟨rfl, z⟩⟩
theorem d_mkKR {t : M (List VD)} (hh : MkO X.prog X.w X.K X.mg X.base x names) (hr : Room 2 X.A) (hg : Gl X x) (ht : PDK X E kws t) (hall : (backToKw pos (keywordEach kws X.env)).all (·.1.isSome) = true := by rfl) (hks : (backToKw pos (keywordEach kws X.env)).filterMap (·.1) = names.reverse := by rfl) (hdb : (x == ("__debug__" : Str)) = false := by decide)
    (hpl : ((backTo pos (starEach [] X.env)).any (·.1) || (backToKw pos (keywordEach kws X.env)).any (·.1.isNone)) = false := by rfl) : PD X E (.Call (.Name x p) [] kws pos) (eMkR x names t) := by
  obtain ⟨C, fI, fd, hm, T, h1, h2, h3, _, _, h4⟩ := hh.ex
  refine PE.weak (pe_mkXK T h1 h2 h3 hr h4 (fun _ _ _ _ _ _ _ z => z.elim) hg hm ht hall hks hdb hpl) fun σ H Q q => ?_
  obtain ⟨F, rs, S, G, m, p⟩ := q
  refine ⟨F, rs, S, G, m, (Post.seq p).mono fun vs H1 ⟨rs1, S1, G1, xs, u1, m1, r1, p1⟩ => ?_⟩
  obtain ⟨ds, S2, G2, sg, m2, rd, p2⟩ := m1.toDs r1 p1
  obtain ⟨hz, p3⟩ := Post.chk p2
  have hz' := of_decide_eq_true hz
  exact ⟨rfl, by rw [List.length_reverse]; exact (DdAll.length rd).trans hz', Nat.zero_le _, fun a ha => exNew (ds := ds.reverse) m2 hm (DdAll.reverse rd) (by rw [List.length_reverse]; exact hz') p3 ha fun H3 z => ⟨rfl, z⟩⟩
end
end DL
/-! DL14: exceptions: fields, isinstance, lists of them, for over these; repr. -/
namespace DL
open PySem PySem.Spec L2 EX

/-- the classes of the module: name, fields -/
structure ClsTb (K : PySem.W.Frag) (mg : Str → Option Value) (tb : List (Str × List Str)) : Prop where
  ok : ∀ (c : Str) (ns : List Str) (C : Addr), tb.lookup c = some ns → mg c = some (.ref C) → XcE K C ∧ ∀ n ∈ ns, W.findIn K (.ref C) n = some none
theorem look_cons {β : Type} (f g : Str) (y : β) (fs : List (Str × β)) : ((f, y) :: fs).lookup g = if g = f then some y else fs.lookup g := by
  by_cases h : g = f
  · subst h; simp [List.lookup]
  · have e : (g == f) = false := beq_eq_false_iff_ne.mpr h
    rw [if_neg h]; simp [List.lookup, e]
section
variable {K : PySem.W.Frag} {G : Hp}
theorem zip_lookup {n : Str} {d : PyData} : ∀ {fs : List (Str × PyData)} {vs : List V}, DdAll K G vs (fs.map (·.2)) → fs.lookup n = some d → ∃ v, ((fs.map (·.1)).zip vs).lookup n = some v ∧ Dd K G v d
  | [], _, _, h => by cases h
  | (m, e) :: fs, _, .cons (v := v) hv ht, h => by
    rw [look_cons] at h
    show ∃ w, ((m, v) :: (fs.map (·.1)).zip _).lookup n = some w ∧ Dd K G w d
    rw [look_cons]
    by_cases hn : n = m
    · rw [if_pos hn] at h ⊢
      cases h
      exact ⟨v, rfl, hv⟩
    · rw [if_neg hn] at h ⊢
      exact zip_lookup ht h
end
def eGet (tb : List (Str × List Str)) (n : Str) (te : M VD) : M VD := do
  let x ← te
  match x with
  | .ex e => do
    let ns ← ofO (tb.lookup e.1)
    chk (decide (n ∈ ns))
    let d ← ofO (e.2.lookup n)
    pure (.dat d)
  | _ => M.bad
/-- isinstance(e, c): which classes of tb are a c -/
def eIsX (tb : List (Str × List Str)) (isA : Str → Bool) (te : M VD) : M VD := do
  let x ← te
  match x with
  | .ex e => do
    let _ ← ofO (tb.lookup e.1)
    pure (.dat (.bool (isA e.1)))
  | _ => M.bad
def allEx : List VD → Option (List (Str × List (Str × PyData)))
  | [] => some []
  | .ex e :: xs => (allEx xs).map (e :: ·)
  | _ :: _ => none
def eLstX (t : M (List VD)) : M VD := do let xs ← t; let es ← ofO (allEx xs); chk (decide (es.length ≤ 1000)); pure (.exs es)
section
variable {X : Cx} {E : XK} {e a : Expr} {es : List Expr} {pos p : Pos} {tb : List (Str × List Str)} {n : Str}
theorem d_getx {te : M VD} (hT : ClsTb X.K X.mg tb) (he : PD X E e te) (hb : attributeBase e n X.env (eval e X.env) = eval e X.env := by rfl) : PD X E (.Attribute e n pos) (eGet tb n te) := PE.weak (pe_getX he hb) fun σ H Q q => by
  obtain ⟨F, rs, S, G, m, p⟩ := q
  refine ⟨F, rs, S, G, m, (Post.seq p).mono fun v H1 ⟨rs1, S1, G1, x, u1, m1, r1, p1⟩ => ?_⟩
  cases x with
  | ex e =>
    obtain ⟨ns, hns, p2⟩ := Post.ofO p1
    obtain ⟨hc, p3⟩ := Post.chk p2
    obtain ⟨d, hd, p4⟩ := Post.ofO p3
    obtain ⟨a, C, dd, rfl, hm, ha, hf⟩ := r1
    obtain ⟨T, hT⟩ := hT.ok e.1 ns C hns hm
    rcases hf with ⟨_, h0⟩ | ⟨dx, vs, rfl, hx, hv⟩
    · rw [h0] at hd; cases hd
    · obtain ⟨w, hw, rw'⟩ := zip_lookup hv hd
      exact ⟨a, C, dx, _, w, rfl, T, hT n (of_decide_eq_true hc), m1.sub _ _ ha, m1.sub _ _ hx, hw, Post.ret m1 p4 rw'⟩
  | _ => exact p1.elim
theorem d_isX {t : Expr} {ta : M VD} {cv : V} {u : Value} {isA : Str → Bool} (hT : ClsTb X.K X.mg tb) (hk : ∀ (c : Str) (ns : List Str) (C : Addr), tb.lookup c = some ns → X.mg c = some (.ref C) → W.kitOne X.K (.ref C) u = some (isA c)) (hc : ClsV cv u)
    (ha : PD X E a ta) (ht : PE X t (tC cv)) (hm : X.mg "isinstance" = none) (hg : Gl X "isinstance" := by rfl)
    (hs : starEach [a, t] X.env = (false, eval a X.env) :: starEach [t] X.env := by rfl) (hs2 : starEach [t] X.env = (false, eval t X.env) :: starEach [] X.env := by rfl) (hpl : (backTo pos (starEach [t] X.env)).any (·.1) = false := by rfl) :
    PD X E (.Call (.Name "isinstance" p) [a, t] [] pos) (eIsX tb isA ta) := PE.weak (pe_callB call_isX hg hm (by decide +kernel) (pa_cons ha (pa_cons ht pa_nil hs2) hs) (he := hs) (hpl := hpl)) fun σ H Q q => by
  obtain ⟨F, rs, S, G, m, p⟩ := q
  refine ⟨F, rs, S, G, m, (Post.seq p).mono fun v H1 ⟨rs1, S1, G1, x, u1, m1, r1, p1⟩ => ?_⟩
  cases x with
  | ex e =>
    obtain ⟨ns, hns, p2⟩ := Post.ofO p1
    obtain ⟨a, C, dd, rfl, hm', ha, hf⟩ := r1
    refine ⟨a, C, dd, cv, u, isA e.1, rfl, hc, (hT.ok e.1 ns C hns hm').1, m1.sub _ _ ha, ?_, hk e.1 ns C hns hm', Post.ret m1 p2 (.bl _)⟩
    rcases hf with ⟨h0, _⟩ | ⟨dx, vs, h0, hx, _⟩
    · exact .inl h0
    · exact .inr ⟨dx, _, h0, m1.sub _ _ hx⟩
  | _ => exact p1.elim
theorem rdxs_of {rs : List Addr} {G : Hp} : ∀ {xs : List VD} {vs : List V} {es : List (Str × List (Str × PyData))}, RdVs X.K X.wd rs G xs vs → allEx xs = some es → RdXs X.K X.wd G es vs
  | [], [], _, _, h => by cases h; trivial
  | [], _ :: _, _, r, _ => r.elim
  | .ex e :: xs, v :: vs, es, r, h => by
    have h' : (allEx xs).map (e :: ·) = some es := h
    cases q : allEx xs with
    | none => rw [q] at h'; cases h'
    | some es' =>
      rw [q] at h'; cases h'
      exact ⟨r.1, rdxs_of r.2 q⟩
  | .dat _ :: _, _, _, _, h => by cases h
  | .rf _ :: _, _, _, _, h => by cases h
  | .bag _ :: _, _, _, _, h => by cases h
  | .st _ :: _, _, _, _, h => by cases h
  | .exs _ :: _, _, _, _, h => by cases h
  | .ex _ :: _, [], _, r, _ => r.elim
theorem RdXs.length {K : PySem.W.Frag} {wl : Wd} {G : Hp} : ∀ {es : List (Str × List (Str × PyData))} {vs : List V}, RdXs K wl G es vs → es.length = vs.length
  | [], [], _ => rfl
  | _ :: _, _ :: _, h => by simp [RdXs.length h.2]
  | [], _ :: _, h => h.elim
  | _ :: _, [], h => h.elim
theorem d_lstX {t : M (List VD)} (ht : PDA X E es t) : PD X E (.List es pos) (eLstX t) := PE.weak (pe_lst ht) fun σ H Q q => by
  obtain ⟨F, rs, S, G, m, p⟩ := q
  refine ⟨F, rs, S, G, m, (Post.seq p).mono fun vs H1 ⟨rs1, S1, G1, xs, u1, m1, r1, p1⟩ => ?_⟩
  obtain ⟨es', he, p2⟩ := Post.ofO p1
  obtain ⟨hz, p3⟩ := Post.chk p2
  have hx := rdxs_of r1 he
  refine ⟨by rw [← RdXs.length hx]; exact sz1000 (of_decide_eq_true hz), fun q hq => ?_⟩
  have gq : G1 q = none := L2.Same.free m1.sub hq
  exact p3 (.ref q) _ (upd G1 q (.lst vs)) rs1 ⟨⟨[], by simp⟩, same_upd gq⟩ (m1.new hq) ⟨q, vs, rfl, .inl (.inl upd_same), RdXs.same (same_upd gq) hx⟩

/-! ### for over a list of exceptions -/
structure SrcX (K : PySem.W.Frag) (wl : Wd) (J : It) (G0 : Hp) (es : List (Str × List (Str × PyData))) : Prop where
  stop : ∀ (H G : Hp), Same G0 G → Same G H → J.stop es.length H
  go : ∀ (i : Nat) (H G : Hp), i < es.length → Same G0 G → Same G H → J.go i H
  yld : ∀ (i : Nat) (H G : Hp) (x : V) (H' : Hp), i < es.length → Same G0 G → Same G H → J.yld i H x H' → H' = H ∧ ∃ e, es[i]? = some e ∧ RdX K wl G e x
theorem RdXs.get {K : PySem.W.Frag} {wl : Wd} {G : Hp} : ∀ {es : List (Str × List (Str × PyData))} {vs : List V} {i : Nat} {v : V}, RdXs K wl G es vs → vs[i]? = some v → ∃ e, es[i]? = some e ∧ RdX K wl G e v
  | _ :: _, _ :: _, 0, _, h, e => by simp at e; subst e; exact ⟨_, rfl, h.1⟩
  | _ :: _, _ :: _, i + 1, v, h, e => by
    obtain ⟨d, h1, h2⟩ := RdXs.get (i := i) (v := v) h.2 (by simpa using e)
    exact ⟨d, by simpa using h1, h2⟩
  | [], [], _, _, _, e => by simp at e
  | [], _ :: _, _, _, h, _ => h.elim
  | _ :: _, [], _, _, h, _ => h.elim
def srcX (t : M VD) : M (List (Str × List (Str × PyData))) := do
  let x ← t
  match x with
  | .exs es => pure es
  | _ => M.bad
abbrev PDIX (X : Cx) (E : XK) (tg iter : Expr) (src : M (List (Str × List (Str × PyData)))) : Prop := PI X tg iter (lift X.K X.wd X.mg E (fun _ G es J => SrcX X.K X.wd J G es) src)
theorem i_exs {tg l : Expr} {t : M VD} (hl : PD X E l t) : PDIX X E tg l (srcX t) := by
  refine ⟨fun pins s σ H R I h => ?_⟩; obtain ⟨F, rs, S, G, m, p⟩ := h
  refine thn (hl.run pins s σ H _ I ⟨F, rs, S, G, m, Post.seq p⟩) fun v s1 ⟨x, H1, I1, r1, rs1, S1, G1, xd, u1, m1, rx, p1⟩ => ?_
  cases xd with
  | exs es =>
    obtain ⟨a, xs, rfl, hs, hx⟩ := rx
    cases r1
    have hq : SqL X.K H1 a xs := L2.Same.seq m1.sub hs; obtain ⟨its, rv, p', hz⟩ := I1.list hq
    refine wpAny_pyIter_list p'.isList ⟨s1.heap.objs.size, [s1.heap.objs.size], _, Itl X.K a, H1, rfl, I1.kept (t' := s1.toks) fun b o e => Heap.get?_push_of_some _ e, turn_list a _, ⟨_, Heap.get?_push_size _ rfl, rfl, rfl⟩, fun b hb => ?_, ?_⟩
    · obtain rfl : b = s1.heap.objs.size := List.mem_singleton.mp hb; exact I1.fpOk (Nat.le_refl _) (I1.hok.fresh (Nat.le_refl _))
    · refine p1 (Itl X.K a) H1 G1 rs1 Up.refl m1 ⟨fun H G s1 s2 => ⟨xs, L2.Same.seq s2 (L2.Same.seq s1 hs), Nat.le_of_eq (RdXs.length hx).symm⟩, fun i H G hi s1 s2 => ?_, fun i H G x H' hi s1 s2 y => ?_⟩
      · have hi' : i < xs.length := by rw [← RdXs.length hx]; exact hi
        exact ⟨xs, xs[i], L2.Same.seq s2 (L2.Same.seq s1 hs), List.getElem?_eq_getElem hi'⟩
      · obtain ⟨e, y⟩ := y
        obtain ⟨d, h1, h2⟩ := RdXs.get hx (y xs (L2.Same.seq s2 (L2.Same.seq s1 hs)))
        exact ⟨e, d, h1, RdX.same s1 h2⟩
  | _ => exact p1.elim
def forX (g : VD → M Unit) (body : MS) : List (Str × List (Str × PyData)) → MS
  | [] => pure .nx
  | e :: es => do
    let _ ← noX (g (.ex e))
    let f ← body
    match f with
    | .nx => forX g body es
    | .ct => forX g body es
    | .bk => pure .nx
    | .rt x => pure (.rt x)
def sForX (src : M (List (Str × List (Str × PyData)))) (g : VD → M Unit) (body : MS) : MS := do let es ← src; forX g body es
theorem s_forX {tg iter : Expr} {body : List Stmt} {src : M (List (Str × List (Str × PyData)))} {g : VD → M Unit} {t : MS} (hp : PassesOwn (model X.prog X.w) X.A X.env X.xe) (hc : X.calm = true) (hi : PDIX X E tg iter src) {is : List Nat} (hg : PDG X is tg g) (hb : PDSs X E body t)
    (hs : ∀ x, foldedSetIterable iter X.env x = pure x := by intro _; rfl) : PDS X E (.For tg iter body [] pos) (sForX src g t) := PS.weak (ps_for hp hc hi hg hb hs) fun D σ H q => by
  obtain ⟨F, rs, S, G, m, p⟩ := q
  refine ⟨F, rs, S, G, m, (PostS.expr p).mono fun J H1 ⟨rs1, S1, G1, es, u1, m1, r1, p1⟩ => ?_⟩
  refine ⟨fun i n σ' H' => n = es.length - i ∧ i ≤ es.length ∧ ∃ rs2 S2 G2, Up rs1 G1 rs2 G2 ∧ Md X.K X.wd F rs2 S2 σ' H' G2 ∧ PostS X.K X.wd X.mg E F rs2 G2 (forX g t (es.drop i) S2) D, ⟨es.length, by simp, by simp, rs1, S1, G1, Up.refl, m1, by simpa using p1⟩, ?_⟩
  rintro i n σ' H' ⟨rfl, hi, rs2, S2, G2, u2, m2, p2⟩
  by_cases hlt : i < es.length
  · refine .inr ⟨r1.go i H' G2 hlt u2.2 m2.sub, fun σ'' H'' => ∃ rs3 S3 G3, Up rs1 G1 rs3 G3 ∧ Md X.K X.wd F rs3 S3 σ'' H'' G3 ∧ PostS X.K X.wd X.mg E F rs3 G3 (forX g t (es.drop (i + 1)) S3) D,
      fun σ'' H'' ⟨rs3, S3, G3, u3, m3, p3⟩ => ⟨es.length - (i + 1), by omega, rfl, hlt, rs3, S3, G3, u3, m3, p3⟩, fun x H'' y => ?_⟩
    obtain ⟨rfl, d, hd, rd⟩ := r1.yld i H' G2 x H'' hlt u2.2 m2.sub y
    refine ⟨F, rs2, S2, G2, .ex d, m2, rd, ?_⟩
    have hdrop : es.drop i = d :: es.drop (i + 1) := by
      rw [List.drop_eq_getElem_cons hlt]; congr 1
      have z := List.getElem?_eq_getElem hlt
      rw [hd] at z; exact (Option.some.inj z).symm
    rw [hdrop] at p2
    unfold forX at p2
    rw [M.bind_run] at p2
    unfold noX at p2
    cases e : g (.ex d) S2 with
    | exc _ _ => rw [e] at p2; exact p2.elim
    | bad => rw [e] at p2; exact p2.elim
    | ok q =>
      rw [e] at p2
      simp only [R.bind] at p2
      intro σ4 H4 G4 rs4 u4 m4 _
      refine ⟨F, rs4, q.2, G4, m4, ?_⟩
      rw [M.bind_run] at p2
      cases e2 : t q.2 with
      | bad => rw [e2] at p2; exact p2.elim
      | exc x S' =>
        rw [e2] at p2
        exact PostS.up (r := .exc x S') u4 p2
      | ok w =>
        rw [e2] at p2
        obtain ⟨f, S5⟩ := w
        intro σ5 H5 G5 rs5 u5 m5
        have up5 := u4.trans u5
        cases f with
        | nx => exact ⟨rs5, S5, G5, u2.trans up5, m5, PostS.up up5 p2⟩
        | ct => exact ⟨rs5, S5, G5, u2.trans up5, m5, PostS.up up5 p2⟩
        | bk => exact p2 σ5 H5 G5 rs5 up5 m5
        | rt x => exact p2 σ5 H5 G5 rs5 up5 m5
  · have e : i = es.length := by omega
    subst e
    refine .inl ⟨r1.stop H' G2 u2.2 m2.sub, ?_⟩
    rw [List.drop_length] at p2
    exact p2 σ' H' G2 rs2 Up.refl m2
end
end DL
/-! DL15: repr of lists and tuples. -/
namespace DL
open PySem PySem.Spec L2
def reprD (d : PyData) : Option Str := if d.showable && !d.hasDict && decide (d.depth ≤ 100) && decide (d.shown.length ≤ 16777216) then
    match d with
    | .list _ => some d.shown
    | .tuple _ => some d.shown
    | _ => none
  else none
def rRepr (K : PySem.W.Frag) : List V → Hp → VK → Prop := fun xs H Q => ∃ (x : V) (d : PyData) (y : Str), xs = [x] ∧ Dd K H x d ∧ reprD d = some y ∧ Q (.str y) H
theorem reprD_ref {K : PySem.W.Frag} {H : Hp} {x : V} {d : PyData} {y : Str} (h : reprD d = some y) (hd : Dd K H x d) : (∃ a, x = .ref a) ∧ d.showable = true ∧ d.hasDict = false ∧ d.depth ≤ 100 ∧ d.shown.length ≤ 16777216 ∧ y = d.shown := by
  unfold reprD at h
  split at h
  · rename_i c
    simp only [Bool.and_eq_true, decide_eq_true_eq, Bool.not_eq_true'] at c
    refine ⟨?_, c.1.1.1, c.1.1.2, c.1.2, c.2, ?_⟩
    · cases hd with
      | lst _ _ => exact ⟨_, rfl⟩
      | tup _ _ => exact ⟨_, rfl⟩
      | _ => cases h
    · cases hd <;> first | cases h | skip
      all_goals rfl
  · cases h
theorem c_repr {X : Cx} (hgd : X.A.guards = some []) (hu : X.A.units + 200 < cLine) : CallR X (.builtin "repr") (rRepr X.K) := by
  rintro pins s σ H xs us Q I r ⟨x, d, y, rfl, hd, hy, q⟩
  obtain ⟨u, rfl, ru⟩ := vals1 r; obtain ⟨⟨a, rfl⟩, h1, h2, h3, h4, rfl⟩ := reprD_ref hy hd
  cases ru
  obtain ⟨as, rd⟩ := Dd.reads I d (.ref a) (.ref a) hd rfl
  exact repr_of_reads' rd h1 (PyData.noDict_hsm h2) hgd (by omega) (fun _ _ z => z) (fun h' u tk hk => ⟨.str d.shown, H, I.kept (t' := tk) fun b o z => hk b o z, ⟨u, rfl⟩, q⟩) (by rw [sizeLine_eq]; omega)
def eRepr (t : M VD) : M VD := do let x ← t; let d ← peek x; let y ← ofO (reprD d); pure (.dat (.str y))
theorem d_repr {X : Cx} {E : XK} {a : Expr} {pos p : Pos} {ta : M VD} (hgd : X.A.guards = some []) (hu : X.A.units + 200 < cLine) (ha : PD X E a ta) (hm : X.mg "repr" = none) (hg : Gl X "repr" := by rfl)
    (hs : starEach [a] X.env = (false, eval a X.env) :: starEach [] X.env := by rfl) (hpl : (backTo pos (starEach [] X.env)).any (·.1) = false := by rfl) : PD X E (.Call (.Name "repr" p) [a] [] pos) (eRepr ta) := PE.weak (pe_callB (c_repr hgd hu) hg hm (by decide +kernel) (pa_cons ha pa_nil hs) (he := hs) (hpl := hpl)) fun σ H Q q => by
  obtain ⟨F, rs, S, G, m, p⟩ := q
  refine ⟨F, rs, S, G, m, (Post.seq p).mono fun v H1 ⟨rs1, S1, G1, x, u1, m1, r1, p1⟩ => ?_⟩
  obtain ⟨d, hd, p2⟩ := Post.peek p1
  obtain ⟨y, hy, p3⟩ := Post.ofO p2
  exact ⟨v, d, y, rfl, m1.peek r1 hd, hy, Post.ret m1 p3 (.str y)⟩
end DL
/-! DL16: the classes' __init__, from the text. -/
namespace DL
open PySem PySem.Spec L2 EX
/-- the first def of a class of the text -/
def clsInit (s : Stmt) : Stmt := match s with
  | .ClassDef _ _ _ (b :: _) _ _ _ _ _ _ _ => b
  | _ => .Pass ⟨0, 0, 0, 0⟩
/-! ### the base's __init__(self), as RuntimeError.__init__(self) -/
def tBI (K : PySem.W.Frag) (newId : String) (bmB : List Value) (ta : TA) : TE := fun σ H Q => ta σ H fun vs H1 => ∃ a C : Addr, vs = [.ref a] ∧ Xc K C newId bmB ∧ H1 a = some (exo a C none) ∧ Q .non H1
theorem boot_RE : bootBuiltins "RuntimeError" = some (.type "RuntimeError") := by decide +kernel
theorem typ_RE : typeOf (.type "RuntimeError") = pure (.type "type") := by kernel_rfl
open PyProof.Rows in
theorem pe_reinit {X : Cx} {e : Expr} {ta : TA} {p1 p2 pos : Pos} {pl : Sem Bool} (hg : Gl X "RuntimeError") (hm : X.mg "RuntimeError" = none) (vV : PySem.W.findCls X.K (.type "RuntimeError") (.type "type") "__init__" = some (.val (.builtin "RuntimeError.__init__"))) (ha : PA X [e] ta)
    (hc : eval (.Call (.Attribute (.Name "RuntimeError" p1) "__init__" p2) [e] [] pos) X.env = (do let ov ← eval (.Name "RuntimeError" p1) X.env; standAt p2.atName; let (f, first) ← holding [ov] (getMethod ov "__init__" pl); callWith pos f first (backTo pos (starEach [e] X.env)) (backToKw pos (keywordEach [] X.env))) := by rfl)
    (he : starEach [e] X.env = (false, eval e X.env) :: starEach [] X.env := by rfl) (hpl : (backTo pos (starEach [] X.env)).any (·.1) = false := by rfl) :
    PE X (.Call (.Attribute (.Name "RuntimeError" p1) "__init__" p2) [e] [] pos) (tBI X.K "RuntimeError.__new__" [.type "RuntimeError", .type "Exception", .type "BaseException", .type "object"] ta) := by
  refine ⟨fun pins s σ H Q I h => PySem.W.methodCall_KW (ld_blt I hg hm boot_RE ?_ (by decide) (by decide)) hc⟩
  obtain ⟨m, fr⟩ := I.fr
  refine PySem.W.method_type fr I.ok.mod.kin typ_RE (by decide +kernel) vV (by decide +kernel) ?_
  show wpAny _ _ (callWith pos (Value.builtin "RuntimeError.__init__") [] (backTo pos (starEach [e] X.env)) []) _ _ _
  refine PyProof.Rows.callWith_method1 (thn (ha.run pos pins _ σ H _ (I.tok _) h) fun us s1 z => ?_) he hpl
  obtain ⟨vs, H1, I1, r1, a, C, ev, T, ea, q⟩ := z
  subst ev; obtain ⟨u, rfl, ru⟩ := vals1 r1
  cases ru
  exact baseInit (us := []) eb_RE T I1 ea (Nat.zero_le _) fun s' J => ⟨.non, H1, J, rfl, q⟩
theorem ini0 {K : PySem.W.Frag} {C : Addr} (T : Xc K C "RuntimeError.__new__" [.type "RuntimeError", .type "Exception", .type "BaseException", .type "object"]) {vs : List V} {H : Hp} {Q : VK} {E : XK} (h : iniSp C [] vs H Q E) :
    tDrop (tBI K "RuntimeError.__new__" [.type "RuntimeError", .type "Exception", .type "BaseException", .type "object"] (tCons (tVar 0) tNil)) { nx := fun _ H' => Q .non H', rt := Q } (L2.start ["self"] vs) H := by
  obtain ⟨a, ys, rfl, hl, ha, h⟩ := h
  obtain rfl : ys = [] := List.length_eq_zero_iff.mp hl
  rcases h with ⟨_, h⟩ | h
  · exact ⟨.ref a, rfl, a, C, rfl, T, ha, h⟩
  · exact (h.1 rfl).elim
/-! ### how the arguments bind -/
section
variable {P : Program} {w : World} {K : PySem.W.Frag} {mg : Str → Option Value} {base : Heap} {cls n m qual : Str} {st : Stmt} {fI C : Addr} {fd : FuncData}
abbrev initFn (qual : Str) (st : Stmt) (kV doc pm : Value) (an : Option Addr) (cdv ct : Value) : FuncData := PySem.W.fnOf "__init__" qual (defArgs st) (defBody st) (defScope st) .none kV doc pm an cdv ct
theorem mko1 (Fn : Fun K "__init__" qual st fI fd) (hm : mg cls = some (.ref C)) (T : XcE K C) (iC : W.findIn K (.ref C) "__init__" = some (some (.ref fI))) (tI : W.typeIn K (.ref fI) = some (.type "function")) (F1 : FnOk P w K mg base CX0 1 fI fd [("self" : Str), n] (iniSp C [n]))
    (b0 : ∀ (kV doc pm : Value) (an : Option Addr) (cdv ct u v : Value), bindArgs (initFn qual st kV doc pm an cdv ct) ⟨[u, v], []⟩ = pure [(("self" : Str), u), (n, v)])
    (b1 : ∀ (kV doc pm : Value) (an : Option Addr) (cdv ct u v : Value), bindArgs (initFn qual st kV doc pm an cdv ct) ⟨[u], [(n, v)]⟩ = pure [(("self" : Str), u), (n, v)]) : MkO P w K mg base cls [n] := by
  obtain ⟨oc, od, kV, doc, pm, an, cdv, ct, osl, rfl, lk, hcd⟩ := Fn.ex
  refine ⟨⟨C, fI, _, hm, T, iC, tI, F1, ⟨fun s us ws _ l1 l2 => ?_, fun r _ => r⟩, ⟨fun s us ws _ l1 l2 => ?_, fun r r2 => r.append r2⟩, ⟨fun s us ws _ l1 l2 => ?_, fun r r2 => r.append r2.reverse⟩⟩⟩
  · match us, l1 with
    | [u, v], _ => exact .of_eq (b0 _ _ _ _ _ _ u v)
  · match us, l1, ws, l2 with
    | [u], _, [v], _ => exact .of_eq (b1 _ _ _ _ _ _ u v)
  · match us, l1, ws, l2 with
    | [u], _, [v], _ => exact .of_eq (b1 _ _ _ _ _ _ u v)
theorem mko2 (Fn : Fun K "__init__" qual st fI fd) (hm : mg cls = some (.ref C)) (T : XcE K C) (iC : W.findIn K (.ref C) "__init__" = some (some (.ref fI))) (tI : W.typeIn K (.ref fI) = some (.type "function")) (F1 : FnOk P w K mg base CX0 1 fI fd [("self" : Str), n, m] (iniSp C [n, m]))
    (b0 : ∀ (kV doc pm : Value) (an : Option Addr) (cdv ct u v x : Value), bindArgs (initFn qual st kV doc pm an cdv ct) ⟨[u, v, x], []⟩ = pure [(("self" : Str), u), (n, v), (m, x)])
    (b1 : ∀ (kV doc pm : Value) (an : Option Addr) (cdv ct u v x : Value), bindArgs (initFn qual st kV doc pm an cdv ct) ⟨[u], [(n, v), (m, x)]⟩ = pure [(("self" : Str), u), (n, v), (m, x)])
    (b2 : ∀ (kV doc pm : Value) (an : Option Addr) (cdv ct u v x : Value), bindArgs (initFn qual st kV doc pm an cdv ct) ⟨[u], [(m, x), (n, v)]⟩ = pure [(("self" : Str), u), (n, v), (m, x)]) : MkO P w K mg base cls [n, m] := by
  obtain ⟨oc, od, kV, doc, pm, an, cdv, ct, osl, rfl, lk, hcd⟩ := Fn.ex
  refine ⟨⟨C, fI, _, hm, T, iC, tI, F1, ⟨fun s us ws _ l1 l2 => ?_, fun r _ => r⟩, ⟨fun s us ws _ l1 l2 => ?_, fun r r2 => r.append r2⟩, ⟨fun s us ws _ l1 l2 => ?_, fun r r2 => r.append r2.reverse⟩⟩⟩
  · match us, l1 with
    | [u, v, x], _ => exact .of_eq (b0 _ _ _ _ _ _ u v x)
  · match us, l1, ws, l2 with
    | [u], _, [v, x], _ => exact .of_eq (b1 _ _ _ _ _ _ u v x)
  · match us, l1, ws, l2 with
    | [u], _, [x, v], _ => exact .of_eq (b2 _ _ _ _ _ _ u v x)
theorem mko0 (Fn : Fun K "__init__" qual st fI fd) (hm : mg cls = some (.ref C)) (T : XcE K C) (iC : W.findIn K (.ref C) "__init__" = some (some (.ref fI))) (tI : W.typeIn K (.ref fI) = some (.type "function")) (F1 : FnOk P w K mg base CX0 1 fI fd [("self" : Str)] (iniSp C []))
    (b0 : ∀ (kV doc pm : Value) (an : Option Addr) (cdv ct u : Value), bindArgs (initFn qual st kV doc pm an cdv ct) ⟨[u], []⟩ = pure [(("self" : Str), u)]) : MkO P w K mg base cls [] := by
  obtain ⟨oc, od, kV, doc, pm, an, cdv, ct, osl, rfl, lk, hcd⟩ := Fn.ex
  refine ⟨⟨C, fI, _, hm, T, iC, tI, F1, ⟨fun s us ws _ l1 l2 => ?_, fun r _ => r⟩, ⟨fun s us ws _ l1 l2 => ?_, fun r r2 => r.append r2⟩, ⟨fun s us ws _ l1 l2 => ?_, fun r r2 => r.append r2.reverse⟩⟩⟩
  · match us, l1 with
    | [u], _ => exact .of_eq (b0 _ _ _ _ _ _ u)
  · match us, l1, ws, l2 with
    | [u], _, [], _ => exact .of_eq (b0 _ _ _ _ _ _ u)
  · match us, l1, ws, l2 with
    | [u], _, [], _ => exact .of_eq (b0 _ _ _ _ _ _ u)
end
end DL
/-! DL17: isinstance of an exception, by the class's name. -/
namespace DL
open PySem PySem.Spec L2 EX
/-- of the classes of tb, C itself alone is a C -/
def IsO (K : PySem.W.Frag) (mg : Str → Option Value) (tb : List (Str × List Str)) (C : Str) : Prop := ∃ Cc : Addr, mg C = some (.ref Cc) ∧ ∀ (c : Str) (ns : List Str) (D : Addr), tb.lookup c = some ns → mg c = some (.ref D) → W.kitOne K (.ref D) (.ref Cc) = some (decide (c = C))
/-- which of the classes of tb are a T -/
def IsB (K : PySem.W.Frag) (mg : Str → Option Value) (tb : List (Str × List Str)) (isA : Str → Bool) (T : String) : Prop := ∀ (c : Str) (ns : List Str) (D : Addr), tb.lookup c = some ns → mg c = some (.ref D) → W.kitOne K (.ref D) (.type T) = some (isA c)
section
variable {X : Cx} {E : XK} {a : Expr} {pos p pt : Pos} {tb : List (Str × List Str)} {ta : M VD}
theorem d_isO {C : Str} (hT : ClsTb X.K X.mg tb) (hC : IsO X.K X.mg tb C) (ha : PD X E a ta) (hm : X.mg "isinstance" = none) (hg : Gl X "isinstance" := by rfl) (hgC : Gl X C := by rfl) (hdC : (C == ("__debug__" : Str)) = false := by decide)
    (hs : starEach [a, .Name C pt] X.env = (false, eval a X.env) :: starEach [.Name C pt] X.env := by rfl) (hs2 : starEach [.Name C pt] X.env = (false, eval (.Name C pt) X.env) :: starEach [] X.env := by rfl) (hpl : (backTo pos (starEach [.Name C pt] X.env)).any (·.1) = false := by rfl) :
    PD X E (.Call (.Name "isinstance" p) [a, .Name C pt] [] pos) (eIsX tb (fun c => decide (c = C)) ta) := by
  obtain ⟨Cc, hm2, hk⟩ := hC
  exact d_isX hT hk (.own Cc) ha (pe_glob hgC hm2 rfl hdC) hm hg hs hs2 hpl
theorem d_isB {T : Str} {T' : String} {isA : Str → Bool} (hT : ClsTb X.K X.mg tb) (hB : IsB X.K X.mg tb isA T') (hv : bootBuiltins T = some (.type T')) (hmT : X.mg T = none) (ha : PD X E a ta) (hm : X.mg "isinstance" = none) (hg : Gl X "isinstance" := by rfl) (hgC : Gl X T := by rfl) (hn : T ≠ "__name__" := by decide) (hdC : (T == ("__debug__" : Str)) = false := by decide)
    (hs : starEach [a, .Name T pt] X.env = (false, eval a X.env) :: starEach [.Name T pt] X.env := by rfl) (hs2 : starEach [.Name T pt] X.env = (false, eval (.Name T pt) X.env) :: starEach [] X.env := by rfl) (hpl : (backTo pos (starEach [.Name T pt] X.env)).any (·.1) = false := by rfl) :
    PD X E (.Call (.Name "isinstance" p) [a, .Name T pt] [] pos) (eIsX tb isA ta) := d_isX hT hB (.ty T') ha (pe_bltn hgC hmT hv rfl hn hdC) hm hg hs hs2 hpl
end
end DL
/-! DL18: what the written part says of the module's own exception classes, as one check. -/
namespace DL
open PySem PySem.Spec L2 EX
/-- a class: name, fields, its built-in base (0 ValueError, 1 RuntimeError, 2 OverflowError), where it stands -/
abbrev ClsE := Str × List Str × Nat × Addr
def xcB (K : PySem.W.Frag) (C : Addr) (newId : String) (bmB : List Value) : Bool :=
  W.excInitIn K C bmB newId && (W.excOver K C bmB && (W.hasDictIn K C && (decide (W.findIn K (.ref C) "__setattr__" = some (some (.builtin "object.__setattr__"))) && (decide (W.subIn K (.ref C) (.type "BaseException") = some true) && (decide (W.typeIn K (.ref C) = some (.type "type")) && (W.keepIn K (.ref C) &&
  (decide (W.findIn K (.ref C) "__getattribute__" = some (some (.builtin "BaseException.__getattribute__"))) && (decide (W.findIn K (.ref C) "__getattr__" = some none) && (decide (W.findIn K (.ref C) "__class__" = some (some (.builtin "object.__class__"))) &&
  (decide (W.specialIn K (.builtin "object.__class__") "__get__" = some (some (.builtin "getset_descriptor.__get__"))) && (decide (W.takesIn K (.builtin "object.__class__") = some true) && decide (W.mroIn K C (.type "object") = some true))))))))))))
theorem xcB_ok {K : PySem.W.Frag} {C : Addr} {newId : String} {bmB : List Value} (h : xcB K C newId bmB = true) : Xc K C newId bmB := by
  unfold xcB at h; simp only [Bool.and_eq_true, decide_eq_true_eq] at h
  obtain ⟨h1, h2, h3, h4, h5, h6, h7, h8, h9, h10, h11, h12, h13⟩ := h
  exact ⟨h1, h2, h3, h4, h5, h6, h7, h8, h9, h10, h11, h12, h13⟩
def mroOfB : Nat → List Value
  | 0 => [.type "ValueError", .type "Exception", .type "BaseException", .type "object"]
  | 1 => [.type "RuntimeError", .type "Exception", .type "BaseException", .type "object"]
  | _ => [.type "OverflowError", .type "ArithmeticError", .type "Exception", .type "BaseException", .type "object"]
def newOfB : Nat → String
  | 0 => "ValueError.__new__"
  | 1 => "RuntimeError.__new__"
  | _ => "OverflowError.__new__"
theorem xc_of {K : PySem.W.Frag} {C : Addr} {b : Nat} (h : Xc K C (newOfB b) (mroOfB b)) : XcE K C := by
  match b, h with
  | 0, h => exact ⟨_, _, _, _, eb_VE, h⟩
  | 1, h => exact ⟨_, _, _, _, eb_RE, h⟩
  | _ + 2, h => exact ⟨_, _, _, _, eb_OE, h⟩
def clsB (K : PySem.W.Frag) (p : ClsE) : Bool := xcB K p.2.2.2 (newOfB p.2.2.1) (mroOfB p.2.2.1) && p.2.1.all fun n => decide (W.takerIn K p.2.2.2 n = some none) && decide (W.findIn K (.ref p.2.2.2) n = some none)
def clsAll (K : PySem.W.Frag) (cs : List ClsE) : Bool := cs.all (clsB K)
def kitOwn (K : PySem.W.Frag) (cs : List ClsE) : Bool := cs.all fun p => cs.all fun q => decide (W.kitOne K (.ref p.2.2.2) (.ref q.2.2.2) = some (decide (p.1 = q.1)))
def kitBlt (K : PySem.W.Frag) (cs : List ClsE) (isA : Str → Str → Bool) (T : String) : Bool := cs.all fun p => decide (W.kitOne K (.ref p.2.2.2) (.type T) = some (isA T p.1))
def tbOf (cs : List ClsE) : List (Str × List Str) := cs.map fun p => (p.1, p.2.1)
theorem lookup_mem {α β : Type} [BEq α] [LawfulBEq α] {a : α} {b : β} : ∀ {l : List (α × β)}, l.lookup a = some b → (a, b) ∈ l
  | [], h => by cases h
  | (x, y) :: l, h => by
    unfold List.lookup at h
    split at h
    · rename_i e
      cases h
      rw [eq_of_beq e]; exact List.mem_cons_self
    · exact List.mem_cons_of_mem _ (lookup_mem h)
section
variable {K : PySem.W.Frag} {mg : Str → Option Value} {cs : List ClsE}
theorem tb_in (hm : ∀ p ∈ cs, mg p.1 = some (.ref p.2.2.2)) {c : Str} {ns : List Str} {D : Addr} (h : (tbOf cs).lookup c = some ns) (hD : mg c = some (.ref D)) : ∃ p ∈ cs, p.1 = c ∧ p.2.1 = ns ∧ p.2.2.2 = D := by
  obtain ⟨p, hp, e⟩ := List.mem_map.mp (lookup_mem h)
  cases e
  have z := (hm p hp).symm.trans hD
  cases z
  exact ⟨p, hp, rfl, rfl, rfl⟩
theorem xcE_in (h : clsAll K cs = true) {p : ClsE} (hp : p ∈ cs) : XcE K p.2.2.2 ∧ ∀ n ∈ p.2.1, W.takerIn K p.2.2.2 n = some none ∧ W.findIn K (.ref p.2.2.2) n = some none := by
  have z := List.all_eq_true.mp h p hp
  unfold clsB at z
  obtain ⟨z1, z2⟩ := Bool.and_eq_true_iff.mp z
  refine ⟨xc_of (xcB_ok z1), fun n hn => ?_⟩
  have y := List.all_eq_true.mp z2 n hn
  simp only [Bool.and_eq_true, decide_eq_true_eq] at y
  exact y
theorem xc_in (h : clsAll K cs = true) {p : ClsE} (hp : p ∈ cs) : Xc K p.2.2.2 (newOfB p.2.2.1) (mroOfB p.2.2.1) := by
  have z := List.all_eq_true.mp h p hp
  unfold clsB at z
  exact xcB_ok (Bool.and_eq_true_iff.mp z).1
theorem clsTb (h : clsAll K cs = true) (hm : ∀ p ∈ cs, mg p.1 = some (.ref p.2.2.2)) : ClsTb K mg (tbOf cs) := ⟨fun c ns C h1 h2 => by
  obtain ⟨p, hp, rfl, rfl, rfl⟩ := tb_in hm h1 h2
  exact ⟨(xcE_in h hp).1, fun n hn => ((xcE_in h hp).2 n hn).2⟩⟩
theorem isO (h : kitOwn K cs = true) (hm : ∀ p ∈ cs, mg p.1 = some (.ref p.2.2.2)) {q : ClsE} (hq : q ∈ cs) : IsO K mg (tbOf cs) q.1 := ⟨q.2.2.2, hm q hq, fun c ns D h1 h2 => by
  obtain ⟨p, hp, rfl, rfl, rfl⟩ := tb_in hm h1 h2
  exact of_decide_eq_true (List.all_eq_true.mp (List.all_eq_true.mp h p hp) q hq)⟩
theorem isB {isA : Str → Str → Bool} {T : String} (h : kitBlt K cs isA T = true) (hm : ∀ p ∈ cs, mg p.1 = some (.ref p.2.2.2)) : IsB K mg (tbOf cs) (isA T) T := fun c ns D h1 h2 => by
  obtain ⟨p, hp, rfl, rfl, rfl⟩ := tb_in hm h1 h2
  exact of_decide_eq_true (List.all_eq_true.mp h p hp)
end
end DL
namespace K86
open PySem PySem.Spec L2 DL
def top (i : Nat) : Stmt := PySem.Challenge.pw_backasked_k86_errors_required.main.body.getD i (.Pass ⟨0, 0, 0, 0⟩)
def tb : List (Str × List Str) := [("InvalidStore", ["index"]), ("InvalidQuestion", ["part"]), ("InvalidProgram", ["index"]), ("InvalidWishes", ["index"]), ("InvalidOptions", ["index"]), ("InvalidClaim", ["part"]), ("ParseError", ["line"]), ("NothingDone", []), ("Refused", ["index"]), ("Banned", ["index", "things"]), ("Unfounded", ["fault"]), ("LimitExceeded", ["limit"])]
def sup : List (Str × List Str) := [("InvalidStore", ["ValueError"]), ("InvalidQuestion", ["ValueError"]), ("InvalidProgram", ["ValueError"]), ("InvalidWishes", ["ValueError"]), ("InvalidOptions", ["ValueError"]), ("InvalidClaim", ["ValueError"]), ("ParseError", ["ValueError"]), ("NothingDone", ["RuntimeError"]), ("Refused", ["RuntimeError"]), ("Banned", ["RuntimeError"]), ("Unfounded", ["RuntimeError"]), ("LimitExceeded", ["OverflowError"])]
def supD (T c : Str) : Bool := ((sup.lookup c).getD []).contains T
section
variable {base : Heap} {P : Program} {w : World} {K : PySem.W.Frag} {mg : Str → Option Value}
abbrev st_law_pen : Stmt := top 14
theorem sc_law_pen : FnScope ["script"] ["script"] (defScope st_law_pen) := ⟨rfl, rfl, rfl, by decide +kernel, rfl, by decide +kernel, by decide +kernel⟩
def b_law_pen : MS :=
    (sRet (eLst (aCons (eLstOf (eSl (eVar 0) oNone (oSome (eC (.int 63))))) (aCons (eC (.int 0)) (aCons (eC (.int 0)) (aCons (eLst (aCons (eC (.int 1)) (aCons (eC (.int 5)) (pure [])))) (pure [])))))))
def f_law_pen : Fd := runF 1 b_law_pen
theorem ok_law_pen {f : Addr} {fd : FuncData} (Fn : Fun K "_law_pen" "_law_pen" st_law_pen f fd) (b_list : mg "list" = none) : DG.FnG P w K mg base 1 f fd ["script"] (spD K w mg 1 f_law_pen) :=
  fn_ok Fn sc_law_pen fun cdv A outer s H E hg hr => by
    have hN := sc_law_pen.nd
    exact (s_one (s_ret (d_lst (d_cons (d_lstOf (d_sl (d_var 0 (pv 0)) p_none (p_some d_int)) b_list) (d_cons d_int (d_cons d_int (d_cons (d_lst (d_cons d_int (d_cons d_int d_nil))) d_nil)))))))

abbrev st_law_fresh : Stmt := top 15
theorem sc_law_fresh : FnScope ["pen", "cell", "prime", "state", "found", "lap", "seat", "given"] ["pen"] (defScope st_law_fresh) := ⟨rfl, rfl, rfl, by decide +kernel, rfl, by decide +kernel, by decide +kernel⟩
def b_law_fresh : MS :=
    (sSeq (sPar 6 7 (aCons (eIdx (eVar 0) (eC (.int 1))) (aCons (eIdx (eVar 0) (eC (.int 0))) (pure []))))
    (sSeq (sAsg (eAdd (eVar 6) (eC (.int 1))) (gSubD (eVar 0) (eC (.int 1))))
    (sSeq (sSet 1 (eIf (tOf (eOp fNe (eVar 7) (eLst (pure [])))) (eIdx (eVar 7) (eOp fMod (eFn intD (eVar 6)) (eFn lenD (eVar 7)))) (eC (.int 0))))
    (sSeq (sIf (tAndD (tOf (eOp fLtD (eVar 6) (eFn lenD (eVar 7)))) (tOf (eOp fGe (eVar 1) (eOp fPow (eC (.int 10)) (eC (.int 18)))))) (sRet (eOp fSub (eVar 1) (eOp fPow (eC (.int 10)) (eC (.int 18))))) sNil)
    (sSeq (sSet 2 (eC (.int 2305843009213693951)))
    (sSeq (sSet 3 (eOp fMod (eFn intD (eAdd (eAdd (eOp fMul (eVar 1) (eC (.int 48271))) (eOp fMul (eC (.int 60013)) (eVar 6))) (eC (.int 31)))) (eVar 2)))
    (sSeq (sSet 4 (eVar 3))
    (sSeq (sFor (srcRng (eC (.int 6))) (setSl 5) (sSeq (sSet 3 (eOp fMod (eFn intD (eAdd (eAdd (eOp fMul (eVar 3) (eVar 3)) (eOp fMul (eOp fMul (eC (.int 70139)) (eAdd (eVar 5) (eC (.int 5)))) (eAdd (eVar 6) (eC (.int 1))))) (eVar 1))) (eVar 2)))
    (sSet 4 (eAdd (eOp fMul (eVar 4) (eVar 2)) (eVar 3)))))
    (sRet (eVar 4))))))))))
def f_law_fresh : Fd := runF 8 b_law_fresh
theorem ok_law_fresh {f : Addr} {fd : FuncData} (Fn : Fun K "_law_fresh" "_law_fresh" st_law_fresh f fd) (b_int : mg "int" = none) (b_len : mg "len" = none) (b_range : mg "range" = none) : DG.FnG P w K mg base 1 f fd ["pen"] (spD K w mg 1 f_law_fresh) :=
  fn_ok Fn sc_law_fresh fun cdv A outer s H E hg hr => by
    have hN := sc_law_fresh.nd
    exact (s_cons (s_par (i := 6) (j := 7) rfl hN (d_cons (d_idx (d_var 0 (pv 0)) d_int) (d_cons (d_idx (d_var 0 (pv 0)) d_int) d_nil)))
    (s_cons (s_asg (d_add (d_var 6 (pv 6)) d_int) (g_sub (d_var 0 (pv 0)) d_int))
    (s_cons (s_set 1 hN (d_if (dt_cmp (o_ne (huB hr)) (d_var 7 (pv 7)) (d_lst d_nil) (nomark _)) (d_idx (d_var 7 (pv 7)) (d_op o_mod (d_intOf (d_var 6 (pv 6)) b_int) (d_len (d_var 7 (pv 7)) rfl b_len))) d_int))
    (s_cons (s_if (PW.pt (dw_and (dt_cmp (o_ltD (huB hr)) (d_var 6 (pv 6)) (d_len (d_var 7 (pv 7)) rfl b_len) (nomark _)) (dw_and1 (dt_cmp o_ge (d_var 1 (pv 1)) (d_op o_pow d_int d_int) (nomark _))))) (s_one (s_ret (d_op o_sub (d_var 1 (pv 1)) (d_op o_pow d_int d_int)))) s_nil)
    (s_cons (s_set 2 hN d_int)
    (s_cons (s_set 3 hN (d_op o_mod (d_intOf (d_add (d_add (d_op o_mul (d_var 1 (pv 1)) d_int) (d_op o_mul d_int (d_var 6 (pv 6)))) d_int) b_int) (d_var 2 (pv 2))))
    (s_cons (s_set 4 hN (d_var 3 (pv 3)))
    (s_cons (s_for (passes_of rfl) rfl (i_rng rfl b_range d_int) (g_name 5 hN) (s_cons (s_set 3 hN (d_op o_mod (d_intOf (d_add (d_add (d_op o_mul (d_var 3 (pv 3)) (d_var 3 (pv 3))) (d_op o_mul (d_op o_mul d_int (d_add (d_var 5 (pv 5)) d_int)) (d_add (d_var 6 (pv 6)) d_int))) (d_var 1 (pv 1))) b_int) (d_var 2 (pv 2))))
    (s_one (s_set 4 hN (d_add (d_op o_mul (d_var 4 (pv 4)) (d_var 2 (pv 2))) (d_var 3 (pv 3)))))))
    (s_one (s_ret (d_var 4 (pv 4))))))))))))

abbrev st_law_draw : Stmt := top 16
theorem sc_law_draw : FnScope ["pen", "bound", "digit"] ["pen", "bound"] (defScope st_law_draw) := ⟨rfl, rfl, rfl, by decide +kernel, rfl, by decide +kernel, by decide +kernel⟩
def b_law_draw : MS :=
    (sSeq (sIf (tOf (eOp fLtD (eIdx (eVar 0) (eC (.int 2))) (eVar 1))) (sAsg (eCall 1 f_law_fresh (aCons (eVar 0) (pure []))) (gSubD (eVar 0) (eC (.int 2)))) sNil)
    (sSeq (sSet 2 (eOp fMod (eFn intD (eIdx (eVar 0) (eC (.int 2)))) (eVar 1)))
    (sSeq (sAsg (eOp fDiv (eFn intD (eIdx (eVar 0) (eC (.int 2)))) (eVar 1)) (gSubD (eVar 0) (eC (.int 2))))
    (sRet (eVar 2)))))
def f_law_draw : Fd := runF 3 b_law_draw
theorem ok_law_draw {f : Addr} {fd : FuncData} (Fn : Fun K "_law_draw" "_law_draw" st_law_draw f fd) (b_int : mg "int" = none) (c_law_fresh : Fnk P w K mg base "_law_fresh" 1 1 f_law_fresh) : DG.FnG P w K mg base 2 f fd ["pen", "bound"] (spD K w mg 2 f_law_draw) :=
  fn_ok Fn sc_law_draw fun cdv A outer s H E hg hr => by
    have hN := sc_law_draw.nd
    exact (s_cons (s_if (dt_cmp (o_ltD (huB hr)) (d_idx (d_var 0 (pv 0)) d_int) (d_var 1 (pv 1)) (nomark _)) (s_one (s_asg (d_call (Fnk.has c_law_fresh hg hr passB) (runF_nosl _ _) rfl (d_cons (d_var 0 (pv 0)) d_nil)) (g_sub (d_var 0 (pv 0)) d_int))) s_nil)
    (s_cons (s_set 2 hN (d_op o_mod (d_intOf (d_idx (d_var 0 (pv 0)) d_int) b_int) (d_var 1 (pv 1))))
    (s_cons (s_asg (d_op o_div (d_intOf (d_idx (d_var 0 (pv 0)) d_int) b_int) (d_var 1 (pv 1))) (g_sub (d_var 0 (pv 0)) d_int))
    (s_one (s_ret (d_var 2 (pv 2)))))))

abbrev st_law_one_of : Stmt := top 17
theorem sc_law_one_of : FnScope ["pen", "some"] ["pen", "some"] (defScope st_law_one_of) := ⟨rfl, rfl, rfl, by decide +kernel, rfl, by decide +kernel, by decide +kernel⟩
def b_law_one_of : MS :=
    (sRet (eIdx (eVar 1) (eCall 2 f_law_draw (aCons (eVar 0) (aCons (eFn lenD (eVar 1)) (pure []))))))
def f_law_one_of : Fd := runF 2 b_law_one_of
theorem ok_law_one_of {f : Addr} {fd : FuncData} (Fn : Fun K "_law_one_of" "_law_one_of" st_law_one_of f fd) (b_len : mg "len" = none) (c_law_draw : Fnk P w K mg base "_law_draw" 2 2 f_law_draw) : DG.FnG P w K mg base 3 f fd ["pen", "some"] (spD K w mg 2 f_law_one_of) :=
  fn_ok Fn sc_law_one_of fun cdv A outer s H E hg hr => by
    have hN := sc_law_one_of.nd
    exact (s_one (s_ret (d_idx (d_var 1 (pv 1)) (d_call (Fnk.has c_law_draw hg hr passB) (runF_nosl _ _) rfl (d_cons (d_var 0 (pv 0)) (d_cons (d_len (d_var 1 (pv 1)) rfl b_len) d_nil))))))

abbrev st_law_sort : Stmt := top 18
theorem sc_law_sort : FnScope ["e", "found"] ["e"] (defScope st_law_sort) := ⟨rfl, rfl, rfl, by decide +kernel, rfl, by decide +kernel, by decide +kernel⟩
def b_law_sort : MS :=
    (sSeq (sSet 1 (eLst (aCons (eIsX tb (fun c => decide (c = "InvalidStore")) (eVar 0)) (aCons (eIsX tb (fun c => decide (c = "InvalidQuestion")) (eVar 0)) (aCons (eIsX tb (fun c => decide (c = "InvalidProgram")) (eVar 0)) (pure []))))))
    (sSeq (sSet 1 (eAdd (eVar 1) (eLst (aCons (eIsX tb (fun c => decide (c = "InvalidWishes")) (eVar 0)) (aCons (eIsX tb (fun c => decide (c = "InvalidOptions")) (eVar 0)) (aCons (eIsX tb (fun c => decide (c = "InvalidClaim")) (eVar 0)) (pure [])))))))
    (sSeq (sSet 1 (eAdd (eVar 1) (eLst (aCons (eIsX tb (fun c => decide (c = "ParseError")) (eVar 0)) (aCons (eIsX tb (fun c => decide (c = "NothingDone")) (eVar 0)) (aCons (eIsX tb (fun c => decide (c = "Refused")) (eVar 0)) (pure [])))))))
    (sRet (eAdd (eVar 1) (eLst (aCons (eIsX tb (fun c => decide (c = "Banned")) (eVar 0)) (aCons (eIsX tb (fun c => decide (c = "LimitExceeded")) (eVar 0)) (aCons (eIsX tb (fun c => decide (c = "Unfounded")) (eVar 0)) (pure []))))))))))
def f_law_sort : Fd := runF 2 b_law_sort
theorem ok_law_sort {f : Addr} {fd : FuncData} (Fn : Fun K "_law_sort" "_law_sort" st_law_sort f fd) (b_isinstance : mg "isinstance" = none) (hT : ClsTb K mg tb) (i_Banned : IsO K mg tb "Banned") (i_InvalidClaim : IsO K mg tb "InvalidClaim") (i_InvalidOptions : IsO K mg tb "InvalidOptions") (i_InvalidProgram : IsO K mg tb "InvalidProgram") (i_InvalidQuestion : IsO K mg tb "InvalidQuestion") (i_InvalidStore : IsO K mg tb "InvalidStore") (i_InvalidWishes : IsO K mg tb "InvalidWishes") (i_LimitExceeded : IsO K mg tb "LimitExceeded") (i_NothingDone : IsO K mg tb "NothingDone") (i_ParseError : IsO K mg tb "ParseError") (i_Refused : IsO K mg tb "Refused") (i_Unfounded : IsO K mg tb "Unfounded") : DG.FnG P w K mg base 1 f fd ["e"] (spD K w mg 1 f_law_sort) :=
  fn_ok Fn sc_law_sort fun cdv A outer s H E hg hr => by
    have hN := sc_law_sort.nd
    exact (s_cons (s_set 1 hN (d_lst (d_cons (d_isO hT i_InvalidStore (d_var 0 (pv 0)) b_isinstance) (d_cons (d_isO hT i_InvalidQuestion (d_var 0 (pv 0)) b_isinstance) (d_cons (d_isO hT i_InvalidProgram (d_var 0 (pv 0)) b_isinstance) d_nil)))))
    (s_cons (s_set 1 hN (d_add (d_var 1 (pv 1)) (d_lst (d_cons (d_isO hT i_InvalidWishes (d_var 0 (pv 0)) b_isinstance) (d_cons (d_isO hT i_InvalidOptions (d_var 0 (pv 0)) b_isinstance) (d_cons (d_isO hT i_InvalidClaim (d_var 0 (pv 0)) b_isinstance) d_nil))))))
    (s_cons (s_set 1 hN (d_add (d_var 1 (pv 1)) (d_lst (d_cons (d_isO hT i_ParseError (d_var 0 (pv 0)) b_isinstance) (d_cons (d_isO hT i_NothingDone (d_var 0 (pv 0)) b_isinstance) (d_cons (d_isO hT i_Refused (d_var 0 (pv 0)) b_isinstance) d_nil))))))
    (s_one (s_ret (d_add (d_var 1 (pv 1)) (d_lst (d_cons (d_isO hT i_Banned (d_var 0 (pv 0)) b_isinstance) (d_cons (d_isO hT i_LimitExceeded (d_var 0 (pv 0)) b_isinstance) (d_cons (d_isO hT i_Unfounded (d_var 0 (pv 0)) b_isinstance) d_nil))))))))))

abbrev st_law_built : Stmt := top 19
theorem sc_law_built : FnScope ["e", "found"] ["e"] (defScope st_law_built) := ⟨rfl, rfl, rfl, by decide +kernel, rfl, by decide +kernel, by decide +kernel⟩
def b_law_built : MS :=
    (sSeq (sSet 1 (eLst (aCons (eIsX tb (supD "ValueError") (eVar 0)) (aCons (eIsX tb (supD "RuntimeError") (eVar 0)) (aCons (eIsX tb (supD "OverflowError") (eVar 0)) (pure []))))))
    (sSeq (sSet 1 (eAdd (eVar 1) (eLst (aCons (eIsX tb (supD "LookupError") (eVar 0)) (aCons (eIsX tb (supD "TypeError") (eVar 0)) (aCons (eIsX tb (supD "KeyError") (eVar 0)) (pure [])))))))
    (sRet (eAdd (eVar 1) (eLst (aCons (eIsX tb (supD "IndexError") (eVar 0)) (aCons (eIsX tb (supD "NotImplementedError") (eVar 0)) (pure []))))))))
def f_law_built : Fd := runF 2 b_law_built
theorem ok_law_built {f : Addr} {fd : FuncData} (Fn : Fun K "_law_built" "_law_built" st_law_built f fd) (b_IndexError : mg "IndexError" = none) (b_KeyError : mg "KeyError" = none) (b_LookupError : mg "LookupError" = none) (b_NotImplementedError : mg "NotImplementedError" = none) (b_OverflowError : mg "OverflowError" = none) (b_RuntimeError : mg "RuntimeError" = none) (b_TypeError : mg "TypeError" = none) (b_ValueError : mg "ValueError" = none) (b_isinstance : mg "isinstance" = none) (hT : ClsTb K mg tb) (i_IndexError : IsB K mg tb (supD "IndexError") "IndexError") (i_KeyError : IsB K mg tb (supD "KeyError") "KeyError") (i_LookupError : IsB K mg tb (supD "LookupError") "LookupError") (i_NotImplementedError : IsB K mg tb (supD "NotImplementedError") "NotImplementedError") (i_OverflowError : IsB K mg tb (supD "OverflowError") "OverflowError") (i_RuntimeError : IsB K mg tb (supD "RuntimeError") "RuntimeError") (i_TypeError : IsB K mg tb (supD "TypeError") "TypeError") (i_ValueError : IsB K mg tb (supD "ValueError") "ValueError") : DG.FnG P w K mg base 1 f fd ["e"] (spD K w mg 1 f_law_built) :=
  fn_ok Fn sc_law_built fun cdv A outer s H E hg hr => by
    have hN := sc_law_built.nd
    exact (s_cons (s_set 1 hN (d_lst (d_cons (d_isB hT i_ValueError (by decide +kernel) b_ValueError (d_var 0 (pv 0)) b_isinstance) (d_cons (d_isB hT i_RuntimeError (by decide +kernel) b_RuntimeError (d_var 0 (pv 0)) b_isinstance) (d_cons (d_isB hT i_OverflowError (by decide +kernel) b_OverflowError (d_var 0 (pv 0)) b_isinstance) d_nil)))))
    (s_cons (s_set 1 hN (d_add (d_var 1 (pv 1)) (d_lst (d_cons (d_isB hT i_LookupError (by decide +kernel) b_LookupError (d_var 0 (pv 0)) b_isinstance) (d_cons (d_isB hT i_TypeError (by decide +kernel) b_TypeError (d_var 0 (pv 0)) b_isinstance) (d_cons (d_isB hT i_KeyError (by decide +kernel) b_KeyError (d_var 0 (pv 0)) b_isinstance) d_nil))))))
    (s_one (s_ret (d_add (d_var 1 (pv 1)) (d_lst (d_cons (d_isB hT i_IndexError (by decide +kernel) b_IndexError (d_var 0 (pv 0)) b_isinstance) (d_cons (d_isB hT i_NotImplementedError (by decide +kernel) b_NotImplementedError (d_var 0 (pv 0)) b_isinstance) d_nil))))))))

abbrev st_law_right : Stmt := top 20
theorem sc_law_right : FnScope ["at", "kind", "errors", "e", "place"] ["at", "kind", "errors"] (defScope st_law_right) := ⟨rfl, rfl, rfl, by decide +kernel, rfl, by decide +kernel, by decide +kernel⟩
def b_law_right : MS :=
    (sSeq (sForX (srcX (eVar 2)) (setSl 3) (sSeq (sIf (tOf (eOp fNe (eCall 1 f_law_sort (aCons (eVar 3) (pure []))) (eLc [4] (srcRng (eC (.int 12))) (stepC (setSl 4) tYesD (eOp fEq (eVar 4) (eVar 0)))))) (sRet (eC (.bool false))) sNil)
    (sIf (tOf (eOp fNe (eCall 1 f_law_built (aCons (eVar 3) (pure []))) (eLc [4] (srcRng (eC (.int 8))) (stepC (setSl 4) tYesD (eOp fEq (eVar 4) (eVar 1)))))) (sRet (eC (.bool false))) sNil)))
    (sRet (eC (.bool true))))
def f_law_right : Fd := runF 5 b_law_right
theorem ok_law_right {f : Addr} {fd : FuncData} (Fn : Fun K "_law_right" "_law_right" st_law_right f fd) (b_range : mg "range" = none) (c_law_sort : Fnk P w K mg base "_law_sort" 1 1 f_law_sort) (c_law_built : Fnk P w K mg base "_law_built" 1 1 f_law_built) : DG.FnG P w K mg base 2 f fd ["at", "kind", "errors"] (spD K w mg 3 f_law_right) :=
  fn_ok Fn sc_law_right fun cdv A outer s H E hg hr => by
    have hN := sc_law_right.nd
    exact (s_cons (s_forX (passes_of rfl) rfl (i_exs (d_var 2 (pv 2))) (g_name 3 hN) (s_cons (s_if (dt_cmp (o_ne (huB hr)) (d_call (Fnk.has c_law_sort hg hr passB) (runF_nosl _ _) rfl (d_cons (d_var 3 (pv 3)) d_nil)) (d_lc (own := [("place", 4)]) rfl hN (blkOk_by (by rfl)) (by decide) (i_rng rfl b_range d_int) (fun _ _ _ _ _ => (g_name 4 hN)) (fun _ _ _ _ _ => ts_nil) (fun _ _ _ _ _ => (d_cmp (o_eq (huB hr)) (d_var 4 (pv 4)) (d_var 0 (pv 0)) (nomark _)))) (nomark _)) (s_one (s_ret d_bl)) s_nil)
    (s_one (s_if (dt_cmp (o_ne (huB hr)) (d_call (Fnk.has c_law_built hg hr passB) (runF_nosl _ _) rfl (d_cons (d_var 3 (pv 3)) d_nil)) (d_lc (own := [("place", 4)]) rfl hN (blkOk_by (by rfl)) (by decide) (i_rng rfl b_range d_int) (fun _ _ _ _ _ => (g_name 4 hN)) (fun _ _ _ _ _ => ts_nil) (fun _ _ _ _ _ => (d_cmp (o_eq (huB hr)) (d_var 4 (pv 4)) (d_var 1 (pv 1)) (nomark _)))) (nomark _)) (s_one (s_ret d_bl)) s_nil))))
    (s_one (s_ret d_bl)))

abbrev stlaw : Stmt := top 21
theorem sclaw : FnScope ["script", "pen", "count", "piece", "good", "a", "b"] ["script"] (defScope stlaw) := ⟨rfl, rfl, rfl, by decide +kernel, rfl, by decide +kernel, by decide +kernel⟩
def blaw : MS :=
    (sSeq (sSet 1 (eCall 1 f_law_pen (aCons (eVar 0) (pure []))))
    (sSeq (sSet 2 (eCall 2 f_law_one_of (aCons (eVar 1) (aCons (eLst (aCons (eC (.int 0)) (aCons (eC (.int 1)) (aCons (eC (.int 17)) (aCons (eCall 2 f_law_draw (aCons (eVar 1) (aCons (eC (.int 3600)) (pure [])))) (pure [])))))) (pure [])))))
    (sSeq (sSet 3 (eCall 2 f_law_one_of (aCons (eVar 1) (aCons (eLst (aCons (eC .none) (aCons (eC (.str "arity")) (aCons (eC (.str "parts")) (aCons (eC (.int 0)) (aCons (eC (.int 5)) (pure []))))))) (pure [])))))
    (sSeq (sPar 5 6 (aCons (eMk "InvalidStore" ["index"] (aCons (eVar 2) (pure []))) (aCons (eMk "InvalidStore" ["index"] (aCons (eC .none) (pure []))) (pure []))))
    (sSeq (sSet 4 (eAndD (eCall 3 f_law_right (aCons (eC (.int 0)) (aCons (eC (.int 0)) (aCons (eLstX (aCons (eVar 5) (aCons (eVar 6) (pure [])))) (pure []))))) (eOp fEq (eRepr (eLst (aCons (eGet tb "index" (eVar 5)) (aCons (eGet tb "index" (eVar 6)) (pure []))))) (eRepr (eLst (aCons (eVar 2) (aCons (eC .none) (pure []))))))))
    (sSeq (sPar 5 6 (aCons (eMk "InvalidQuestion" ["part"] (aCons (eVar 3) (pure []))) (aCons (eMk "InvalidQuestion" ["part"] (aCons (eC (.str "parts")) (pure []))) (pure []))))
    (sSeq (sSet 4 (eAndD (eVar 4) (eAndD (eCall 3 f_law_right (aCons (eC (.int 1)) (aCons (eC (.int 0)) (aCons (eLstX (aCons (eVar 5) (aCons (eVar 6) (pure [])))) (pure []))))) (eOp fEq (eRepr (eLst (aCons (eGet tb "part" (eVar 5)) (aCons (eGet tb "part" (eVar 6)) (pure []))))) (eRepr (eLst (aCons (eVar 3) (aCons (eC (.str "parts")) (pure [])))))))))
    (sSeq (sPar 5 6 (aCons (eMk "InvalidProgram" ["index"] (aCons (eC (.int 3)) (pure []))) (aCons (eMk "InvalidProgram" ["index"] (aCons (eC .none) (pure []))) (pure []))))
    (sSeq (sSet 4 (eAndD (eVar 4) (eAndD (eCall 3 f_law_right (aCons (eC (.int 2)) (aCons (eC (.int 0)) (aCons (eLstX (aCons (eVar 5) (aCons (eVar 6) (pure [])))) (pure []))))) (eOp fEq (eRepr (eLst (aCons (eGet tb "index" (eVar 5)) (aCons (eGet tb "index" (eVar 6)) (pure []))))) (eRepr (eLst (aCons (eC (.int 3)) (aCons (eC .none) (pure [])))))))))
    (sSeq (sPar 5 6 (aCons (eMk "InvalidWishes" ["index"] (aCons (eC (.int 2)) (pure []))) (aCons (eMk "InvalidWishes" ["index"] (aCons (eC .none) (pure []))) (pure []))))
    (sSeq (sSet 4 (eAndD (eVar 4) (eAndD (eCall 3 f_law_right (aCons (eC (.int 3)) (aCons (eC (.int 0)) (aCons (eLstX (aCons (eVar 5) (aCons (eVar 6) (pure [])))) (pure []))))) (eOp fEq (eRepr (eLst (aCons (eGet tb "index" (eVar 5)) (aCons (eGet tb "index" (eVar 6)) (pure []))))) (eRepr (eLst (aCons (eC (.int 2)) (aCons (eC .none) (pure [])))))))))
    (sSeq (sPar 5 6 (aCons (eMk "InvalidOptions" ["index"] (aCons (eC (.int 0)) (pure []))) (aCons (eMk "InvalidOptions" ["index"] (aCons (eC (.int 1)) (pure []))) (pure []))))
    (sSeq (sSet 4 (eAndD (eVar 4) (eAndD (eCall 3 f_law_right (aCons (eC (.int 4)) (aCons (eC (.int 0)) (aCons (eLstX (aCons (eVar 5) (aCons (eVar 6) (pure [])))) (pure []))))) (eOp fEq (eRepr (eLst (aCons (eGet tb "index" (eVar 5)) (aCons (eGet tb "index" (eVar 6)) (pure []))))) (eRepr (eLst (aCons (eC (.int 0)) (aCons (eC (.int 1)) (pure [])))))))))
    (sSeq (sPar 5 6 (aCons (eMk "InvalidClaim" ["part"] (aCons (eC (.str "n")) (pure []))) (aCons (eMk "InvalidClaim" ["part"] (aCons (eC (.str "kinds")) (pure []))) (pure []))))
    (sSeq (sSet 4 (eAndD (eVar 4) (eAndD (eCall 3 f_law_right (aCons (eC (.int 5)) (aCons (eC (.int 0)) (aCons (eLstX (aCons (eVar 5) (aCons (eVar 6) (pure [])))) (pure []))))) (eOp fEq (eRepr (eLst (aCons (eGet tb "part" (eVar 5)) (aCons (eGet tb "part" (eVar 6)) (pure []))))) (eRepr (eLst (aCons (eC (.str "n")) (aCons (eC (.str "kinds")) (pure [])))))))))
    (sSeq (sPar 5 6 (aCons (eMk "ParseError" ["line"] (aCons (eVar 2) (pure []))) (aCons (eMk "ParseError" ["line"] (aCons (eC (.int 8)) (pure []))) (pure []))))
    (sSeq (sSet 4 (eAndD (eVar 4) (eAndD (eCall 3 f_law_right (aCons (eC (.int 6)) (aCons (eC (.int 0)) (aCons (eLstX (aCons (eVar 5) (aCons (eVar 6) (pure [])))) (pure []))))) (eOp fEq (eRepr (eLst (aCons (eGet tb "line" (eVar 5)) (aCons (eGet tb "line" (eVar 6)) (pure []))))) (eRepr (eLst (aCons (eVar 2) (aCons (eC (.int 8)) (pure [])))))))))
    (sSeq (sPar 5 6 (aCons (eMk "Refused" ["index"] (aCons (eVar 2) (pure []))) (aCons (eMk "Refused" ["index"] (aCons (eNeg (eC (.int 1))) (pure []))) (pure []))))
    (sSeq (sSet 4 (eAndD (eVar 4) (eAndD (eCall 3 f_law_right (aCons (eC (.int 8)) (aCons (eC (.int 1)) (aCons (eLstX (aCons (eVar 5) (aCons (eVar 6) (pure [])))) (pure []))))) (eOp fEq (eRepr (eLst (aCons (eGet tb "index" (eVar 5)) (aCons (eGet tb "index" (eVar 6)) (pure []))))) (eRepr (eLst (aCons (eVar 2) (aCons (eNeg (eC (.int 1))) (pure [])))))))))
    (sSeq (sPar 5 6 (aCons (eMk "LimitExceeded" ["limit"] (aCons (eVar 2) (pure []))) (aCons (eMk "LimitExceeded" ["limit"] (aCons (eC (.int 300)) (pure []))) (pure []))))
    (sSeq (sSet 4 (eAndD (eVar 4) (eAndD (eCall 3 f_law_right (aCons (eC (.int 10)) (aCons (eC (.int 2)) (aCons (eLstX (aCons (eVar 5) (aCons (eVar 6) (pure [])))) (pure []))))) (eOp fEq (eRepr (eLst (aCons (eGet tb "limit" (eVar 5)) (aCons (eGet tb "limit" (eVar 6)) (pure []))))) (eRepr (eLst (aCons (eVar 2) (aCons (eC (.int 300)) (pure [])))))))))
    (sSeq (sPar 5 6 (aCons (eMk "Banned" ["index", "things"] (aCons (eVar 2) (aCons (eTup (aCons (eC (.int 3)) (aCons (eC (.int 4)) (pure [])))) (pure [])))) (aCons (eMkR "Banned" ["index", "things"] (aCons (eTup (pure [])) (aCons (eC (.int 0)) (pure [])))) (pure []))))
    (sSeq (sSet 4 (eAndD (eVar 4) (eAndD (eCall 3 f_law_right (aCons (eC (.int 9)) (aCons (eC (.int 1)) (aCons (eLstX (aCons (eVar 5) (aCons (eVar 6) (pure [])))) (pure []))))) (eOp fEq (eRepr (eLst (aCons (eGet tb "index" (eVar 5)) (aCons (eGet tb "things" (eVar 5)) (pure []))))) (eRepr (eLst (aCons (eVar 2) (aCons (eTup (aCons (eC (.int 3)) (aCons (eC (.int 4)) (pure [])))) (pure [])))))))))
    (sSeq (sSet 4 (eAndD (eVar 4) (eOp fEq (eRepr (eLst (aCons (eGet tb "index" (eVar 6)) (aCons (eGet tb "things" (eVar 6)) (pure []))))) (eRepr (eLst (aCons (eC (.int 0)) (aCons (eTup (pure [])) (pure []))))))))
    (sSeq (sPar 5 6 (aCons (eMk "Unfounded" ["fault"] (aCons (eTup (aCons (eC (.str "paper")) (pure []))) (pure []))) (aCons (eMk "Unfounded" ["fault"] (aCons (eTup (aCons (eC (.str "hit")) (aCons (eC (.int 0)) (aCons (eC (.int 1)) (pure []))))) (pure []))) (pure []))))
    (sSeq (sSet 4 (eAndD (eVar 4) (eAndD (eCall 3 f_law_right (aCons (eC (.int 11)) (aCons (eC (.int 1)) (aCons (eLstX (aCons (eVar 5) (aCons (eVar 6) (pure [])))) (pure []))))) (eOp fEq (eRepr (eLst (aCons (eGet tb "fault" (eVar 5)) (aCons (eGet tb "fault" (eVar 6)) (pure []))))) (eRepr (eLst (aCons (eTup (aCons (eC (.str "paper")) (pure []))) (aCons (eTup (aCons (eC (.str "hit")) (aCons (eC (.int 0)) (aCons (eC (.int 1)) (pure []))))) (pure [])))))))))
    (sRet (eAndD (eVar 4) (eCall 3 f_law_right (aCons (eC (.int 7)) (aCons (eC (.int 1)) (aCons (eLstX (aCons (eMk "NothingDone" [] (pure [])) (pure []))) (pure [])))))))))))))))))))))))))))))))))
def flaw : Fd := runF 7 blaw
theorem oklaw {f : Addr} {fd : FuncData} (Fn : Fun K "law" "law" stlaw f fd) (b_repr : mg "repr" = none) (c_law_pen : Fnk P w K mg base "_law_pen" 1 1 f_law_pen) (c_law_draw : Fnk P w K mg base "_law_draw" 2 2 f_law_draw) (c_law_one_of : Fnk P w K mg base "_law_one_of" 2 3 f_law_one_of) (c_law_right : Fnk P w K mg base "_law_right" 3 2 f_law_right) (hT : ClsTb K mg tb) (m_InvalidStore : MkO P w K mg base "InvalidStore" ["index"]) (m_InvalidQuestion : MkO P w K mg base "InvalidQuestion" ["part"]) (m_InvalidProgram : MkO P w K mg base "InvalidProgram" ["index"]) (m_InvalidWishes : MkO P w K mg base "InvalidWishes" ["index"]) (m_InvalidOptions : MkO P w K mg base "InvalidOptions" ["index"]) (m_InvalidClaim : MkO P w K mg base "InvalidClaim" ["part"]) (m_ParseError : MkO P w K mg base "ParseError" ["line"]) (m_NothingDone : MkO P w K mg base "NothingDone" []) (m_Refused : MkO P w K mg base "Refused" ["index"]) (m_Banned : MkO P w K mg base "Banned" ["index", "things"]) (m_Unfounded : MkO P w K mg base "Unfounded" ["fault"]) (m_LimitExceeded : MkO P w K mg base "LimitExceeded" ["limit"]) : DG.FnG P w K mg base 4 f fd ["script"] (spD K w mg 1 flaw) :=
  fn_ok Fn sclaw fun cdv A outer s H E hg hr => by
    have hN := sclaw.nd
    exact (s_cons (s_set 1 hN (d_call (Fnk.has c_law_pen hg hr passB) (runF_nosl _ _) rfl (d_cons (d_var 0 (pv 0)) d_nil)))
    (s_cons (s_set 2 hN (d_call (Fnk.has c_law_one_of hg hr passB) (runF_nosl _ _) rfl (d_cons (d_var 1 (pv 1)) (d_cons (d_lst (d_cons d_int (d_cons d_int (d_cons d_int (d_cons (d_call (Fnk.has c_law_draw hg hr passB) (runF_nosl _ _) rfl (d_cons (d_var 1 (pv 1)) (d_cons d_int d_nil))) d_nil))))) d_nil))))
    (s_cons (s_set 3 hN (d_call (Fnk.has c_law_one_of hg hr passB) (runF_nosl _ _) rfl (d_cons (d_var 1 (pv 1)) (d_cons (d_lst (d_cons d_non (d_cons d_str (d_cons d_str (d_cons d_int (d_cons d_int d_nil)))))) d_nil))))
    (s_cons (s_par (i := 5) (j := 6) rfl hN (d_cons (d_mk m_InvalidStore (hr.mono (by decide)) (by decide) rfl (d_cons (d_var 2 (pv 2)) d_nil)) (d_cons (d_mkK m_InvalidStore (hr.mono (by decide)) rfl (k_cons d_non k_nil)) d_nil)))
    (s_cons (s_set 4 hN (d_and (d_call (Fnk.has c_law_right hg hr passB) (runF_nosl _ _) rfl (d_cons d_int (d_cons d_int (d_cons (d_lstX (d_cons (d_var 5 (pv 5)) (d_cons (d_var 6 (pv 6)) d_nil))) d_nil)))) (d_one (d_cmp (o_eq (huB hr)) (d_repr hg (huB hr) (d_lst (d_cons (d_getx hT (d_var 5 (pv 5))) (d_cons (d_getx hT (d_var 6 (pv 6))) d_nil))) b_repr) (d_repr hg (huB hr) (d_lst (d_cons (d_var 2 (pv 2)) (d_cons d_non d_nil))) b_repr) (nomark _)))))
    (s_cons (s_par (i := 5) (j := 6) rfl hN (d_cons (d_mk m_InvalidQuestion (hr.mono (by decide)) (by decide) rfl (d_cons (d_var 3 (pv 3)) d_nil)) (d_cons (d_mkK m_InvalidQuestion (hr.mono (by decide)) rfl (k_cons d_str k_nil)) d_nil)))
    (s_cons (s_set 4 hN (d_and (d_var 4 (pv 4)) (d_and (d_call (Fnk.has c_law_right hg hr passB) (runF_nosl _ _) rfl (d_cons d_int (d_cons d_int (d_cons (d_lstX (d_cons (d_var 5 (pv 5)) (d_cons (d_var 6 (pv 6)) d_nil))) d_nil)))) (d_one (d_cmp (o_eq (huB hr)) (d_repr hg (huB hr) (d_lst (d_cons (d_getx hT (d_var 5 (pv 5))) (d_cons (d_getx hT (d_var 6 (pv 6))) d_nil))) b_repr) (d_repr hg (huB hr) (d_lst (d_cons (d_var 3 (pv 3)) (d_cons d_str d_nil))) b_repr) (nomark _))))))
    (s_cons (s_par (i := 5) (j := 6) rfl hN (d_cons (d_mk m_InvalidProgram (hr.mono (by decide)) (by decide) rfl (d_cons d_int d_nil)) (d_cons (d_mkK m_InvalidProgram (hr.mono (by decide)) rfl (k_cons d_non k_nil)) d_nil)))
    (s_cons (s_set 4 hN (d_and (d_var 4 (pv 4)) (d_and (d_call (Fnk.has c_law_right hg hr passB) (runF_nosl _ _) rfl (d_cons d_int (d_cons d_int (d_cons (d_lstX (d_cons (d_var 5 (pv 5)) (d_cons (d_var 6 (pv 6)) d_nil))) d_nil)))) (d_one (d_cmp (o_eq (huB hr)) (d_repr hg (huB hr) (d_lst (d_cons (d_getx hT (d_var 5 (pv 5))) (d_cons (d_getx hT (d_var 6 (pv 6))) d_nil))) b_repr) (d_repr hg (huB hr) (d_lst (d_cons d_int (d_cons d_non d_nil))) b_repr) (nomark _))))))
    (s_cons (s_par (i := 5) (j := 6) rfl hN (d_cons (d_mk m_InvalidWishes (hr.mono (by decide)) (by decide) rfl (d_cons d_int d_nil)) (d_cons (d_mkK m_InvalidWishes (hr.mono (by decide)) rfl (k_cons d_non k_nil)) d_nil)))
    (s_cons (s_set 4 hN (d_and (d_var 4 (pv 4)) (d_and (d_call (Fnk.has c_law_right hg hr passB) (runF_nosl _ _) rfl (d_cons d_int (d_cons d_int (d_cons (d_lstX (d_cons (d_var 5 (pv 5)) (d_cons (d_var 6 (pv 6)) d_nil))) d_nil)))) (d_one (d_cmp (o_eq (huB hr)) (d_repr hg (huB hr) (d_lst (d_cons (d_getx hT (d_var 5 (pv 5))) (d_cons (d_getx hT (d_var 6 (pv 6))) d_nil))) b_repr) (d_repr hg (huB hr) (d_lst (d_cons d_int (d_cons d_non d_nil))) b_repr) (nomark _))))))
    (s_cons (s_par (i := 5) (j := 6) rfl hN (d_cons (d_mk m_InvalidOptions (hr.mono (by decide)) (by decide) rfl (d_cons d_int d_nil)) (d_cons (d_mkK m_InvalidOptions (hr.mono (by decide)) rfl (k_cons d_int k_nil)) d_nil)))
    (s_cons (s_set 4 hN (d_and (d_var 4 (pv 4)) (d_and (d_call (Fnk.has c_law_right hg hr passB) (runF_nosl _ _) rfl (d_cons d_int (d_cons d_int (d_cons (d_lstX (d_cons (d_var 5 (pv 5)) (d_cons (d_var 6 (pv 6)) d_nil))) d_nil)))) (d_one (d_cmp (o_eq (huB hr)) (d_repr hg (huB hr) (d_lst (d_cons (d_getx hT (d_var 5 (pv 5))) (d_cons (d_getx hT (d_var 6 (pv 6))) d_nil))) b_repr) (d_repr hg (huB hr) (d_lst (d_cons d_int (d_cons d_int d_nil))) b_repr) (nomark _))))))
    (s_cons (s_par (i := 5) (j := 6) rfl hN (d_cons (d_mk m_InvalidClaim (hr.mono (by decide)) (by decide) rfl (d_cons d_str d_nil)) (d_cons (d_mkK m_InvalidClaim (hr.mono (by decide)) rfl (k_cons d_str k_nil)) d_nil)))
    (s_cons (s_set 4 hN (d_and (d_var 4 (pv 4)) (d_and (d_call (Fnk.has c_law_right hg hr passB) (runF_nosl _ _) rfl (d_cons d_int (d_cons d_int (d_cons (d_lstX (d_cons (d_var 5 (pv 5)) (d_cons (d_var 6 (pv 6)) d_nil))) d_nil)))) (d_one (d_cmp (o_eq (huB hr)) (d_repr hg (huB hr) (d_lst (d_cons (d_getx hT (d_var 5 (pv 5))) (d_cons (d_getx hT (d_var 6 (pv 6))) d_nil))) b_repr) (d_repr hg (huB hr) (d_lst (d_cons d_str (d_cons d_str d_nil))) b_repr) (nomark _))))))
    (s_cons (s_par (i := 5) (j := 6) rfl hN (d_cons (d_mk m_ParseError (hr.mono (by decide)) (by decide) rfl (d_cons (d_var 2 (pv 2)) d_nil)) (d_cons (d_mkK m_ParseError (hr.mono (by decide)) rfl (k_cons d_int k_nil)) d_nil)))
    (s_cons (s_set 4 hN (d_and (d_var 4 (pv 4)) (d_and (d_call (Fnk.has c_law_right hg hr passB) (runF_nosl _ _) rfl (d_cons d_int (d_cons d_int (d_cons (d_lstX (d_cons (d_var 5 (pv 5)) (d_cons (d_var 6 (pv 6)) d_nil))) d_nil)))) (d_one (d_cmp (o_eq (huB hr)) (d_repr hg (huB hr) (d_lst (d_cons (d_getx hT (d_var 5 (pv 5))) (d_cons (d_getx hT (d_var 6 (pv 6))) d_nil))) b_repr) (d_repr hg (huB hr) (d_lst (d_cons (d_var 2 (pv 2)) (d_cons d_int d_nil))) b_repr) (nomark _))))))
    (s_cons (s_par (i := 5) (j := 6) rfl hN (d_cons (d_mk m_Refused (hr.mono (by decide)) (by decide) rfl (d_cons (d_var 2 (pv 2)) d_nil)) (d_cons (d_mkK m_Refused (hr.mono (by decide)) rfl (k_cons (d_neg d_int) k_nil)) d_nil)))
    (s_cons (s_set 4 hN (d_and (d_var 4 (pv 4)) (d_and (d_call (Fnk.has c_law_right hg hr passB) (runF_nosl _ _) rfl (d_cons d_int (d_cons d_int (d_cons (d_lstX (d_cons (d_var 5 (pv 5)) (d_cons (d_var 6 (pv 6)) d_nil))) d_nil)))) (d_one (d_cmp (o_eq (huB hr)) (d_repr hg (huB hr) (d_lst (d_cons (d_getx hT (d_var 5 (pv 5))) (d_cons (d_getx hT (d_var 6 (pv 6))) d_nil))) b_repr) (d_repr hg (huB hr) (d_lst (d_cons (d_var 2 (pv 2)) (d_cons (d_neg d_int) d_nil))) b_repr) (nomark _))))))
    (s_cons (s_par (i := 5) (j := 6) rfl hN (d_cons (d_mk m_LimitExceeded (hr.mono (by decide)) (by decide) rfl (d_cons (d_var 2 (pv 2)) d_nil)) (d_cons (d_mkK m_LimitExceeded (hr.mono (by decide)) rfl (k_cons d_int k_nil)) d_nil)))
    (s_cons (s_set 4 hN (d_and (d_var 4 (pv 4)) (d_and (d_call (Fnk.has c_law_right hg hr passB) (runF_nosl _ _) rfl (d_cons d_int (d_cons d_int (d_cons (d_lstX (d_cons (d_var 5 (pv 5)) (d_cons (d_var 6 (pv 6)) d_nil))) d_nil)))) (d_one (d_cmp (o_eq (huB hr)) (d_repr hg (huB hr) (d_lst (d_cons (d_getx hT (d_var 5 (pv 5))) (d_cons (d_getx hT (d_var 6 (pv 6))) d_nil))) b_repr) (d_repr hg (huB hr) (d_lst (d_cons (d_var 2 (pv 2)) (d_cons d_int d_nil))) b_repr) (nomark _))))))
    (s_cons (s_par (i := 5) (j := 6) rfl hN (d_cons (d_mk m_Banned (hr.mono (by decide)) (by decide) rfl (d_cons (d_var 2 (pv 2)) (d_cons (d_tup (d_cons d_int (d_cons d_int d_nil))) d_nil))) (d_cons (d_mkKR m_Banned (hr.mono (by decide)) rfl (k_cons (d_tup d_nil) (k_cons d_int k_nil))) d_nil)))
    (s_cons (s_set 4 hN (d_and (d_var 4 (pv 4)) (d_and (d_call (Fnk.has c_law_right hg hr passB) (runF_nosl _ _) rfl (d_cons d_int (d_cons d_int (d_cons (d_lstX (d_cons (d_var 5 (pv 5)) (d_cons (d_var 6 (pv 6)) d_nil))) d_nil)))) (d_one (d_cmp (o_eq (huB hr)) (d_repr hg (huB hr) (d_lst (d_cons (d_getx hT (d_var 5 (pv 5))) (d_cons (d_getx hT (d_var 5 (pv 5))) d_nil))) b_repr) (d_repr hg (huB hr) (d_lst (d_cons (d_var 2 (pv 2)) (d_cons (d_tup (d_cons d_int (d_cons d_int d_nil))) d_nil))) b_repr) (nomark _))))))
    (s_cons (s_set 4 hN (d_and (d_var 4 (pv 4)) (d_one (d_cmp (o_eq (huB hr)) (d_repr hg (huB hr) (d_lst (d_cons (d_getx hT (d_var 6 (pv 6))) (d_cons (d_getx hT (d_var 6 (pv 6))) d_nil))) b_repr) (d_repr hg (huB hr) (d_lst (d_cons d_int (d_cons (d_tup d_nil) d_nil))) b_repr) (nomark _)))))
    (s_cons (s_par (i := 5) (j := 6) rfl hN (d_cons (d_mk m_Unfounded (hr.mono (by decide)) (by decide) rfl (d_cons (d_tup (d_cons d_str d_nil)) d_nil)) (d_cons (d_mkK m_Unfounded (hr.mono (by decide)) rfl (k_cons (d_tup (d_cons d_str (d_cons d_int (d_cons d_int d_nil)))) k_nil)) d_nil)))
    (s_cons (s_set 4 hN (d_and (d_var 4 (pv 4)) (d_and (d_call (Fnk.has c_law_right hg hr passB) (runF_nosl _ _) rfl (d_cons d_int (d_cons d_int (d_cons (d_lstX (d_cons (d_var 5 (pv 5)) (d_cons (d_var 6 (pv 6)) d_nil))) d_nil)))) (d_one (d_cmp (o_eq (huB hr)) (d_repr hg (huB hr) (d_lst (d_cons (d_getx hT (d_var 5 (pv 5))) (d_cons (d_getx hT (d_var 6 (pv 6))) d_nil))) b_repr) (d_repr hg (huB hr) (d_lst (d_cons (d_tup (d_cons d_str d_nil)) (d_cons (d_tup (d_cons d_str (d_cons d_int (d_cons d_int d_nil)))) d_nil))) b_repr) (nomark _))))))
    (s_one (s_ret (d_and (d_var 4 (pv 4)) (d_one (d_call (Fnk.has c_law_right hg hr passB) (runF_nosl _ _) rfl (d_cons d_int (d_cons d_int (d_cons (d_lstX (d_cons (d_mk0 m_NothingDone (hr.mono (by decide)) rfl) d_nil)) d_nil))))))))))))))))))))))))))))))))))

abbrev ci_InvalidStore : Stmt := clsInit (top 1)
theorem csc_InvalidStore : FnScope ["self", "index"] ["self", "index"] (defScope ci_InvalidStore) := ⟨rfl, rfl, rfl, by decide +kernel, rfl, by decide +kernel, by decide +kernel⟩
theorem cok_InvalidStore {fI C : Addr} {fd : FuncData} (Fn : Fun K "__init__" "InvalidStore.__init__" ci_InvalidStore fI fd) (T : EX.XcE K C) (h1 : W.takerIn K C "index" = some none) : FnOk P w K mg base CX0 1 fI fd ["self", "index"] (iniSp C ["index"]) :=
  Fun.ok Fn csc_InvalidStore ini_len fun cdv A outer s H vs Q E hr h => ⟨_, pss_one (EX.ps_sto (pv 0) (pv 1)), ini1 T h1 h⟩
theorem cmk_InvalidStore {fI C : Addr} {fd : FuncData} (Fn : Fun K "__init__" "InvalidStore.__init__" ci_InvalidStore fI fd) (T : EX.XcE K C ∧ ∀ n ∈ (["index"] : List Str), W.takerIn K C n = some none ∧ W.findIn K (.ref C) n = some none) (hm : mg "InvalidStore" = some (.ref C)) (iC : W.findIn K (.ref C) "__init__" = some (some (.ref fI))) (tI : W.typeIn K (.ref fI) = some (.type "function")) : MkO P w K mg base "InvalidStore" ["index"] :=
  mko1 Fn hm T.1 iC tI (cok_InvalidStore Fn T.1 (T.2 _ List.mem_cons_self).1) (fun _ _ _ _ _ _ _ _ => rfl) (fun _ _ _ _ _ _ _ _ => rfl)
abbrev ci_InvalidQuestion : Stmt := clsInit (top 2)
theorem csc_InvalidQuestion : FnScope ["self", "part"] ["self", "part"] (defScope ci_InvalidQuestion) := ⟨rfl, rfl, rfl, by decide +kernel, rfl, by decide +kernel, by decide +kernel⟩
theorem cok_InvalidQuestion {fI C : Addr} {fd : FuncData} (Fn : Fun K "__init__" "InvalidQuestion.__init__" ci_InvalidQuestion fI fd) (T : EX.XcE K C) (h1 : W.takerIn K C "part" = some none) : FnOk P w K mg base CX0 1 fI fd ["self", "part"] (iniSp C ["part"]) :=
  Fun.ok Fn csc_InvalidQuestion ini_len fun cdv A outer s H vs Q E hr h => ⟨_, pss_one (EX.ps_sto (pv 0) (pv 1)), ini1 T h1 h⟩
theorem cmk_InvalidQuestion {fI C : Addr} {fd : FuncData} (Fn : Fun K "__init__" "InvalidQuestion.__init__" ci_InvalidQuestion fI fd) (T : EX.XcE K C ∧ ∀ n ∈ (["part"] : List Str), W.takerIn K C n = some none ∧ W.findIn K (.ref C) n = some none) (hm : mg "InvalidQuestion" = some (.ref C)) (iC : W.findIn K (.ref C) "__init__" = some (some (.ref fI))) (tI : W.typeIn K (.ref fI) = some (.type "function")) : MkO P w K mg base "InvalidQuestion" ["part"] :=
  mko1 Fn hm T.1 iC tI (cok_InvalidQuestion Fn T.1 (T.2 _ List.mem_cons_self).1) (fun _ _ _ _ _ _ _ _ => rfl) (fun _ _ _ _ _ _ _ _ => rfl)
abbrev ci_InvalidProgram : Stmt := clsInit (top 3)
theorem csc_InvalidProgram : FnScope ["self", "index"] ["self", "index"] (defScope ci_InvalidProgram) := ⟨rfl, rfl, rfl, by decide +kernel, rfl, by decide +kernel, by decide +kernel⟩
theorem cok_InvalidProgram {fI C : Addr} {fd : FuncData} (Fn : Fun K "__init__" "InvalidProgram.__init__" ci_InvalidProgram fI fd) (T : EX.XcE K C) (h1 : W.takerIn K C "index" = some none) : FnOk P w K mg base CX0 1 fI fd ["self", "index"] (iniSp C ["index"]) :=
  Fun.ok Fn csc_InvalidProgram ini_len fun cdv A outer s H vs Q E hr h => ⟨_, pss_one (EX.ps_sto (pv 0) (pv 1)), ini1 T h1 h⟩
theorem cmk_InvalidProgram {fI C : Addr} {fd : FuncData} (Fn : Fun K "__init__" "InvalidProgram.__init__" ci_InvalidProgram fI fd) (T : EX.XcE K C ∧ ∀ n ∈ (["index"] : List Str), W.takerIn K C n = some none ∧ W.findIn K (.ref C) n = some none) (hm : mg "InvalidProgram" = some (.ref C)) (iC : W.findIn K (.ref C) "__init__" = some (some (.ref fI))) (tI : W.typeIn K (.ref fI) = some (.type "function")) : MkO P w K mg base "InvalidProgram" ["index"] :=
  mko1 Fn hm T.1 iC tI (cok_InvalidProgram Fn T.1 (T.2 _ List.mem_cons_self).1) (fun _ _ _ _ _ _ _ _ => rfl) (fun _ _ _ _ _ _ _ _ => rfl)
abbrev ci_InvalidWishes : Stmt := clsInit (top 4)
theorem csc_InvalidWishes : FnScope ["self", "index"] ["self", "index"] (defScope ci_InvalidWishes) := ⟨rfl, rfl, rfl, by decide +kernel, rfl, by decide +kernel, by decide +kernel⟩
theorem cok_InvalidWishes {fI C : Addr} {fd : FuncData} (Fn : Fun K "__init__" "InvalidWishes.__init__" ci_InvalidWishes fI fd) (T : EX.XcE K C) (h1 : W.takerIn K C "index" = some none) : FnOk P w K mg base CX0 1 fI fd ["self", "index"] (iniSp C ["index"]) :=
  Fun.ok Fn csc_InvalidWishes ini_len fun cdv A outer s H vs Q E hr h => ⟨_, pss_one (EX.ps_sto (pv 0) (pv 1)), ini1 T h1 h⟩
theorem cmk_InvalidWishes {fI C : Addr} {fd : FuncData} (Fn : Fun K "__init__" "InvalidWishes.__init__" ci_InvalidWishes fI fd) (T : EX.XcE K C ∧ ∀ n ∈ (["index"] : List Str), W.takerIn K C n = some none ∧ W.findIn K (.ref C) n = some none) (hm : mg "InvalidWishes" = some (.ref C)) (iC : W.findIn K (.ref C) "__init__" = some (some (.ref fI))) (tI : W.typeIn K (.ref fI) = some (.type "function")) : MkO P w K mg base "InvalidWishes" ["index"] :=
  mko1 Fn hm T.1 iC tI (cok_InvalidWishes Fn T.1 (T.2 _ List.mem_cons_self).1) (fun _ _ _ _ _ _ _ _ => rfl) (fun _ _ _ _ _ _ _ _ => rfl)
abbrev ci_InvalidOptions : Stmt := clsInit (top 5)
theorem csc_InvalidOptions : FnScope ["self", "index"] ["self", "index"] (defScope ci_InvalidOptions) := ⟨rfl, rfl, rfl, by decide +kernel, rfl, by decide +kernel, by decide +kernel⟩
theorem cok_InvalidOptions {fI C : Addr} {fd : FuncData} (Fn : Fun K "__init__" "InvalidOptions.__init__" ci_InvalidOptions fI fd) (T : EX.XcE K C) (h1 : W.takerIn K C "index" = some none) : FnOk P w K mg base CX0 1 fI fd ["self", "index"] (iniSp C ["index"]) :=
  Fun.ok Fn csc_InvalidOptions ini_len fun cdv A outer s H vs Q E hr h => ⟨_, pss_one (EX.ps_sto (pv 0) (pv 1)), ini1 T h1 h⟩
theorem cmk_InvalidOptions {fI C : Addr} {fd : FuncData} (Fn : Fun K "__init__" "InvalidOptions.__init__" ci_InvalidOptions fI fd) (T : EX.XcE K C ∧ ∀ n ∈ (["index"] : List Str), W.takerIn K C n = some none ∧ W.findIn K (.ref C) n = some none) (hm : mg "InvalidOptions" = some (.ref C)) (iC : W.findIn K (.ref C) "__init__" = some (some (.ref fI))) (tI : W.typeIn K (.ref fI) = some (.type "function")) : MkO P w K mg base "InvalidOptions" ["index"] :=
  mko1 Fn hm T.1 iC tI (cok_InvalidOptions Fn T.1 (T.2 _ List.mem_cons_self).1) (fun _ _ _ _ _ _ _ _ => rfl) (fun _ _ _ _ _ _ _ _ => rfl)
abbrev ci_InvalidClaim : Stmt := clsInit (top 6)
theorem csc_InvalidClaim : FnScope ["self", "part"] ["self", "part"] (defScope ci_InvalidClaim) := ⟨rfl, rfl, rfl, by decide +kernel, rfl, by decide +kernel, by decide +kernel⟩
theorem cok_InvalidClaim {fI C : Addr} {fd : FuncData} (Fn : Fun K "__init__" "InvalidClaim.__init__" ci_InvalidClaim fI fd) (T : EX.XcE K C) (h1 : W.takerIn K C "part" = some none) : FnOk P w K mg base CX0 1 fI fd ["self", "part"] (iniSp C ["part"]) :=
  Fun.ok Fn csc_InvalidClaim ini_len fun cdv A outer s H vs Q E hr h => ⟨_, pss_one (EX.ps_sto (pv 0) (pv 1)), ini1 T h1 h⟩
theorem cmk_InvalidClaim {fI C : Addr} {fd : FuncData} (Fn : Fun K "__init__" "InvalidClaim.__init__" ci_InvalidClaim fI fd) (T : EX.XcE K C ∧ ∀ n ∈ (["part"] : List Str), W.takerIn K C n = some none ∧ W.findIn K (.ref C) n = some none) (hm : mg "InvalidClaim" = some (.ref C)) (iC : W.findIn K (.ref C) "__init__" = some (some (.ref fI))) (tI : W.typeIn K (.ref fI) = some (.type "function")) : MkO P w K mg base "InvalidClaim" ["part"] :=
  mko1 Fn hm T.1 iC tI (cok_InvalidClaim Fn T.1 (T.2 _ List.mem_cons_self).1) (fun _ _ _ _ _ _ _ _ => rfl) (fun _ _ _ _ _ _ _ _ => rfl)
abbrev ci_ParseError : Stmt := clsInit (top 7)
theorem csc_ParseError : FnScope ["self", "line"] ["self", "line"] (defScope ci_ParseError) := ⟨rfl, rfl, rfl, by decide +kernel, rfl, by decide +kernel, by decide +kernel⟩
theorem cok_ParseError {fI C : Addr} {fd : FuncData} (Fn : Fun K "__init__" "ParseError.__init__" ci_ParseError fI fd) (T : EX.XcE K C) (h1 : W.takerIn K C "line" = some none) : FnOk P w K mg base CX0 1 fI fd ["self", "line"] (iniSp C ["line"]) :=
  Fun.ok Fn csc_ParseError ini_len fun cdv A outer s H vs Q E hr h => ⟨_, pss_one (EX.ps_sto (pv 0) (pv 1)), ini1 T h1 h⟩
theorem cmk_ParseError {fI C : Addr} {fd : FuncData} (Fn : Fun K "__init__" "ParseError.__init__" ci_ParseError fI fd) (T : EX.XcE K C ∧ ∀ n ∈ (["line"] : List Str), W.takerIn K C n = some none ∧ W.findIn K (.ref C) n = some none) (hm : mg "ParseError" = some (.ref C)) (iC : W.findIn K (.ref C) "__init__" = some (some (.ref fI))) (tI : W.typeIn K (.ref fI) = some (.type "function")) : MkO P w K mg base "ParseError" ["line"] :=
  mko1 Fn hm T.1 iC tI (cok_ParseError Fn T.1 (T.2 _ List.mem_cons_self).1) (fun _ _ _ _ _ _ _ _ => rfl) (fun _ _ _ _ _ _ _ _ => rfl)
abbrev ci_NothingDone : Stmt := clsInit (top 8)
theorem csc_NothingDone : FnScope ["self"] ["self"] (defScope ci_NothingDone) := ⟨rfl, rfl, rfl, by decide +kernel, rfl, by decide +kernel, by decide +kernel⟩
theorem cok_NothingDone {fI C : Addr} {fd : FuncData} (Fn : Fun K "__init__" "NothingDone.__init__" ci_NothingDone fI fd) (T : EX.Xc K C (newOfB 1) (mroOfB 1)) (b_RE : mg "RuntimeError" = none) (vV : W.findCls K (.type "RuntimeError") (.type "type") "__init__" = some (.val (.builtin "RuntimeError.__init__"))) : FnOk P w K mg base CX0 1 fI fd ["self"] (iniSp C []) :=
  Fun.ok Fn csc_NothingDone ini_len fun cdv A outer s H vs Q E hr h => ⟨_, pss_one (ps_expr (pe_reinit rfl b_RE vV (pa_cons (pv 0) pa_nil))), ini0 T h⟩
theorem cmk_NothingDone {fI C : Addr} {fd : FuncData} (Fn : Fun K "__init__" "NothingDone.__init__" ci_NothingDone fI fd) (T : EX.Xc K C (newOfB 1) (mroOfB 1)) (b_RE : mg "RuntimeError" = none) (vV : W.findCls K (.type "RuntimeError") (.type "type") "__init__" = some (.val (.builtin "RuntimeError.__init__"))) (hm : mg "NothingDone" = some (.ref C)) (iC : W.findIn K (.ref C) "__init__" = some (some (.ref fI))) (tI : W.typeIn K (.ref fI) = some (.type "function")) : MkO P w K mg base "NothingDone" [] :=
  mko0 Fn hm (xc_of T) iC tI (cok_NothingDone Fn T b_RE vV) (fun _ _ _ _ _ _ _ => rfl)
abbrev ci_Refused : Stmt := clsInit (top 9)
theorem csc_Refused : FnScope ["self", "index"] ["self", "index"] (defScope ci_Refused) := ⟨rfl, rfl, rfl, by decide +kernel, rfl, by decide +kernel, by decide +kernel⟩
theorem cok_Refused {fI C : Addr} {fd : FuncData} (Fn : Fun K "__init__" "Refused.__init__" ci_Refused fI fd) (T : EX.XcE K C) (h1 : W.takerIn K C "index" = some none) : FnOk P w K mg base CX0 1 fI fd ["self", "index"] (iniSp C ["index"]) :=
  Fun.ok Fn csc_Refused ini_len fun cdv A outer s H vs Q E hr h => ⟨_, pss_one (EX.ps_sto (pv 0) (pv 1)), ini1 T h1 h⟩
theorem cmk_Refused {fI C : Addr} {fd : FuncData} (Fn : Fun K "__init__" "Refused.__init__" ci_Refused fI fd) (T : EX.XcE K C ∧ ∀ n ∈ (["index"] : List Str), W.takerIn K C n = some none ∧ W.findIn K (.ref C) n = some none) (hm : mg "Refused" = some (.ref C)) (iC : W.findIn K (.ref C) "__init__" = some (some (.ref fI))) (tI : W.typeIn K (.ref fI) = some (.type "function")) : MkO P w K mg base "Refused" ["index"] :=
  mko1 Fn hm T.1 iC tI (cok_Refused Fn T.1 (T.2 _ List.mem_cons_self).1) (fun _ _ _ _ _ _ _ _ => rfl) (fun _ _ _ _ _ _ _ _ => rfl)
abbrev ci_Banned : Stmt := clsInit (top 10)
theorem csc_Banned : FnScope ["self", "index", "things"] ["self", "index", "things"] (defScope ci_Banned) := ⟨rfl, rfl, rfl, by decide +kernel, rfl, by decide +kernel, by decide +kernel⟩
theorem cok_Banned {fI C : Addr} {fd : FuncData} (Fn : Fun K "__init__" "Banned.__init__" ci_Banned fI fd) (T : EX.XcE K C) (h1 : W.takerIn K C "index" = some none) (h2 : W.takerIn K C "things" = some none) : FnOk P w K mg base CX0 1 fI fd ["self", "index", "things"] (iniSp C ["index", "things"]) :=
  Fun.ok Fn csc_Banned ini_len fun cdv A outer s H vs Q E hr h => ⟨_, pss_cons (EX.ps_sto (pv 0) (pv 1)) (pss_one (EX.ps_sto (pv 0) (pv 2))), ini2 T h1 h2 h⟩
theorem cmk_Banned {fI C : Addr} {fd : FuncData} (Fn : Fun K "__init__" "Banned.__init__" ci_Banned fI fd) (T : EX.XcE K C ∧ ∀ n ∈ (["index", "things"] : List Str), W.takerIn K C n = some none ∧ W.findIn K (.ref C) n = some none) (hm : mg "Banned" = some (.ref C)) (iC : W.findIn K (.ref C) "__init__" = some (some (.ref fI))) (tI : W.typeIn K (.ref fI) = some (.type "function")) : MkO P w K mg base "Banned" ["index", "things"] :=
  mko2 Fn hm T.1 iC tI (cok_Banned Fn T.1 (T.2 _ List.mem_cons_self).1 (T.2 _ (List.mem_cons_of_mem _ List.mem_cons_self)).1) (fun _ _ _ _ _ _ _ _ _ => rfl) (fun _ _ _ _ _ _ _ _ _ => rfl) (fun _ _ _ _ _ _ _ _ _ => rfl)
abbrev ci_Unfounded : Stmt := clsInit (top 11)
theorem csc_Unfounded : FnScope ["self", "fault"] ["self", "fault"] (defScope ci_Unfounded) := ⟨rfl, rfl, rfl, by decide +kernel, rfl, by decide +kernel, by decide +kernel⟩
theorem cok_Unfounded {fI C : Addr} {fd : FuncData} (Fn : Fun K "__init__" "Unfounded.__init__" ci_Unfounded fI fd) (T : EX.XcE K C) (h1 : W.takerIn K C "fault" = some none) : FnOk P w K mg base CX0 1 fI fd ["self", "fault"] (iniSp C ["fault"]) :=
  Fun.ok Fn csc_Unfounded ini_len fun cdv A outer s H vs Q E hr h => ⟨_, pss_one (EX.ps_sto (pv 0) (pv 1)), ini1 T h1 h⟩
theorem cmk_Unfounded {fI C : Addr} {fd : FuncData} (Fn : Fun K "__init__" "Unfounded.__init__" ci_Unfounded fI fd) (T : EX.XcE K C ∧ ∀ n ∈ (["fault"] : List Str), W.takerIn K C n = some none ∧ W.findIn K (.ref C) n = some none) (hm : mg "Unfounded" = some (.ref C)) (iC : W.findIn K (.ref C) "__init__" = some (some (.ref fI))) (tI : W.typeIn K (.ref fI) = some (.type "function")) : MkO P w K mg base "Unfounded" ["fault"] :=
  mko1 Fn hm T.1 iC tI (cok_Unfounded Fn T.1 (T.2 _ List.mem_cons_self).1) (fun _ _ _ _ _ _ _ _ => rfl) (fun _ _ _ _ _ _ _ _ => rfl)
abbrev ci_LimitExceeded : Stmt := clsInit (top 12)
theorem csc_LimitExceeded : FnScope ["self", "limit"] ["self", "limit"] (defScope ci_LimitExceeded) := ⟨rfl, rfl, rfl, by decide +kernel, rfl, by decide +kernel, by decide +kernel⟩
theorem cok_LimitExceeded {fI C : Addr} {fd : FuncData} (Fn : Fun K "__init__" "LimitExceeded.__init__" ci_LimitExceeded fI fd) (T : EX.XcE K C) (h1 : W.takerIn K C "limit" = some none) : FnOk P w K mg base CX0 1 fI fd ["self", "limit"] (iniSp C ["limit"]) :=
  Fun.ok Fn csc_LimitExceeded ini_len fun cdv A outer s H vs Q E hr h => ⟨_, pss_one (EX.ps_sto (pv 0) (pv 1)), ini1 T h1 h⟩
theorem cmk_LimitExceeded {fI C : Addr} {fd : FuncData} (Fn : Fun K "__init__" "LimitExceeded.__init__" ci_LimitExceeded fI fd) (T : EX.XcE K C ∧ ∀ n ∈ (["limit"] : List Str), W.takerIn K C n = some none ∧ W.findIn K (.ref C) n = some none) (hm : mg "LimitExceeded" = some (.ref C)) (iC : W.findIn K (.ref C) "__init__" = some (some (.ref fI))) (tI : W.typeIn K (.ref fI) = some (.type "function")) : MkO P w K mg base "LimitExceeded" ["limit"] :=
  mko1 Fn hm T.1 iC tI (cok_LimitExceeded Fn T.1 (T.2 _ List.mem_cons_self).1) (fun _ _ _ _ _ _ _ _ => rfl) (fun _ _ _ _ _ _ _ _ => rfl)
def cs (C0 C1 C2 C3 C4 C5 C6 C7 C8 C9 C10 C11 : Addr) : List ClsE := [("InvalidStore", ["index"], 0, C0), ("InvalidQuestion", ["part"], 0, C1), ("InvalidProgram", ["index"], 0, C2), ("InvalidWishes", ["index"], 0, C3), ("InvalidOptions", ["index"], 0, C4), ("InvalidClaim", ["part"], 0, C5), ("ParseError", ["line"], 0, C6), ("NothingDone", [], 1, C7), ("Refused", ["index"], 1, C8), ("Banned", ["index", "things"], 1, C9), ("Unfounded", ["fault"], 1, C10), ("LimitExceeded", ["limit"], 2, C11)]
theorem cs_mg {C0 C1 C2 C3 C4 C5 C6 C7 C8 C9 C10 C11 : Addr} (m0 : mg "InvalidStore" = some (.ref C0)) (m1 : mg "InvalidQuestion" = some (.ref C1)) (m2 : mg "InvalidProgram" = some (.ref C2)) (m3 : mg "InvalidWishes" = some (.ref C3)) (m4 : mg "InvalidOptions" = some (.ref C4)) (m5 : mg "InvalidClaim" = some (.ref C5)) (m6 : mg "ParseError" = some (.ref C6)) (m7 : mg "NothingDone" = some (.ref C7)) (m8 : mg "Refused" = some (.ref C8)) (m9 : mg "Banned" = some (.ref C9)) (m10 : mg "Unfounded" = some (.ref C10)) (m11 : mg "LimitExceeded" = some (.ref C11)) : ∀ p ∈ cs C0 C1 C2 C3 C4 C5 C6 C7 C8 C9 C10 C11, mg p.1 = some (.ref p.2.2.2) := (List.forall_mem_cons.mpr ⟨m0, (List.forall_mem_cons.mpr ⟨m1, (List.forall_mem_cons.mpr ⟨m2, (List.forall_mem_cons.mpr ⟨m3, (List.forall_mem_cons.mpr ⟨m4, (List.forall_mem_cons.mpr ⟨m5, (List.forall_mem_cons.mpr ⟨m6, (List.forall_mem_cons.mpr ⟨m7, (List.forall_mem_cons.mpr ⟨m8, (List.forall_mem_cons.mpr ⟨m9, (List.forall_mem_cons.mpr ⟨m10, (List.forall_mem_cons.mpr ⟨m11, (fun _ hp => by cases hp)⟩)⟩)⟩)⟩)⟩)⟩)⟩)⟩)⟩)⟩)⟩)⟩)
theorem cs_tb {C0 C1 C2 C3 C4 C5 C6 C7 C8 C9 C10 C11 : Addr} : tbOf (cs C0 C1 C2 C3 C4 C5 C6 C7 C8 C9 C10 C11) = tb := rfl
theorem cs_0 {C0 C1 C2 C3 C4 C5 C6 C7 C8 C9 C10 C11 : Addr} : (cs C0 C1 C2 C3 C4 C5 C6 C7 C8 C9 C10 C11)[0]'(by show 0 < 12; decide) ∈ cs C0 C1 C2 C3 C4 C5 C6 C7 C8 C9 C10 C11 := List.getElem_mem _
theorem cs_1 {C0 C1 C2 C3 C4 C5 C6 C7 C8 C9 C10 C11 : Addr} : (cs C0 C1 C2 C3 C4 C5 C6 C7 C8 C9 C10 C11)[1]'(by show 1 < 12; decide) ∈ cs C0 C1 C2 C3 C4 C5 C6 C7 C8 C9 C10 C11 := List.getElem_mem _
theorem cs_2 {C0 C1 C2 C3 C4 C5 C6 C7 C8 C9 C10 C11 : Addr} : (cs C0 C1 C2 C3 C4 C5 C6 C7 C8 C9 C10 C11)[2]'(by show 2 < 12; decide) ∈ cs C0 C1 C2 C3 C4 C5 C6 C7 C8 C9 C10 C11 := List.getElem_mem _
theorem cs_3 {C0 C1 C2 C3 C4 C5 C6 C7 C8 C9 C10 C11 : Addr} : (cs C0 C1 C2 C3 C4 C5 C6 C7 C8 C9 C10 C11)[3]'(by show 3 < 12; decide) ∈ cs C0 C1 C2 C3 C4 C5 C6 C7 C8 C9 C10 C11 := List.getElem_mem _
theorem cs_4 {C0 C1 C2 C3 C4 C5 C6 C7 C8 C9 C10 C11 : Addr} : (cs C0 C1 C2 C3 C4 C5 C6 C7 C8 C9 C10 C11)[4]'(by show 4 < 12; decide) ∈ cs C0 C1 C2 C3 C4 C5 C6 C7 C8 C9 C10 C11 := List.getElem_mem _
theorem cs_5 {C0 C1 C2 C3 C4 C5 C6 C7 C8 C9 C10 C11 : Addr} : (cs C0 C1 C2 C3 C4 C5 C6 C7 C8 C9 C10 C11)[5]'(by show 5 < 12; decide) ∈ cs C0 C1 C2 C3 C4 C5 C6 C7 C8 C9 C10 C11 := List.getElem_mem _
theorem cs_6 {C0 C1 C2 C3 C4 C5 C6 C7 C8 C9 C10 C11 : Addr} : (cs C0 C1 C2 C3 C4 C5 C6 C7 C8 C9 C10 C11)[6]'(by show 6 < 12; decide) ∈ cs C0 C1 C2 C3 C4 C5 C6 C7 C8 C9 C10 C11 := List.getElem_mem _
theorem cs_7 {C0 C1 C2 C3 C4 C5 C6 C7 C8 C9 C10 C11 : Addr} : (cs C0 C1 C2 C3 C4 C5 C6 C7 C8 C9 C10 C11)[7]'(by show 7 < 12; decide) ∈ cs C0 C1 C2 C3 C4 C5 C6 C7 C8 C9 C10 C11 := List.getElem_mem _
theorem cs_8 {C0 C1 C2 C3 C4 C5 C6 C7 C8 C9 C10 C11 : Addr} : (cs C0 C1 C2 C3 C4 C5 C6 C7 C8 C9 C10 C11)[8]'(by show 8 < 12; decide) ∈ cs C0 C1 C2 C3 C4 C5 C6 C7 C8 C9 C10 C11 := List.getElem_mem _
theorem cs_9 {C0 C1 C2 C3 C4 C5 C6 C7 C8 C9 C10 C11 : Addr} : (cs C0 C1 C2 C3 C4 C5 C6 C7 C8 C9 C10 C11)[9]'(by show 9 < 12; decide) ∈ cs C0 C1 C2 C3 C4 C5 C6 C7 C8 C9 C10 C11 := List.getElem_mem _
theorem cs_10 {C0 C1 C2 C3 C4 C5 C6 C7 C8 C9 C10 C11 : Addr} : (cs C0 C1 C2 C3 C4 C5 C6 C7 C8 C9 C10 C11)[10]'(by show 10 < 12; decide) ∈ cs C0 C1 C2 C3 C4 C5 C6 C7 C8 C9 C10 C11 := List.getElem_mem _
theorem cs_11 {C0 C1 C2 C3 C4 C5 C6 C7 C8 C9 C10 C11 : Addr} : (cs C0 C1 C2 C3 C4 C5 C6 C7 C8 C9 C10 C11)[11]'(by show 11 < 12; decide) ∈ cs C0 C1 C2 C3 C4 C5 C6 C7 C8 C9 C10 C11 := List.getElem_mem _
end
set_option maxHeartbeats 4300000 in
theorem all_mk {l : W.OpenLaw} {w : World} {K : W.Frag} {h : Heap} {mg : Str → Option Value} {fa : Addr} (X : K.In h) (G : h.Ns mainGlobals mg) (hfa : mg "law" = some (.ref fa))
    {C0 g0 C1 g1 C2 g2 C3 g3 C4 g4 C5 g5 C6 g6 C7 g7 C8 g8 C9 g9 C10 g10 C11 g11 f100 f101 f102 f103 f104 f105 f106 f107 : Addr} {od0 an0 od1 an1 od2 an2 od3 an3 od4 an4 od5 an5 od6 an6 od7 an7 od8 an8 od9 an9 od10 an10 od11 an11 od100 an100 od101 an101 od102 an102 od103 an103 od104 an104 od105 an105 od106 an106 od107 an107 : Option Addr} {sl0 sl1 sl2 sl3 sl4 sl5 sl6 sl7 sl8 sl9 sl10 sl11 sl100 sl101 sl102 sl103 sl104 sl105 sl106 sl107 : Array (Option Value)} {oc0 kV0 dc0 pm0 cd0 ct0 oc1 kV1 dc1 pm1 cd1 ct1 oc2 kV2 dc2 pm2 cd2 ct2 oc3 kV3 dc3 pm3 cd3 ct3 oc4 kV4 dc4 pm4 cd4 ct4 oc5 kV5 dc5 pm5 cd5 ct5 oc6 kV6 dc6 pm6 cd6 ct6 oc7 kV7 dc7 pm7 cd7 ct7 oc8 kV8 dc8 pm8 cd8 ct8 oc9 kV9 dc9 pm9 cd9 ct9 oc10 kV10 dc10 pm10 cd10 ct10 oc11 kV11 dc11 pm11 cd11 ct11 oc100 kV100 dc100 pm100 cd100 ct100 oc101 kV101 dc101 pm101 cd101 ct101 oc102 kV102 dc102 pm102 cd102 ct102 oc103 kV103 dc103 pm103 cd103 ct103 oc104 kV104 dc104 pm104 cd104 ct104 oc105 kV105 dc105 pm105 cd105 ct105 oc106 kV106 dc106 pm106 cd106 ct106 oc107 kV107 dc107 pm107 cd107 ct107 : Value}
    (aC0 : W.nsIn K mainGlobals "InvalidStore" = some (some (.ref C0)))
    (iC0 : W.findIn K (.ref C0) "__init__" = some (some (.ref g0)))
    (tC0 : W.typeIn K (.ref g0) = some (.type "function"))
    (lC0 : K.lookup g0 = some ⟨oc0, od0, .func (W.fnOf "__init__" "InvalidStore.__init__" (defArgs ci_InvalidStore) (defBody ci_InvalidStore) (defScope ci_InvalidStore) .none kV0 dc0 pm0 an0 cd0 ct0), sl0⟩)
    (cC0 : W.codeIn K cd0 "InvalidStore.__init__" = true)
    (kC0 : W.keepIn K (.ref g0) = true)
    (aC1 : W.nsIn K mainGlobals "InvalidQuestion" = some (some (.ref C1)))
    (iC1 : W.findIn K (.ref C1) "__init__" = some (some (.ref g1)))
    (tC1 : W.typeIn K (.ref g1) = some (.type "function"))
    (lC1 : K.lookup g1 = some ⟨oc1, od1, .func (W.fnOf "__init__" "InvalidQuestion.__init__" (defArgs ci_InvalidQuestion) (defBody ci_InvalidQuestion) (defScope ci_InvalidQuestion) .none kV1 dc1 pm1 an1 cd1 ct1), sl1⟩)
    (cC1 : W.codeIn K cd1 "InvalidQuestion.__init__" = true)
    (kC1 : W.keepIn K (.ref g1) = true)
    (aC2 : W.nsIn K mainGlobals "InvalidProgram" = some (some (.ref C2)))
    (iC2 : W.findIn K (.ref C2) "__init__" = some (some (.ref g2)))
    (tC2 : W.typeIn K (.ref g2) = some (.type "function"))
    (lC2 : K.lookup g2 = some ⟨oc2, od2, .func (W.fnOf "__init__" "InvalidProgram.__init__" (defArgs ci_InvalidProgram) (defBody ci_InvalidProgram) (defScope ci_InvalidProgram) .none kV2 dc2 pm2 an2 cd2 ct2), sl2⟩)
    (cC2 : W.codeIn K cd2 "InvalidProgram.__init__" = true)
    (kC2 : W.keepIn K (.ref g2) = true)
    (aC3 : W.nsIn K mainGlobals "InvalidWishes" = some (some (.ref C3)))
    (iC3 : W.findIn K (.ref C3) "__init__" = some (some (.ref g3)))
    (tC3 : W.typeIn K (.ref g3) = some (.type "function"))
    (lC3 : K.lookup g3 = some ⟨oc3, od3, .func (W.fnOf "__init__" "InvalidWishes.__init__" (defArgs ci_InvalidWishes) (defBody ci_InvalidWishes) (defScope ci_InvalidWishes) .none kV3 dc3 pm3 an3 cd3 ct3), sl3⟩)
    (cC3 : W.codeIn K cd3 "InvalidWishes.__init__" = true)
    (kC3 : W.keepIn K (.ref g3) = true)
    (aC4 : W.nsIn K mainGlobals "InvalidOptions" = some (some (.ref C4)))
    (iC4 : W.findIn K (.ref C4) "__init__" = some (some (.ref g4)))
    (tC4 : W.typeIn K (.ref g4) = some (.type "function"))
    (lC4 : K.lookup g4 = some ⟨oc4, od4, .func (W.fnOf "__init__" "InvalidOptions.__init__" (defArgs ci_InvalidOptions) (defBody ci_InvalidOptions) (defScope ci_InvalidOptions) .none kV4 dc4 pm4 an4 cd4 ct4), sl4⟩)
    (cC4 : W.codeIn K cd4 "InvalidOptions.__init__" = true)
    (kC4 : W.keepIn K (.ref g4) = true)
    (aC5 : W.nsIn K mainGlobals "InvalidClaim" = some (some (.ref C5)))
    (iC5 : W.findIn K (.ref C5) "__init__" = some (some (.ref g5)))
    (tC5 : W.typeIn K (.ref g5) = some (.type "function"))
    (lC5 : K.lookup g5 = some ⟨oc5, od5, .func (W.fnOf "__init__" "InvalidClaim.__init__" (defArgs ci_InvalidClaim) (defBody ci_InvalidClaim) (defScope ci_InvalidClaim) .none kV5 dc5 pm5 an5 cd5 ct5), sl5⟩)
    (cC5 : W.codeIn K cd5 "InvalidClaim.__init__" = true)
    (kC5 : W.keepIn K (.ref g5) = true)
    (aC6 : W.nsIn K mainGlobals "ParseError" = some (some (.ref C6)))
    (iC6 : W.findIn K (.ref C6) "__init__" = some (some (.ref g6)))
    (tC6 : W.typeIn K (.ref g6) = some (.type "function"))
    (lC6 : K.lookup g6 = some ⟨oc6, od6, .func (W.fnOf "__init__" "ParseError.__init__" (defArgs ci_ParseError) (defBody ci_ParseError) (defScope ci_ParseError) .none kV6 dc6 pm6 an6 cd6 ct6), sl6⟩)
    (cC6 : W.codeIn K cd6 "ParseError.__init__" = true)
    (kC6 : W.keepIn K (.ref g6) = true)
    (aC7 : W.nsIn K mainGlobals "NothingDone" = some (some (.ref C7)))
    (iC7 : W.findIn K (.ref C7) "__init__" = some (some (.ref g7)))
    (tC7 : W.typeIn K (.ref g7) = some (.type "function"))
    (lC7 : K.lookup g7 = some ⟨oc7, od7, .func (W.fnOf "__init__" "NothingDone.__init__" (defArgs ci_NothingDone) (defBody ci_NothingDone) (defScope ci_NothingDone) .none kV7 dc7 pm7 an7 cd7 ct7), sl7⟩)
    (cC7 : W.codeIn K cd7 "NothingDone.__init__" = true)
    (kC7 : W.keepIn K (.ref g7) = true)
    (aC8 : W.nsIn K mainGlobals "Refused" = some (some (.ref C8)))
    (iC8 : W.findIn K (.ref C8) "__init__" = some (some (.ref g8)))
    (tC8 : W.typeIn K (.ref g8) = some (.type "function"))
    (lC8 : K.lookup g8 = some ⟨oc8, od8, .func (W.fnOf "__init__" "Refused.__init__" (defArgs ci_Refused) (defBody ci_Refused) (defScope ci_Refused) .none kV8 dc8 pm8 an8 cd8 ct8), sl8⟩)
    (cC8 : W.codeIn K cd8 "Refused.__init__" = true)
    (kC8 : W.keepIn K (.ref g8) = true)
    (aC9 : W.nsIn K mainGlobals "Banned" = some (some (.ref C9)))
    (iC9 : W.findIn K (.ref C9) "__init__" = some (some (.ref g9)))
    (tC9 : W.typeIn K (.ref g9) = some (.type "function"))
    (lC9 : K.lookup g9 = some ⟨oc9, od9, .func (W.fnOf "__init__" "Banned.__init__" (defArgs ci_Banned) (defBody ci_Banned) (defScope ci_Banned) .none kV9 dc9 pm9 an9 cd9 ct9), sl9⟩)
    (cC9 : W.codeIn K cd9 "Banned.__init__" = true)
    (kC9 : W.keepIn K (.ref g9) = true)
    (aC10 : W.nsIn K mainGlobals "Unfounded" = some (some (.ref C10)))
    (iC10 : W.findIn K (.ref C10) "__init__" = some (some (.ref g10)))
    (tC10 : W.typeIn K (.ref g10) = some (.type "function"))
    (lC10 : K.lookup g10 = some ⟨oc10, od10, .func (W.fnOf "__init__" "Unfounded.__init__" (defArgs ci_Unfounded) (defBody ci_Unfounded) (defScope ci_Unfounded) .none kV10 dc10 pm10 an10 cd10 ct10), sl10⟩)
    (cC10 : W.codeIn K cd10 "Unfounded.__init__" = true)
    (kC10 : W.keepIn K (.ref g10) = true)
    (aC11 : W.nsIn K mainGlobals "LimitExceeded" = some (some (.ref C11)))
    (iC11 : W.findIn K (.ref C11) "__init__" = some (some (.ref g11)))
    (tC11 : W.typeIn K (.ref g11) = some (.type "function"))
    (lC11 : K.lookup g11 = some ⟨oc11, od11, .func (W.fnOf "__init__" "LimitExceeded.__init__" (defArgs ci_LimitExceeded) (defBody ci_LimitExceeded) (defScope ci_LimitExceeded) .none kV11 dc11 pm11 an11 cd11 ct11), sl11⟩)
    (cC11 : W.codeIn K cd11 "LimitExceeded.__init__" = true)
    (kC11 : W.keepIn K (.ref g11) = true)
    (a100 : W.nsIn K mainGlobals "_law_pen" = some (some (.ref f100)))
    (l100 : K.lookup f100 = some ⟨oc100, od100, .func (W.fnOf "_law_pen" "_law_pen" (defArgs st_law_pen) (defBody st_law_pen) (defScope st_law_pen) .none kV100 dc100 pm100 an100 cd100 ct100), sl100⟩)
    (c100 : W.codeIn K cd100 "_law_pen" = true)
    (k100 : W.keepIn K (.ref f100) = true)
    (a101 : W.nsIn K mainGlobals "_law_fresh" = some (some (.ref f101)))
    (l101 : K.lookup f101 = some ⟨oc101, od101, .func (W.fnOf "_law_fresh" "_law_fresh" (defArgs st_law_fresh) (defBody st_law_fresh) (defScope st_law_fresh) .none kV101 dc101 pm101 an101 cd101 ct101), sl101⟩)
    (c101 : W.codeIn K cd101 "_law_fresh" = true)
    (k101 : W.keepIn K (.ref f101) = true)
    (a102 : W.nsIn K mainGlobals "_law_draw" = some (some (.ref f102)))
    (l102 : K.lookup f102 = some ⟨oc102, od102, .func (W.fnOf "_law_draw" "_law_draw" (defArgs st_law_draw) (defBody st_law_draw) (defScope st_law_draw) .none kV102 dc102 pm102 an102 cd102 ct102), sl102⟩)
    (c102 : W.codeIn K cd102 "_law_draw" = true)
    (k102 : W.keepIn K (.ref f102) = true)
    (a103 : W.nsIn K mainGlobals "_law_one_of" = some (some (.ref f103)))
    (l103 : K.lookup f103 = some ⟨oc103, od103, .func (W.fnOf "_law_one_of" "_law_one_of" (defArgs st_law_one_of) (defBody st_law_one_of) (defScope st_law_one_of) .none kV103 dc103 pm103 an103 cd103 ct103), sl103⟩)
    (c103 : W.codeIn K cd103 "_law_one_of" = true)
    (k103 : W.keepIn K (.ref f103) = true)
    (a104 : W.nsIn K mainGlobals "_law_sort" = some (some (.ref f104)))
    (l104 : K.lookup f104 = some ⟨oc104, od104, .func (W.fnOf "_law_sort" "_law_sort" (defArgs st_law_sort) (defBody st_law_sort) (defScope st_law_sort) .none kV104 dc104 pm104 an104 cd104 ct104), sl104⟩)
    (c104 : W.codeIn K cd104 "_law_sort" = true)
    (k104 : W.keepIn K (.ref f104) = true)
    (a105 : W.nsIn K mainGlobals "_law_built" = some (some (.ref f105)))
    (l105 : K.lookup f105 = some ⟨oc105, od105, .func (W.fnOf "_law_built" "_law_built" (defArgs st_law_built) (defBody st_law_built) (defScope st_law_built) .none kV105 dc105 pm105 an105 cd105 ct105), sl105⟩)
    (c105 : W.codeIn K cd105 "_law_built" = true)
    (k105 : W.keepIn K (.ref f105) = true)
    (a106 : W.nsIn K mainGlobals "_law_right" = some (some (.ref f106)))
    (l106 : K.lookup f106 = some ⟨oc106, od106, .func (W.fnOf "_law_right" "_law_right" (defArgs st_law_right) (defBody st_law_right) (defScope st_law_right) .none kV106 dc106 pm106 an106 cd106 ct106), sl106⟩)
    (c106 : W.codeIn K cd106 "_law_right" = true)
    (k106 : W.keepIn K (.ref f106) = true)
    (a107 : W.nsIn K mainGlobals "law" = some (some (.ref f107)))
    (l107 : K.lookup f107 = some ⟨oc107, od107, .func (W.fnOf "law" "law" (defArgs stlaw) (defBody stlaw) (defScope stlaw) .none kV107 dc107 pm107 an107 cd107 ct107), sl107⟩)
    (c107 : W.codeIn K cd107 "law" = true)
    (k107 : W.keepIn K (.ref f107) = true)
    (z_IndexError : W.nsIn K mainGlobals "IndexError" = some none)
    (z_KeyError : W.nsIn K mainGlobals "KeyError" = some none)
    (z_LookupError : W.nsIn K mainGlobals "LookupError" = some none)
    (z_NotImplementedError : W.nsIn K mainGlobals "NotImplementedError" = some none)
    (z_OverflowError : W.nsIn K mainGlobals "OverflowError" = some none)
    (z_RuntimeError : W.nsIn K mainGlobals "RuntimeError" = some none)
    (z_TypeError : W.nsIn K mainGlobals "TypeError" = some none)
    (z_ValueError : W.nsIn K mainGlobals "ValueError" = some none)
    (z_int : W.nsIn K mainGlobals "int" = some none)
    (z_isinstance : W.nsIn K mainGlobals "isinstance" = some none)
    (z_len : W.nsIn K mainGlobals "len" = some none)
    (z_list : W.nsIn K mainGlobals "list" = some none)
    (z_range : W.nsIn K mainGlobals "range" = some none)
    (z_repr : W.nsIn K mainGlobals "repr" = some none)
    (vRE : W.findCls K (.type "RuntimeError") (.type "type") "__init__" = some (.val (.builtin "RuntimeError.__init__")))
    (all : clsAll K (cs C0 C1 C2 C3 C4 C5 C6 C7 C8 C9 C10 C11) = true)
    (own : kitOwn K (cs C0 C1 C2 C3 C4 C5 C6 C7 C8 C9 C10 C11) = true)
    (bl_IndexError : kitBlt K (cs C0 C1 C2 C3 C4 C5 C6 C7 C8 C9 C10 C11) supD "IndexError" = true)
    (bl_KeyError : kitBlt K (cs C0 C1 C2 C3 C4 C5 C6 C7 C8 C9 C10 C11) supD "KeyError" = true)
    (bl_LookupError : kitBlt K (cs C0 C1 C2 C3 C4 C5 C6 C7 C8 C9 C10 C11) supD "LookupError" = true)
    (bl_NotImplementedError : kitBlt K (cs C0 C1 C2 C3 C4 C5 C6 C7 C8 C9 C10 C11) supD "NotImplementedError" = true)
    (bl_OverflowError : kitBlt K (cs C0 C1 C2 C3 C4 C5 C6 C7 C8 C9 C10 C11) supD "OverflowError" = true)
    (bl_RuntimeError : kitBlt K (cs C0 C1 C2 C3 C4 C5 C6 C7 C8 C9 C10 C11) supD "RuntimeError" = true)
    (bl_TypeError : kitBlt K (cs C0 C1 C2 C3 C4 C5 C6 C7 C8 C9 C10 C11) supD "TypeError" = true)
    (bl_ValueError : kitBlt K (cs C0 C1 C2 C3 C4 C5 C6 C7 C8 C9 C10 C11) supD "ValueError" = true) :
    ∃ fd : FuncData, (∀ (s : Shared) (v : Value), BindsTo s fd ⟨[v], []⟩ [("script", v)]) ∧ ∀ base : Heap, K.In base → base.Ns mainGlobals mg → DG.FnG l.prog w K mg base 4 fa fd ["script"] (spD K w mg 1 flaw) := by
  cases hfa.symm.trans (W.mg_of X G a107)
  have m0 := W.mg_of X G aC0
  have m1 := W.mg_of X G aC1
  have m2 := W.mg_of X G aC2
  have m3 := W.mg_of X G aC3
  have m4 := W.mg_of X G aC4
  have m5 := W.mg_of X G aC5
  have m6 := W.mg_of X G aC6
  have m7 := W.mg_of X G aC7
  have m8 := W.mg_of X G aC8
  have m9 := W.mg_of X G aC9
  have m10 := W.mg_of X G aC10
  have m11 := W.mg_of X G aC11
  have hm := cs_mg (mg := mg) m0 m1 m2 m3 m4 m5 m6 m7 m8 m9 m10 m11
  have b_IndexError := W.mg_none_of X G z_IndexError
  have b_KeyError := W.mg_none_of X G z_KeyError
  have b_LookupError := W.mg_none_of X G z_LookupError
  have b_NotImplementedError := W.mg_none_of X G z_NotImplementedError
  have b_OverflowError := W.mg_none_of X G z_OverflowError
  have b_RuntimeError := W.mg_none_of X G z_RuntimeError
  have b_TypeError := W.mg_none_of X G z_TypeError
  have b_ValueError := W.mg_none_of X G z_ValueError
  have b_int := W.mg_none_of X G z_int
  have b_isinstance := W.mg_none_of X G z_isinstance
  have b_len := W.mg_none_of X G z_len
  have b_list := W.mg_none_of X G z_list
  have b_range := W.mg_none_of X G z_range
  have b_repr := W.mg_none_of X G z_repr
  have hT : ClsTb K mg tb := clsTb all hm
  have i_InvalidStore : IsO K mg tb "InvalidStore" := isO own hm cs_0
  have i_InvalidQuestion : IsO K mg tb "InvalidQuestion" := isO own hm cs_1
  have i_InvalidProgram : IsO K mg tb "InvalidProgram" := isO own hm cs_2
  have i_InvalidWishes : IsO K mg tb "InvalidWishes" := isO own hm cs_3
  have i_InvalidOptions : IsO K mg tb "InvalidOptions" := isO own hm cs_4
  have i_InvalidClaim : IsO K mg tb "InvalidClaim" := isO own hm cs_5
  have i_ParseError : IsO K mg tb "ParseError" := isO own hm cs_6
  have i_NothingDone : IsO K mg tb "NothingDone" := isO own hm cs_7
  have i_Refused : IsO K mg tb "Refused" := isO own hm cs_8
  have i_Banned : IsO K mg tb "Banned" := isO own hm cs_9
  have i_Unfounded : IsO K mg tb "Unfounded" := isO own hm cs_10
  have i_LimitExceeded : IsO K mg tb "LimitExceeded" := isO own hm cs_11
  have i_IndexError : IsB K mg tb (supD "IndexError") "IndexError" := isB (T := "IndexError") bl_IndexError hm
  have i_KeyError : IsB K mg tb (supD "KeyError") "KeyError" := isB (T := "KeyError") bl_KeyError hm
  have i_LookupError : IsB K mg tb (supD "LookupError") "LookupError" := isB (T := "LookupError") bl_LookupError hm
  have i_NotImplementedError : IsB K mg tb (supD "NotImplementedError") "NotImplementedError" := isB (T := "NotImplementedError") bl_NotImplementedError hm
  have i_OverflowError : IsB K mg tb (supD "OverflowError") "OverflowError" := isB (T := "OverflowError") bl_OverflowError hm
  have i_RuntimeError : IsB K mg tb (supD "RuntimeError") "RuntimeError" := isB (T := "RuntimeError") bl_RuntimeError hm
  have i_TypeError : IsB K mg tb (supD "TypeError") "TypeError" := isB (T := "TypeError") bl_TypeError hm
  have i_ValueError : IsB K mg tb (supD "ValueError") "ValueError" := isB (T := "ValueError") bl_ValueError hm
  refine ⟨W.fnOf "law" "law" (defArgs stlaw) (defBody stlaw) (defScope stlaw) .none kV107 dc107 pm107 an107 cd107 ct107, fun s v => .of_eq rfl, fun base _ _ => ?_⟩
  have m_InvalidStore : MkO l.prog w K mg base "InvalidStore" ["index"] := cmk_InvalidStore (fun_mk (st := ci_InvalidStore) lC0 cC0 kC0) (xcE_in all cs_0) m0 iC0 tC0
  have m_InvalidQuestion : MkO l.prog w K mg base "InvalidQuestion" ["part"] := cmk_InvalidQuestion (fun_mk (st := ci_InvalidQuestion) lC1 cC1 kC1) (xcE_in all cs_1) m1 iC1 tC1
  have m_InvalidProgram : MkO l.prog w K mg base "InvalidProgram" ["index"] := cmk_InvalidProgram (fun_mk (st := ci_InvalidProgram) lC2 cC2 kC2) (xcE_in all cs_2) m2 iC2 tC2
  have m_InvalidWishes : MkO l.prog w K mg base "InvalidWishes" ["index"] := cmk_InvalidWishes (fun_mk (st := ci_InvalidWishes) lC3 cC3 kC3) (xcE_in all cs_3) m3 iC3 tC3
  have m_InvalidOptions : MkO l.prog w K mg base "InvalidOptions" ["index"] := cmk_InvalidOptions (fun_mk (st := ci_InvalidOptions) lC4 cC4 kC4) (xcE_in all cs_4) m4 iC4 tC4
  have m_InvalidClaim : MkO l.prog w K mg base "InvalidClaim" ["part"] := cmk_InvalidClaim (fun_mk (st := ci_InvalidClaim) lC5 cC5 kC5) (xcE_in all cs_5) m5 iC5 tC5
  have m_ParseError : MkO l.prog w K mg base "ParseError" ["line"] := cmk_ParseError (fun_mk (st := ci_ParseError) lC6 cC6 kC6) (xcE_in all cs_6) m6 iC6 tC6
  have m_NothingDone : MkO l.prog w K mg base "NothingDone" [] := cmk_NothingDone (fun_mk (st := ci_NothingDone) lC7 cC7 kC7) (xc_in all cs_7) b_RuntimeError vRE m7 iC7 tC7
  have m_Refused : MkO l.prog w K mg base "Refused" ["index"] := cmk_Refused (fun_mk (st := ci_Refused) lC8 cC8 kC8) (xcE_in all cs_8) m8 iC8 tC8
  have m_Banned : MkO l.prog w K mg base "Banned" ["index", "things"] := cmk_Banned (fun_mk (st := ci_Banned) lC9 cC9 kC9) (xcE_in all cs_9) m9 iC9 tC9
  have m_Unfounded : MkO l.prog w K mg base "Unfounded" ["fault"] := cmk_Unfounded (fun_mk (st := ci_Unfounded) lC10 cC10 kC10) (xcE_in all cs_10) m10 iC10 tC10
  have m_LimitExceeded : MkO l.prog w K mg base "LimitExceeded" ["limit"] := cmk_LimitExceeded (fun_mk (st := ci_LimitExceeded) lC11 cC11 kC11) (xcE_in all cs_11) m11 iC11 tC11
  have F100 := fun_mk (st := st_law_pen) l100 c100 k100
  have c_law_pen : Fnk l.prog w K mg base "_law_pen" 1 1 f_law_pen := Fnk.mk (ps := ["script"]) (ok_law_pen F100 b_list) (W.mg_of X G a100) k100 (F100.binds fun _ _ _ _ _ _ us hl => match us, hl with | [_], _ => rfl)
  have F101 := fun_mk (st := st_law_fresh) l101 c101 k101
  have c_law_fresh : Fnk l.prog w K mg base "_law_fresh" 1 1 f_law_fresh := Fnk.mk (ps := ["pen"]) (ok_law_fresh F101 b_int b_len b_range) (W.mg_of X G a101) k101 (F101.binds fun _ _ _ _ _ _ us hl => match us, hl with | [_], _ => rfl)
  have F102 := fun_mk (st := st_law_draw) l102 c102 k102
  have c_law_draw : Fnk l.prog w K mg base "_law_draw" 2 2 f_law_draw := Fnk.mk (ps := ["pen", "bound"]) (ok_law_draw F102 b_int c_law_fresh) (W.mg_of X G a102) k102 (F102.binds fun _ _ _ _ _ _ us hl => match us, hl with | [_, _], _ => rfl)
  have F103 := fun_mk (st := st_law_one_of) l103 c103 k103
  have c_law_one_of : Fnk l.prog w K mg base "_law_one_of" 2 3 f_law_one_of := Fnk.mk (ps := ["pen", "some"]) (ok_law_one_of F103 b_len c_law_draw) (W.mg_of X G a103) k103 (F103.binds fun _ _ _ _ _ _ us hl => match us, hl with | [_, _], _ => rfl)
  have F104 := fun_mk (st := st_law_sort) l104 c104 k104
  have c_law_sort : Fnk l.prog w K mg base "_law_sort" 1 1 f_law_sort := Fnk.mk (ps := ["e"]) (ok_law_sort F104 b_isinstance hT i_Banned i_InvalidClaim i_InvalidOptions i_InvalidProgram i_InvalidQuestion i_InvalidStore i_InvalidWishes i_LimitExceeded i_NothingDone i_ParseError i_Refused i_Unfounded) (W.mg_of X G a104) k104 (F104.binds fun _ _ _ _ _ _ us hl => match us, hl with | [_], _ => rfl)
  have F105 := fun_mk (st := st_law_built) l105 c105 k105
  have c_law_built : Fnk l.prog w K mg base "_law_built" 1 1 f_law_built := Fnk.mk (ps := ["e"]) (ok_law_built F105 b_IndexError b_KeyError b_LookupError b_NotImplementedError b_OverflowError b_RuntimeError b_TypeError b_ValueError b_isinstance hT i_IndexError i_KeyError i_LookupError i_NotImplementedError i_OverflowError i_RuntimeError i_TypeError i_ValueError) (W.mg_of X G a105) k105 (F105.binds fun _ _ _ _ _ _ us hl => match us, hl with | [_], _ => rfl)
  have F106 := fun_mk (st := st_law_right) l106 c106 k106
  have c_law_right : Fnk l.prog w K mg base "_law_right" 3 2 f_law_right := Fnk.mk (ps := ["at", "kind", "errors"]) (ok_law_right F106 b_range c_law_sort c_law_built) (W.mg_of X G a106) k106 (F106.binds fun _ _ _ _ _ _ us hl => match us, hl with | [_, _, _], _ => rfl)
  have F107 := fun_mk (st := stlaw) l107 c107 k107
  exact oklaw F107 b_repr c_law_pen c_law_draw c_law_one_of c_law_right hT m_InvalidStore m_InvalidQuestion m_InvalidProgram m_InvalidWishes m_InvalidOptions m_InvalidClaim m_ParseError m_NothingDone m_Refused m_Banned m_Unfounded m_LimitExceeded
end K86
/-! MA1: the pen: what its defs do. -/
namespace MA
open PySem DL L2
theorem seq_nx {t u : MS} {S S' : DS} (h : t S = .ok (.nx, S')) : sSeq t u S = u S' := by
  unfold sSeq; rw [M.bind_run, h]; rfl
theorem seq_rt {t u : MS} {S S' : DS} {x : VD} (h : t S = .ok (.rt x, S')) : sSeq t u S = .ok (.rt x, S') := by
  unfold sSeq; rw [M.bind_run, h]; rfl
theorem bindE {α β : Type} {t : M α} {f : α → M β} {S S' : DS} {a : α} (h : t S = .ok (a, S')) : (t >>= f) S = f a S' := by
  rw [M.bind_run, h]; rfl
theorem setE {i : Nat} {t : M VD} {S S' : DS} {x : VD} (h : t S = .ok (x, S')) : sSet i t S = .ok (.nx, { S' with sl := S'.sl.set i (some x) }) := by
  unfold sSet; rw [bindE h]; rfl
theorem retE {t : M VD} {S S' : DS} {x : VD} (h : t S = .ok (x, S')) : sRet t S = .ok (.rt x, S') := by
  unfold sRet; rw [bindE h]; rfl
abbrev Pen (gs : List Int) (seat pool : Int) (k : PyData) : List PyData := [.list (gs.map .int), .int seat, .int pool, k]
theorem ltD_int (i j : Int) : fLtD (.int i) (.int j) = some (.bool (W.dataLt (.int i) (.int j))) := by simp [fLtD, W.alike, isN, PyData.depth]
theorem plain_ints : ∀ gs : List Int, PyData.plainAll (gs.map .int) = true
  | [] => rfl
  | g :: gs => by simp [PyData.plainAll, PyData.plain, plain_ints gs]
theorem depth_ints : ∀ gs : List Int, PyData.depthAll (gs.map .int) = 0
  | [] => rfl
  | g :: gs => by simp [PyData.depthAll, PyData.depth, depth_ints gs]
theorem ne_nil (gs : List Int) : fNe (.list (gs.map .int)) (.list []) = some (.bool (!gs.isEmpty)) := by
  unfold fNe eqD
  rw [show (PyData.list (gs.map .int)).plain = true from plain_ints gs, show (PyData.list []).plain = true from rfl]
  simp only [PyData.depth, depth_ints]
  cases gs <;> simp [PyData.depthAll, PyData.eqv, PyData.eqvAll]
/-! ### expressions over a state -/
section
variable {S : DS}
theorem varE {i : Nat} {x : VD} (h : S.sl[i]? = some (some x)) : eVar i S = .ok (x, S) := by unfold eVar; rw [h]
theorem cE {d : PyData} : eC d S = .ok (.dat d, S) := rfl
theorem opE {f : PyData → PyData → Option PyData} {ta tb : M VD} {S1 S2 : DS} {x y : VD} {d e r : PyData} {v : V} (h1 : ta S = .ok (x, S1)) (h2 : tb S1 = .ok (y, S2)) (p1 : peekS S2 x = some d) (p2 : peekS S2 y = some e) (hr : f d e = some r) (hv : scalV r = some v) : eOp f ta tb S = .ok (.dat r, S2) := by
  unfold eOp
  rw [bindE h1, bindE h2, bindE (show peek x S2 = .ok (d, S2) by unfold peek; rw [p1]), bindE (show peek y S2 = .ok (e, S2) by unfold peek; rw [p2]), bindE (show ofO (f d e) S2 = .ok (r, S2) by unfold ofO; rw [hr])]
  unfold DL.scal; rw [hv]; rfl
theorem opI {f : PyData → PyData → Option PyData} {ta tb : M VD} {i j k : Int} (h1 : ta S = .ok (.dat (.int i), S)) (h2 : tb S = .ok (.dat (.int j), S)) (hr : f (.int i) (.int j) = some (.int k)) : eOp f ta tb S = .ok (.dat (.int k), S) := opE h1 h2 rfl rfl hr rfl
theorem opB {f : PyData → PyData → Option PyData} {ta tb : M VD} {i j : Int} {k : Bool} (h1 : ta S = .ok (.dat (.int i), S)) (h2 : tb S = .ok (.dat (.int j), S)) (hr : f (.int i) (.int j) = some (.bool k)) : eOp f ta tb S = .ok (.dat (.bool k), S) := opE h1 h2 rfl rfl hr rfl
theorem addI {ta tb : M VD} {i j : Int} (h1 : ta S = .ok (.dat (.int i), S)) (h2 : tb S = .ok (.dat (.int j), S)) : eAdd ta tb S = .ok (.dat (.int (i + j)), S) := by
  unfold eAdd
  rw [bindE h1, bindE h2, bindE (show peek (.dat (.int i)) S = .ok (.int i, S) from rfl), bindE (show peek (.dat (.int j)) S = .ok (.int j, S) from rfl)]
  rfl
theorem fnE {f : PyData → Option PyData} {ta : M VD} {x : VD} {d r : PyData} {v : V} (h1 : ta S = .ok (x, S)) (p1 : peekS S x = some d) (hr : f d = some r) (hv : scalV r = some v) : eFn f ta S = .ok (.dat r, S) := by
  unfold eFn
  rw [bindE h1, bindE (show peek x S = .ok (d, S) by unfold peek; rw [p1]), bindE (show ofO (f d) S = .ok (r, S) by unfold ofO; rw [hr])]
  unfold DL.scal; rw [hv]; rfl
theorem intI {ta : M VD} {i : Int} (h1 : ta S = .ok (.dat (.int i), S)) : eFn intD ta S = .ok (.dat (.int i), S) := fnE h1 rfl rfl rfl
theorem idxE {ta tb : M VD} {S1 S2 : DS} {x : VD} {c r : PyData} {i : Int} (h1 : ta S = .ok (x, S1)) (h2 : tb S1 = .ok (.dat (.int i), S2)) (p1 : peekS S2 x = some c) (hr : idxD c (.int i) = some r) : eIdx ta tb S = .ok (.dat r, S2) := by
  unfold eIdx
  rw [bindE h1, bindE h2, bindE (show peek x S2 = .ok (c, S2) by unfold peek; rw [p1]), bindE (show peek (.dat (.int i)) S2 = .ok (.int i, S2) from rfl), bindE (show ofO (idxD c (.int i)) S2 = .ok (r, S2) by unfold ofO; rw [hr])]
  rfl
theorem tofE {t : M VD} {b : Bool} {S1 : DS} (h : t S = .ok (.dat (.bool b), S1)) : tOf t S = .ok (b, S1) := by unfold tOf; rw [bindE h]; rfl
theorem sifE {c : M Bool} {t u : MS} {b : Bool} {S1 : DS} (h : c S = .ok (b, S1)) : sIf c t u S = (if b then t else u) S1 := by unfold sIf; rw [bindE h]
theorem andE {t u : M Bool} {a b : Bool} (h1 : t S = .ok (a, S)) (h2 : u S = .ok (b, S)) : tAndD t u S = .ok (a && b, S) := by
  unfold tAndD; rw [bindE h1]; cases a
  · rfl
  · exact h2
theorem eifE {c : M Bool} {t u : M VD} {b : Bool} (h : c S = .ok (b, S)) : eIf c t u S = (if b then t else u) S := by unfold eIf; rw [bindE h]
theorem consE {a : M VD} {t : M (List VD)} {S1 S2 : DS} {x : VD} {xs : List VD} (h1 : a S = .ok (x, S1)) (h2 : t S1 = .ok (xs, S2)) : aCons a t S = .ok (x :: xs, S2) := by unfold aCons; rw [bindE h1, bindE h2]; rfl
/-- pen[k] = v -/
theorem penSet {j : Nat} {to te : M VD} {ds : List PyData} {k : Int} {v : Int} {q : Nat} {S1 : DS} (ht : te S = .ok (.dat (.int v), S1)) (ho : to S1 = .ok (.rf j, S1)) (hc : S1.ce[j]? = some (true, ds)) (hq : ixN ds.length k = some q) : sAsg te (gSubD to (eC (.int k))) S = .ok (.nx, { S1 with ce := S1.ce.set j (true, ds.set q (.int v)) }) := by
  unfold sAsg
  rw [bindE ht]
  unfold noX gSubD
  rw [bindE ho, bindE (show eC (.int k) S1 = .ok (.dat (.int k), S1) from rfl)]
  unfold setC
  rw [bindE (show toD (.dat (.int v)) S1 = .ok (.int v, S1) from rfl)]
  dsimp only
  rw [hc]
  dsimp only
  rw [hq]
end
end MA
/-! MA2: the pen. -/
namespace MA
open PySem DL L2
def b_law_pen : MS :=
    (sRet (eLst (aCons (eLstOf (eSl (eVar 0) oNone (oSome (eC (.int 63))))) (aCons (eC (.int 0)) (aCons (eC (.int 0)) (aCons (eLst (aCons (eC (.int 1)) (aCons (eC (.int 5)) (pure [])))) (pure [])))))))
def f_law_pen : Fd := runF 1 b_law_pen
def b_law_fresh : MS :=
    (sSeq (sPar 6 7 (aCons (eIdx (eVar 0) (eC (.int 1))) (aCons (eIdx (eVar 0) (eC (.int 0))) (pure []))))
    (sSeq (sAsg (eAdd (eVar 6) (eC (.int 1))) (gSubD (eVar 0) (eC (.int 1))))
    (sSeq (sSet 1 (eIf (tOf (eOp fNe (eVar 7) (eLst (pure [])))) (eIdx (eVar 7) (eOp fMod (eFn intD (eVar 6)) (eFn lenD (eVar 7)))) (eC (.int 0))))
    (sSeq (sIf (tAndD (tOf (eOp fLtD (eVar 6) (eFn lenD (eVar 7)))) (tOf (eOp fGe (eVar 1) (eOp fPow (eC (.int 10)) (eC (.int 18)))))) (sRet (eOp fSub (eVar 1) (eOp fPow (eC (.int 10)) (eC (.int 18))))) sNil)
    (sSeq (sSet 2 (eC (.int 2305843009213693951)))
    (sSeq (sSet 3 (eOp fMod (eFn intD (eAdd (eAdd (eOp fMul (eVar 1) (eC (.int 48271))) (eOp fMul (eC (.int 60013)) (eVar 6))) (eC (.int 31)))) (eVar 2)))
    (sSeq (sSet 4 (eVar 3))
    (sSeq (sFor (srcRng (eC (.int 6))) (setSl 5) (sSeq (sSet 3 (eOp fMod (eFn intD (eAdd (eAdd (eOp fMul (eVar 3) (eVar 3)) (eOp fMul (eOp fMul (eC (.int 70139)) (eAdd (eVar 5) (eC (.int 5)))) (eAdd (eVar 6) (eC (.int 1))))) (eVar 1))) (eVar 2)))
    (sSet 4 (eAdd (eOp fMul (eVar 4) (eVar 2)) (eVar 3)))))
    (sRet (eVar 4))))))))))
def f_law_fresh : Fd := runF 8 b_law_fresh
def b_law_draw : MS :=
    (sSeq (sIf (tOf (eOp fLtD (eIdx (eVar 0) (eC (.int 2))) (eVar 1))) (sAsg (eCall 1 f_law_fresh (aCons (eVar 0) (pure []))) (gSubD (eVar 0) (eC (.int 2)))) sNil)
    (sSeq (sSet 2 (eOp fMod (eFn intD (eIdx (eVar 0) (eC (.int 2)))) (eVar 1)))
    (sSeq (sAsg (eOp fDiv (eFn intD (eIdx (eVar 0) (eC (.int 2)))) (eVar 1)) (gSubD (eVar 0) (eC (.int 2))))
    (sRet (eVar 2)))))
def f_law_draw : Fd := runF 3 b_law_draw
def b_law_one_of : MS :=
    (sRet (eIdx (eVar 1) (eCall 2 f_law_draw (aCons (eVar 0) (aCons (eFn lenD (eVar 1)) (pure []))))))
def f_law_one_of : Fd := runF 2 b_law_one_of
theorem mulL {i j : Int} (h : -(2 ^ 64) < i ∧ i < 2 ^ 64) : fMul (.int i) (.int j) = some (.int (i * j)) := if_pos (.inl h)
theorem mulR {i j : Int} (h : -(2 ^ 64) < j ∧ j < 2 ^ 64) : fMul (.int i) (.int j) = some (.int (i * j)) := if_pos (.inr h)
theorem modI {i j : Int} (h : 0 < j) : fMod (.int i) (.int j) = some (.int (i % j)) := if_pos h
theorem divI {i j : Int} (h : 0 < j ∧ j < 1073741824) : fDiv (.int i) (.int j) = some (.int (i / j)) := if_pos h
theorem powI {i j : Int} (h : 0 ≤ j ∧ j ≤ 1000 ∧ i.natAbs < 2 ^ 64) : fPow (.int i) (.int j) = some (.int (i ^ j.toNat)) := if_pos h
/-- one turn of the loop -/
theorem lap_ok {S : DS} {j : Nat} {cell seat state found lap : Int} {gv l0 : Option VD} (hS : S.sl = [some (.rf j), some (.dat (.int cell)), some (.dat (.int 2305843009213693951)), some (.dat (.int state)), some (.dat (.int found)), some (.dat (.int lap)), some (.dat (.int seat)), gv]) (h0 : 0 ≤ state) (h1 : state < 2305843009213693951) (hl : 0 ≤ lap ∧ lap < 6) :
    ∃ s' f' : Int, 0 ≤ s' ∧ s' < 2305843009213693951 ∧ (sSeq (sSet 3 (eOp fMod (eFn intD (eAdd (eAdd (eOp fMul (eVar 3) (eVar 3)) (eOp fMul (eOp fMul (eC (.int 70139)) (eAdd (eVar 5) (eC (.int 5)))) (eAdd (eVar 6) (eC (.int 1))))) (eVar 1))) (eVar 2)))
    (sSet 4 (eAdd (eOp fMul (eVar 4) (eVar 2)) (eVar 3)))) S = .ok (.nx, ⟨[some (.rf j), some (.dat (.int cell)), some (.dat (.int 2305843009213693951)), some (.dat (.int s')), some (.dat (.int f')), some (.dat (.int lap)), some (.dat (.int seat)), gv], S.ce⟩) := by
  obtain ⟨sl, ce⟩ := S
  dsimp only at hS
  subst hS
  refine ⟨(state * state + 70139 * (lap + 5) * (seat + 1) + cell) % 2305843009213693951, found * 2305843009213693951 + (state * state + 70139 * (lap + 5) * (seat + 1) + cell) % 2305843009213693951, Int.emod_nonneg _ (by decide), Int.emod_lt_of_pos _ (by decide), ?_⟩
  rw [seq_nx (setE (opI (intI (addI (addI (opI (varE rfl) (varE rfl) (mulL ⟨by omega, by omega⟩)) (opI (opI cE (addI (varE rfl) cE) (mulL ⟨by omega, by omega⟩)) (addI (varE rfl) cE) (mulL ⟨by omega, by omega⟩))) (varE rfl))) (varE rfl) (modI (by decide))))]
  exact setE (addI (opI (varE rfl) (varE rfl) (mulR ⟨by omega, by omega⟩)) (varE rfl))
abbrev lapB : MS := (sSeq (sSet 3 (eOp fMod (eFn intD (eAdd (eAdd (eOp fMul (eVar 3) (eVar 3)) (eOp fMul (eOp fMul (eC (.int 70139)) (eAdd (eVar 5) (eC (.int 5)))) (eAdd (eVar 6) (eC (.int 1))))) (eVar 1))) (eVar 2)))
    (sSet 4 (eAdd (eOp fMul (eVar 4) (eVar 2)) (eVar 3))))
theorem laps_ok {j : Nat} {cell seat : Int} {gv : Option VD} {ce : List (Bool × List PyData)} : ∀ (ls : List Int) (state found : Int) (lv : Option VD), (∀ l ∈ ls, 0 ≤ l ∧ l < 6) → 0 ≤ state → state < 2305843009213693951 → ∃ (s' f' : Int) (lv' : Option VD),
    forD (setSl 5) lapB (ls.map .int) ⟨[some (.rf j), some (.dat (.int cell)), some (.dat (.int 2305843009213693951)), some (.dat (.int state)), some (.dat (.int found)), lv, some (.dat (.int seat)), gv], ce⟩ =
      .ok (.nx, ⟨[some (.rf j), some (.dat (.int cell)), some (.dat (.int 2305843009213693951)), some (.dat (.int s')), some (.dat (.int f')), lv', some (.dat (.int seat)), gv], ce⟩)
  | [], state, found, lv, _, _, _ => ⟨state, found, lv, rfl⟩
  | l :: ls, state, found, lv, hl, h0, h1 => by
    obtain ⟨s1, f1, a1, a2, e1⟩ := lap_ok (S := ⟨[some (.rf j), some (.dat (.int cell)), some (.dat (.int 2305843009213693951)), some (.dat (.int state)), some (.dat (.int found)), some (.dat (.int l)), some (.dat (.int seat)), gv], ce⟩) (gv := gv) (l0 := none) rfl h0 h1 (hl l List.mem_cons_self)
    obtain ⟨s2, f2, lv2, e2⟩ := laps_ok ls s1 f1 (some (.dat (.int l))) (fun x hx => hl x (List.mem_cons_of_mem _ hx)) a1 a2
    refine ⟨s2, f2, lv2, ?_⟩
    show forD (setSl 5) lapB (PyData.int l :: ls.map .int) _ = _
    unfold forD
    rw [bindE (show noX (setSl 5 (.dat (.int l))) ⟨[some (.rf j), some (.dat (.int cell)), some (.dat (.int 2305843009213693951)), some (.dat (.int state)), some (.dat (.int found)), lv, some (.dat (.int seat)), gv], ce⟩ = .ok (.nx, ⟨[some (.rf j), some (.dat (.int cell)), some (.dat (.int 2305843009213693951)), some (.dat (.int state)), some (.dat (.int found)), some (.dat (.int l)), some (.dat (.int seat)), gv], ce⟩) from rfl), bindE e1]
    exact e2
theorem cell_in (gs : List Int) (seat : Int) (h : gs ≠ []) : ∃ c : Int, idxD (.list (gs.map .int)) (.int (seat % (gs.length : Int))) = some (.int c) := by
  have hp : (0 : Int) < gs.length := by
    have := List.length_pos_iff.mpr h
    omega
  have h1 := Int.emod_nonneg seat (Int.ne_of_gt hp)
  have h2 := Int.emod_lt_of_pos seat hp
  have hn : (seat % (gs.length : Int)).toNat < gs.length := by omega
  refine ⟨gs[(seat % (gs.length : Int)).toNat]'hn, ?_⟩
  show atI (gs.map PyData.int) _ = _
  unfold atI ixN
  rw [if_pos h1, if_pos (by simpa using h2)]
  simp [List.getElem?_eq_getElem hn]
theorem peekRf {S : DS} {j : Nat} {c : Bool × List PyData} (h : S.ce[j]? = some c) : peekS S (.rf j) = some (.list c.2) := by unfold peekS; dsimp only; rw [h]
/-- a new number from the pen: the seat goes on -/
theorem fresh_ok {gs : List Int} {seat pool : Int} {k : PyData} {ce : List (Bool × List PyData)} {j : Nat} (h : ce[j]? = some (true, Pen gs seat pool k)) : ∃ v : Int, f_law_fresh [.rf j] ⟨[], ce⟩ = .ok (.dat (.int v), ⟨[], ce.set j (true, Pen gs (seat + 1) pool k)⟩) := by
  have hj : j < ce.length := (List.getElem?_eq_some_iff.mp h).1
  have h' : (ce.set j (true, Pen gs (seat + 1) pool k))[j]? = some (true, Pen gs (seat + 1) pool k) := List.getElem?_set_self hj
  unfold f_law_fresh runF
  suffices z : ∃ v S', b_law_fresh ⟨[some (.rf j), none, none, none, none, none, none, none], ce⟩ = .ok (.rt (.dat (.int v)), S') ∧ S'.ce = ce.set j (true, Pen gs (seat + 1) pool k) ++ [(true, [])] by
    obtain ⟨v, S', e, e2⟩ := z
    refine ⟨v, ?_⟩
    show (match b_law_fresh ⟨[some (.rf j), none, none, none, none, none, none, none], ce⟩ with | .ok (.rt x, S') => gc ce.length x S'.ce | .ok (.nx, S') => gc ce.length (.dat .none) S'.ce | .ok (_, _) => .bad | .exc x S' => .exc x ⟨[], S'.ce.take ce.length⟩ | .bad => .bad) = _
    rw [e]
    show gc ce.length (.dat (.int v)) S'.ce = _
    rw [e2]
    show R.ok (_, (⟨[], (ce.set j (true, Pen gs (seat + 1) pool k) ++ [(true, [])]).take ce.length⟩ : DS)) = _
    rw [List.take_left' (by simp)]
  have st1 : sPar 6 7 (aCons (eIdx (eVar 0) (eC (.int 1))) (aCons (eIdx (eVar 0) (eC (.int 0))) (pure []))) ⟨[some (.rf j), none, none, none, none, none, none, none], ce⟩ = .ok (.nx, ⟨[some (.rf j), none, none, none, none, none, some (.dat (.int seat)), some (.dat (.list (gs.map .int)))], ce⟩) := by
    unfold sPar
    rw [bindE (consE (idxE (varE rfl) cE (peekRf h) rfl) (consE (idxE (varE rfl) cE (peekRf h) rfl) rfl))]
    rfl
  have st2 : sAsg (eAdd (eVar 6) (eC (.int 1))) (gSubD (eVar 0) (eC (.int 1))) ⟨[some (.rf j), none, none, none, none, none, some (.dat (.int seat)), some (.dat (.list (gs.map .int)))], ce⟩ = .ok (.nx, ⟨[some (.rf j), none, none, none, none, none, some (.dat (.int seat)), some (.dat (.list (gs.map .int)))], ce.set j (true, Pen gs (seat + 1) pool k)⟩) :=
    penSet (ds := Pen gs seat pool k) (q := 1) (k := 1) (v := seat + 1) (addI (varE rfl) cE) (varE rfl) h rfl
  generalize hc1 : ce.set j (true, Pen gs (seat + 1) pool k) = c1 at *
  have st3 : ∃ cell : Int, sSet 1 (eIf (tOf (eOp fNe (eVar 7) (eLst (pure [])))) (eIdx (eVar 7) (eOp fMod (eFn intD (eVar 6)) (eFn lenD (eVar 7)))) (eC (.int 0))) ⟨[some (.rf j), none, none, none, none, none, some (.dat (.int seat)), some (.dat (.list (gs.map .int)))], c1⟩ =
      .ok (.nx, ⟨[some (.rf j), some (.dat (.int cell)), none, none, none, none, some (.dat (.int seat)), some (.dat (.list (gs.map .int)))], c1 ++ [(true, [])]⟩) := by
    have test : tOf (eOp fNe (eVar 7) (eLst (pure []))) ⟨[some (.rf j), none, none, none, none, none, some (.dat (.int seat)), some (.dat (.list (gs.map .int)))], c1⟩ = .ok (!gs.isEmpty, ⟨[some (.rf j), none, none, none, none, none, some (.dat (.int seat)), some (.dat (.list (gs.map .int)))], c1 ++ [(true, [])]⟩) :=
      tofE (opE (varE rfl) (show eLst (pure []) _ = .ok (.rf c1.length, _) from rfl) rfl (peekRf (c := (true, [])) (by simp)) (ne_nil gs) rfl)
    cases hg : gs with
    | nil =>
      subst hg
      refine ⟨0, setE (x := .dat (.int 0)) (S' := ⟨[some (.rf j), none, none, none, none, none, some (.dat (.int seat)), some (.dat (.list (([] : List Int).map .int)))], c1 ++ [(true, [])]⟩) ?_⟩
      unfold eIf
      rw [bindE test]
      rfl
    | cons g r =>
      obtain ⟨c, hcell⟩ := cell_in gs seat (by rw [hg]; exact List.cons_ne_nil _ _)
      rw [hg] at test hcell
      refine ⟨c, setE (x := .dat (.int c)) (S' := ⟨[some (.rf j), none, none, none, none, none, some (.dat (.int seat)), some (.dat (.list ((g :: r).map .int)))], c1 ++ [(true, [])]⟩) ?_⟩
      unfold eIf
      rw [bindE test]
      refine idxE (varE rfl) (opI (intI (varE rfl)) (fnE (varE rfl) rfl (show lenD (.list ((g :: r).map .int)) = some (.int ((g :: r).length : Nat)) by simp [lenD, asSeq]) rfl) (modI ?_)) rfl hcell; simp only [List.length_cons]; omega
  obtain ⟨cell, st3⟩ := st3
  generalize hc2 : c1 ++ [(true, [])] = c2 at *
  have pw : ∀ S : DS, eOp fPow (eC (.int 10)) (eC (.int 18)) S = .ok (.dat (.int (10 ^ 18)), S) := fun S => opI cE cE (powI ⟨by decide, by decide, by decide⟩)
  have st4 : tAndD (tOf (eOp fLtD (eVar 6) (eFn lenD (eVar 7)))) (tOf (eOp fGe (eVar 1) (eOp fPow (eC (.int 10)) (eC (.int 18))))) ⟨[some (.rf j), some (.dat (.int cell)), none, none, none, none, some (.dat (.int seat)), some (.dat (.list (gs.map .int)))], c2⟩ =
      .ok (W.dataLt (.int seat) (.int gs.length) && decide ((10 : Int) ^ 18 ≤ cell), ⟨[some (.rf j), some (.dat (.int cell)), none, none, none, none, some (.dat (.int seat)), some (.dat (.list (gs.map .int)))], c2⟩) :=
    andE (tofE (opB (varE rfl) (fnE (varE rfl) rfl (show lenD (.list (gs.map .int)) = some (.int gs.length) by simp [lenD, asSeq]) rfl) (ltD_int _ _))) (tofE (opB (varE rfl) (pw _) rfl))
  unfold b_law_fresh
  rw [seq_nx st1, seq_nx st2, seq_nx st3]
  cases hb : (W.dataLt (.int seat) (.int gs.length) && decide ((10 : Int) ^ 18 ≤ cell)) with
  | true =>
    rw [hb] at st4
    refine ⟨cell - 10 ^ 18, ⟨_, c2⟩, seq_rt (by rw [sifE st4]; exact retE (opI (varE rfl) (pw _) rfl)), rfl⟩
  | false =>
    rw [hb] at st4
    have st5 : sIf (tAndD (tOf (eOp fLtD (eVar 6) (eFn lenD (eVar 7)))) (tOf (eOp fGe (eVar 1) (eOp fPow (eC (.int 10)) (eC (.int 18)))))) (sRet (eOp fSub (eVar 1) (eOp fPow (eC (.int 10)) (eC (.int 18))))) sNil ⟨[some (.rf j), some (.dat (.int cell)), none, none, none, none, some (.dat (.int seat)), some (.dat (.list (gs.map .int)))], c2⟩ =
        .ok (.nx, ⟨[some (.rf j), some (.dat (.int cell)), none, none, none, none, some (.dat (.int seat)), some (.dat (.list (gs.map .int)))], c2⟩) := by
      rw [sifE st4]; rfl
    obtain ⟨s', f', lv, lo⟩ := laps_ok (j := j) (cell := cell) (seat := seat) (gv := some (.dat (.list (gs.map .int)))) (ce := c2) [0, 1, 2, 3, 4, 5] ((cell * 48271 + 60013 * seat + 31) % 2305843009213693951) ((cell * 48271 + 60013 * seat + 31) % 2305843009213693951) none (by decide) (Int.emod_nonneg _ (by decide)) (Int.emod_lt_of_pos _ (by decide))
    refine ⟨f', ⟨[some (.rf j), some (.dat (.int cell)), some (.dat (.int 2305843009213693951)), some (.dat (.int s')), some (.dat (.int f')), lv, some (.dat (.int seat)), some (.dat (.list (gs.map .int)))], c2⟩, ?_, rfl⟩
    rw [seq_nx st5, seq_nx (setE cE), seq_nx (setE (opI (intI (addI (addI (opI (varE rfl) cE (mulR ⟨by decide, by decide⟩)) (opI cE (varE rfl) (mulL ⟨by decide, by decide⟩))) cE)) (varE rfl) (modI (by decide)))), seq_nx (setE (varE rfl))]
    have lp : sFor (srcRng (eC (.int 6))) (setSl 5) lapB ⟨[some (.rf j), some (.dat (.int cell)), some (.dat (.int 2305843009213693951)), some (.dat (.int ((cell * 48271 + 60013 * seat + 31) % 2305843009213693951))), some (.dat (.int ((cell * 48271 + 60013 * seat + 31) % 2305843009213693951))), none, some (.dat (.int seat)), some (.dat (.list (gs.map .int)))], c2⟩ = .ok (.nx, ⟨[some (.rf j), some (.dat (.int cell)), some (.dat (.int 2305843009213693951)), some (.dat (.int s')), some (.dat (.int f')), lv, some (.dat (.int seat)), some (.dat (.list (gs.map .int)))], c2⟩) := by
      unfold sFor
      rw [bindE (show srcRng (eC (.int 6)) _ = .ok (rngD 0 6, _) from rfl)]
      exact lo
    refine (seq_nx lp).trans (retE (varE rfl))
theorem callE {n : Nat} {den : Fd} {t : M (List VD)} {S S1 S2 : DS} {xs : List VD} {x : VD} (h1 : t S = .ok (xs, S1)) (hn : xs.length = n) (h2 : den xs ⟨[], S1.ce⟩ = .ok (x, S2)) : eCall n den t S = .ok (x, ⟨S1.sl, S2.ce⟩) := by
  unfold eCall
  rw [bindE h1, bindE (show chk (decide (xs.length = n)) S1 = .ok ((), S1) by unfold chk; rw [decide_eq_true hn]; rfl)]
  rw [h2]
/-- a digit from the pen -/
theorem draw_ok {gs : List Int} {seat pool b : Int} {k : PyData} {ce : List (Bool × List PyData)} {j : Nat} (h : ce[j]? = some (true, Pen gs seat pool k)) (hb : 0 < b ∧ b < 1073741824) : ∃ d seat' pool' : Int, 0 ≤ d ∧ d < b ∧ f_law_draw [.rf j, .dat (.int b)] ⟨[], ce⟩ = .ok (.dat (.int d), ⟨[], ce.set j (true, Pen gs seat' pool' k)⟩) := by
  have hj : j < ce.length := (List.getElem?_eq_some_iff.mp h).1
  have st1 : ∃ s1 p1 : Int, sIf (tOf (eOp fLtD (eIdx (eVar 0) (eC (.int 2))) (eVar 1))) (sAsg (eCall 1 f_law_fresh (aCons (eVar 0) (pure []))) (gSubD (eVar 0) (eC (.int 2)))) sNil ⟨[some (.rf j), some (.dat (.int b)), none], ce⟩ = .ok (.nx, ⟨[some (.rf j), some (.dat (.int b)), none], ce.set j (true, Pen gs s1 p1 k)⟩) := by
    have test : tOf (eOp fLtD (eIdx (eVar 0) (eC (.int 2))) (eVar 1)) ⟨[some (.rf j), some (.dat (.int b)), none], ce⟩ = .ok (W.dataLt (.int pool) (.int b), ⟨[some (.rf j), some (.dat (.int b)), none], ce⟩) := tofE (opB (idxE (varE rfl) cE (peekRf h) rfl) (varE rfl) (ltD_int _ _))
    cases hw : W.dataLt (.int pool) (.int b) with
    | true =>
      rw [hw] at test
      obtain ⟨v, hv⟩ := fresh_ok h
      refine ⟨seat + 1, v, ?_⟩
      rw [sifE test]
      have c1 := callE (n := 1) (den := f_law_fresh) (xs := [.rf j]) (S := ⟨[some (.rf j), some (.dat (.int b)), none], ce⟩) (S1 := ⟨[some (.rf j), some (.dat (.int b)), none], ce⟩) (t := aCons (eVar 0) (pure [])) (consE (varE (i := 0) rfl) rfl) rfl hv
      have z := penSet (to := eVar 0) (ds := Pen gs (seat + 1) pool k) (q := 2) (k := 2) c1 (varE rfl) (List.getElem?_set_self hj) rfl
      refine z.trans ?_
      show R.ok (Fl.nx, (⟨_, (ce.set j (true, Pen gs (seat + 1) pool k)).set j (true, Pen gs (seat + 1) v k)⟩ : DS)) = _
      rw [List.set_set]
    | false =>
      rw [hw] at test
      refine ⟨seat, pool, ?_⟩
      rw [sifE test, show ce.set j (true, Pen gs seat pool k) = ce from by
        apply List.ext_getElem?
        intro i
        by_cases e : i = j
        · subst e; rw [List.getElem?_set_self hj, h]
        · rw [List.getElem?_set_ne (Ne.symm e)]]
      rfl
  obtain ⟨s1, p1, st1⟩ := st1
  refine ⟨p1 % b, s1, p1 / b, Int.emod_nonneg _ (by omega), Int.emod_lt_of_pos _ hb.1, ?_⟩
  have h1 : (ce.set j (true, Pen gs s1 p1 k))[j]? = some (true, Pen gs s1 p1 k) := List.getElem?_set_self hj
  have st2 : sSet 2 (eOp fMod (eFn intD (eIdx (eVar 0) (eC (.int 2)))) (eVar 1)) ⟨[some (.rf j), some (.dat (.int b)), none], ce.set j (true, Pen gs s1 p1 k)⟩ = .ok (.nx, ⟨[some (.rf j), some (.dat (.int b)), some (.dat (.int (p1 % b)))], ce.set j (true, Pen gs s1 p1 k)⟩) :=
    setE (S' := ⟨[some (.rf j), some (.dat (.int b)), none], ce.set j (true, Pen gs s1 p1 k)⟩) (opI (intI (idxE (varE rfl) cE (peekRf h1) rfl)) (varE rfl) (modI hb.1))
  have st3 := penSet (to := eVar 0) (S := ⟨[some (.rf j), some (.dat (.int b)), some (.dat (.int (p1 % b)))], ce.set j (true, Pen gs s1 p1 k)⟩) (ds := Pen gs s1 p1 k) (q := 2) (k := 2) (opI (intI (idxE (varE (i := 0) rfl) (cE (d := .int 2)) (peekRf h1) rfl)) (varE (i := 1) rfl) (divI hb)) (varE rfl) h1 rfl
  unfold f_law_draw runF
  have e : b_law_draw ⟨[some (.rf j), some (.dat (.int b)), none], ce⟩ = .ok (.rt (.dat (.int (p1 % b))), ⟨[some (.rf j), some (.dat (.int b)), some (.dat (.int (p1 % b)))], ce.set j (true, Pen gs s1 (p1 / b) k)⟩) := by
    unfold b_law_draw
    rw [seq_nx st1, seq_nx st2, seq_nx st3]
    refine (retE (varE (i := 2) rfl)).trans ?_
    show R.ok (_, (⟨_, (ce.set j (true, Pen gs s1 p1 k)).set j (true, Pen gs s1 (p1 / b) k)⟩ : DS)) = _
    rw [List.set_set]
  show (match b_law_draw ⟨[some (.rf j), some (.dat (.int b)), none], ce⟩ with | .ok (.rt x, S') => gc ce.length x S'.ce | .ok (.nx, S') => gc ce.length (.dat .none) S'.ce | .ok (_, _) => .bad | .exc x S' => .exc x ⟨[], S'.ce.take ce.length⟩ | .bad => .bad) = _
  rw [e]
  show R.ok (_, (⟨[], (ce.set j (true, Pen gs s1 (p1 / b) k)).take ce.length⟩ : DS)) = _; rw [List.take_of_length_le (by simp)]
/-- one of a list -/
theorem one_of_ok {gs : List Int} {seat pool : Int} {k : PyData} {ce : List (Bool × List PyData)} {j i : Nat} {ds : List PyData} {fl : Bool} (h : ce[j]? = some (true, Pen gs seat pool k)) (hi : ce[i]? = some (fl, ds)) (hij : i ≠ j) (h0 : ds ≠ []) (hl : ds.length < 1073741824) :
    ∃ (d : PyData) (seat' pool' : Int), d ∈ ds ∧ f_law_one_of [.rf j, .rf i] ⟨[], ce⟩ = .ok (.dat d, ⟨[], ce.set j (true, Pen gs seat' pool' k)⟩) := by
  have hj : j < ce.length := (List.getElem?_eq_some_iff.mp h).1
  have hp := List.length_pos_iff.mpr h0
  obtain ⟨m, s1, p1, m0, m1, hd⟩ := draw_ok (b := (ds.length : Int)) h ⟨by omega, by omega⟩
  have hm : m.toNat < ds.length := by omega
  refine ⟨ds[m.toNat], s1, p1, List.getElem_mem _, ?_⟩
  have hn : (ce.set j (true, Pen gs s1 p1 k))[i]? = some (fl, ds) := by rw [List.getElem?_set_ne (Ne.symm hij)]; exact hi
  have call := callE (n := 2) (den := f_law_draw) (xs := [.rf j, .dat (.int ds.length)]) (S := ⟨[some (.rf j), some (.rf i)], ce⟩) (S1 := ⟨[some (.rf j), some (.rf i)], ce⟩) (t := aCons (eVar 0) (aCons (eFn lenD (eVar 1)) (pure []))) (consE (varE (i := 0) rfl) (consE (fnE (varE (i := 1) rfl) (peekRf hi) (show lenD (.list ds) = some (.int ds.length) by simp [lenD, asSeq]) rfl) rfl)) rfl hd
  have e : b_law_one_of ⟨[some (.rf j), some (.rf i)], ce⟩ = .ok (.rt (.dat ds[m.toNat]), ⟨[some (.rf j), some (.rf i)], ce.set j (true, Pen gs s1 p1 k)⟩) := by
    unfold b_law_one_of
    refine retE (idxE (varE rfl) call (peekRf hn) ?_)
    show atI ds m = _
    unfold atI ixN
    rw [if_pos m0, if_pos m1]
    exact List.getElem?_eq_getElem hm
  unfold f_law_one_of runF
  show (match b_law_one_of ⟨[some (.rf j), some (.rf i)], ce⟩ with | .ok (.rt x, S') => gc ce.length x S'.ce | .ok (.nx, S') => gc ce.length (.dat .none) S'.ce | .ok (_, _) => .bad | .exc x S' => .exc x ⟨[], S'.ce.take ce.length⟩ | .bad => .bad) = _
  rw [e]
  show R.ok (_, (⟨[], (ce.set j (true, Pen gs s1 p1 k)).take ce.length⟩ : DS)) = _; rw [List.take_of_length_le (by simp)]
end MA
/-! MA3: lists of bools, comprehensions, repr: on any cells. -/
namespace MA
open PySem DL L2
theorem toDs_dat : ∀ (ds : List PyData) (S : DS), toDs (ds.map .dat) S = .ok (ds, S)
  | [], _ => rfl
  | d :: ds, S => by
    show (toD (.dat d) >>= fun d => toDs (ds.map .dat) >>= fun ds => pure (d :: ds)) S = _
    rw [bindE (show toD (.dat d) S = .ok (d, S) from rfl), bindE (toDs_dat ds S)]
    rfl
section
variable {S : DS}
theorem lstE {t : M (List VD)} {S1 : DS} {ds : List PyData} (h : t S = .ok (ds.map .dat, S1)) (hl : ds.length ≤ 1000) : eLst t S = .ok (.rf S1.ce.length, ⟨S1.sl, S1.ce ++ [(true, ds)]⟩) := by
  unfold eLst
  rw [bindE h, bindE (toDs_dat ds S1), bindE (show chk (decide (ds.length ≤ 1000)) S1 = .ok ((), S1) by unfold chk; rw [decide_eq_true hl]; rfl)]
  rfl
theorem addLL {ta tb : M VD} {i : Nat} {f : Bool} {xs ys : List PyData} (h1 : ta S = .ok (.rf i, S)) (h2 : tb S = .ok (.rf S.ce.length, ⟨S.sl, S.ce ++ [(true, ys)]⟩)) (hi : S.ce[i]? = some (f, xs)) (hz : xs.length + ys.length ≤ 1000) :
    eAdd ta tb S = .ok (.rf (S.ce.length + 1), ⟨S.sl, S.ce ++ [(true, ys)] ++ [(true, xs ++ ys)]⟩) := by
  have hl : i < S.ce.length := (List.getElem?_eq_some_iff.mp hi).1
  have p1 : peekS ⟨S.sl, S.ce ++ [(true, ys)]⟩ (.rf i) = some (.list xs) := peekRf (c := (f, xs)) (by show (S.ce ++ [(true, ys)])[i]? = _; rw [List.getElem?_append_left hl]; exact hi)
  have p2 : peekS ⟨S.sl, S.ce ++ [(true, ys)]⟩ (.rf S.ce.length) = some (.list ys) := peekRf (c := (true, ys)) (by show (S.ce ++ [(true, ys)])[S.ce.length]? = _; simp)
  unfold eAdd
  rw [bindE h1, bindE h2, bindE (show peek (.rf i) _ = .ok (.list xs, _) by unfold peek; rw [p1]), bindE (show peek (.rf S.ce.length) _ = .ok (.list ys, _) by unfold peek; rw [p2])]
  unfold addD
  dsimp only
  rw [bindE (show chk (decide (xs.length + ys.length ≤ 16777216)) _ = .ok ((), _) by unfold chk; rw [decide_eq_true (by omega)]; rfl)]
  show R.ok (VD.rf (S.ce ++ [(true, ys)]).length, _) = _
  rw [List.length_append]
  rfl
theorem plain_bools : ∀ bs : List Bool, PyData.plainAll (bs.map .bool) = true
  | [] => rfl
  | g :: gs => by simp [PyData.plainAll, PyData.plain, plain_bools gs]
theorem depth_bools : ∀ bs : List Bool, PyData.depthAll (bs.map .bool) = 0
  | [] => rfl
  | g :: gs => by simp [PyData.depthAll, PyData.depth, depth_bools gs]
theorem eqv_bools : ∀ bs : List Bool, PyData.eqvAll (bs.map .bool) (bs.map .bool) = true
  | [] => rfl
  | g :: gs => by simp [PyData.eqvAll, PyData.eqv, eqv_bools gs]
theorem ne_bools (bs : List Bool) : fNe (.list (bs.map .bool)) (.list (bs.map .bool)) = some (.bool false) := by
  unfold fNe eqD
  rw [show (PyData.list (bs.map .bool)).plain = true from plain_bools bs]
  simp [PyData.depth, depth_bools, PyData.eqv, eqv_bools]
theorem eq_ints (i j : Int) : fEq (.int i) (.int j) = some (.bool (i == j)) := by
  simp [fEq, eqD, PyData.plain, PyData.depth, PyData.eqv]
theorem eq_strs (y : Str) : fEq (.str y) (.str y) = some (.bool true) := by
  simp [fEq, eqD, PyData.plain, PyData.depth, PyData.eqv]
/-- a comprehension whose step leaves the cells alone -/
theorem lc_go {step : PyData → M (Option PyData)} {n0 : Nat} {sl0 : List (Option VD)} {f : PyData → PyData} {ce : List (Bool × List PyData)} (hn : ce.length = n0) : ∀ (ds acc : List PyData), (∀ d ∈ ds, ∀ ce', ∃ sl', step d ⟨sl0, ce'⟩ = .ok (some (f d), ⟨sl', ce'⟩)) → acc.length + ds.length ≤ 1000 →
    lcGo step n0 sl0 ds (ce ++ [(true, acc)]) = some (ce ++ [(true, acc ++ ds.map f)])
  | [], acc, _, _ => by simp [lcGo]
  | d :: ds, acc, hs, hz => by
    obtain ⟨sl', e⟩ := hs d List.mem_cons_self (ce ++ [(true, acc)])
    unfold lcGo
    rw [e]
    dsimp only
    have g : (ce ++ [(true, acc)])[n0]? = some (true, acc) := by rw [← hn]; simp
    rw [g]
    dsimp only
    have hz' : acc.length < 16777216 := by simp at hz; omega
    rw [if_pos hz', List.take_left' hn, lc_go hn ds (acc ++ [f d]) (fun x hx => hs x (List.mem_cons_of_mem _ hx)) (by simp at hz ⊢; omega)]
    simp
/-- [p == x for p in range(n)] -/
theorem comp_ok {n : Nat} {k : Nat} {at_ : Int} (hn : n ≤ 1000) (hk : (wipeD S.sl [4])[k]? = some (some (.dat (.int at_)))) (h4 : k ≠ 4) (hl : 4 < (wipeD S.sl [4]).length) : eLc [4] (srcRng (eC (.int n))) (stepC (setSl 4) tYesD (eOp fEq (eVar 4) (eVar k))) S = .ok (.rf S.ce.length, ⟨S.sl, S.ce ++ [(true, ((List.range n).map fun (i : Nat) => ((i : Int) == at_)).map .bool)]⟩) := by
  unfold eLc
  rw [bindE (show srcRng (eC (.int n)) S = .ok (rngD 0 n, S) by
    unfold srcRng
    rw [bindE cE]
    dsimp only
    rw [bindE (show chk _ S = .ok ((), S) by unfold chk; rw [decide_eq_true (by omega)]; rfl)]
    rfl)]
  rw [lc_go (f := fun d => match d with | .int i => .bool (i == at_) | _ => .none) rfl (rngD 0 n) [] (fun d hd ce' => ?_) (by simp [rngD]; exact hn)]
  · simp [rngD, Function.comp_def]
  · obtain ⟨i, _, rfl⟩ := List.mem_map.mp hd
    refine ⟨(wipeD S.sl [4]).set 4 (some (.dat (.int (0 + (i : Int))))), ?_⟩
    unfold stepC
    rw [bindE (show setSl 4 (.dat (.int (0 + (i : Int)))) ⟨wipeD S.sl [4], ce'⟩ = .ok ((), ⟨(wipeD S.sl [4]).set 4 (some (.dat (.int (0 + (i : Int))))), ce'⟩) from rfl), bindE (show tYesD _ = .ok (true, _) from rfl)]
    dsimp only
    rw [if_pos rfl, bindE (opB (varE (by show ((wipeD S.sl [4]).set 4 _)[4]? = _; rw [List.getElem?_set_self hl])) (varE (x := .dat (.int at_)) (by show ((wipeD S.sl [4]).set 4 _)[k]? = _; rw [List.getElem?_set_ne (Ne.symm h4)]; exact hk)) (eq_ints _ _))]
    rfl
/-- repr(t) == repr(u), both of the same data -/
theorem repr_eq {t u : M VD} {S1 S2 : DS} {x y : VD} {d : PyData} {z : Str} (h1 : t S = .ok (x, S1)) (p1 : peekS S1 x = some d) (h2 : u S1 = .ok (y, S2)) (p2 : peekS S2 y = some d) (hz : reprD d = some z) : eOp fEq (eRepr t) (eRepr u) S = .ok (.dat (.bool true), S2) := by
  have e1 : eRepr t S = .ok (.dat (.str z), S1) := by
    unfold eRepr
    rw [bindE h1, bindE (show peek x S1 = .ok (d, S1) by unfold peek; rw [p1]), bindE (show ofO (reprD d) S1 = .ok (z, S1) by unfold ofO; rw [hz])]; rfl
  have e2 : eRepr u S1 = .ok (.dat (.str z), S2) := by
    unfold eRepr
    rw [bindE h2, bindE (show peek y S2 = .ok (d, S2) by unfold peek; rw [p2]), bindE (show ofO (reprD d) S2 = .ok (z, S2) by unfold ofO; rw [hz])]; rfl
  exact opE e1 e2 rfl rfl (eq_strs z) rfl
theorem andV {t u : M VD} {S1 : DS} {r : R (VD × DS)} (h1 : t S = .ok (.dat (.bool true), S1)) (h2 : u S1 = r) : eAndD t u S = r := by
  unfold eAndD
  rw [bindE (tofE h1)]
  exact h2
end
end MA
/-! MA4: k86: what its own defs do. -/
namespace K86
open PySem DL L2 MA
abbrev Cells := List (Bool × List PyData)
abbrev Ex := Str × List (Str × PyData)
theorem run_rf {N : Nat} {body : MS} {xs : List VD} {ce more : Cells} {i : Nat} {sl : List (Option VD)} {c : Bool × List PyData} (h : body ⟨xs.map some ++ List.replicate (N - xs.length) none, ce⟩ = .ok (.rt (.rf i), ⟨sl, ce ++ more⟩)) (hi : ce.length ≤ i) (hc : (ce ++ more)[i]? = some c) : runF N body xs ⟨[], ce⟩ = .ok (.rf ce.length, ⟨[], ce ++ [c]⟩) := by
  unfold runF
  dsimp only
  rw [h]
  show gc ce.length (.rf i) (ce ++ more) = _
  unfold gc
  dsimp only
  rw [if_neg (by omega), hc, List.take_left' rfl]
theorem run_dat {N : Nat} {body : MS} {xs : List VD} {ce more : Cells} {d : PyData} {sl : List (Option VD)} (h : body ⟨xs.map some ++ List.replicate (N - xs.length) none, ce⟩ = .ok (.rt (.dat d), ⟨sl, ce ++ more⟩)) : runF N body xs ⟨[], ce⟩ = .ok (.dat d, ⟨[], ce⟩) := by
  unfold runF
  dsimp only
  rw [h]
  show R.ok (_, (⟨[], (ce ++ more).take ce.length⟩ : DS)) = _
  rw [List.take_left' rfl]
theorem isx {S : DS} {i : Nat} {e : Ex} {ns : List Str} {f : Str → Bool} (hs : S.sl[i]? = some (some (.ex e))) (h : tb.lookup e.1 = some ns) : eIsX tb f (eVar i) S = .ok (.dat (.bool (f e.1)), S) := by
  unfold eIsX
  rw [bindE (varE hs)]
  dsimp only
  rw [h]
  rfl
theorem is3 {S : DS} {i : Nat} {e : Ex} {ns : List Str} {f g k : Str → Bool} (hs : S.sl[i]? = some (some (.ex e))) (h : tb.lookup e.1 = some ns) : aCons (eIsX tb f (eVar i)) (aCons (eIsX tb g (eVar i)) (aCons (eIsX tb k (eVar i)) (pure []))) S = .ok (([f e.1, g e.1, k e.1].map PyData.bool).map .dat, S) :=
  consE (isx hs h) (consE (isx hs h) (consE (isx hs h) rfl))
theorem is2 {S : DS} {i : Nat} {e : Ex} {ns : List Str} {f g : Str → Bool} (hs : S.sl[i]? = some (some (.ex e))) (h : tb.lookup e.1 = some ns) : aCons (eIsX tb f (eVar i)) (aCons (eIsX tb g (eVar i)) (pure [])) S = .ok (([f e.1, g e.1].map PyData.bool).map .dat, S) :=
  consE (isx hs h) (consE (isx hs h) rfl)
theorem last2 {c : Cells} {x y : Bool × List PyData} : (c ++ [x] ++ [y])[c.length + 1]? = some y := by
  rw [List.getElem?_append_right (by simp)]; simp
theorem add_set {e : Ex} {i : Nat} {c : Cells} {bs ys : List Bool} {t : M (List VD)} (hi : c[i]? = some (true, bs.map .bool)) (ht : t ⟨[some (.ex e), some (.rf i)], c⟩ = .ok ((ys.map PyData.bool).map .dat, ⟨[some (.ex e), some (.rf i)], c⟩)) (hz : bs.length + ys.length ≤ 1000) :
    eAdd (eVar 1) (eLst t) ⟨[some (.ex e), some (.rf i)], c⟩ = .ok (.rf (c.length + 1), ⟨[some (.ex e), some (.rf i)], c ++ [(true, ys.map .bool)] ++ [(true, (bs ++ ys).map .bool)]⟩) := by
  have z := addLL (S := ⟨[some (.ex e), some (.rf i)], c⟩) (varE (i := 1) rfl) (lstE ht (by simp; omega)) hi (by simpa using hz)
  rw [z]; simp
def sortL (c : Str) : List Bool := [decide (c = "InvalidStore"), decide (c = "InvalidQuestion"), decide (c = "InvalidProgram")] ++ [decide (c = "InvalidWishes"), decide (c = "InvalidOptions"), decide (c = "InvalidClaim")] ++ [decide (c = "ParseError"), decide (c = "NothingDone"), decide (c = "Refused")] ++ [decide (c = "Banned"), decide (c = "LimitExceeded"), decide (c = "Unfounded")]
def builtL (c : Str) : List Bool := [supD "ValueError" c, supD "RuntimeError" c, supD "OverflowError" c] ++ [supD "LookupError" c, supD "TypeError" c, supD "KeyError" c] ++ [supD "IndexError" c, supD "NotImplementedError" c]
theorem set_add {e : Ex} {i : Nat} {c : Cells} {bs ys : List Bool} {t : M (List VD)} (hi : c[i]? = some (true, bs.map .bool)) (ht : t ⟨[some (.ex e), some (.rf i)], c⟩ = .ok ((ys.map PyData.bool).map .dat, ⟨[some (.ex e), some (.rf i)], c⟩)) (hz : bs.length + ys.length ≤ 1000) :
    sSet 1 (eAdd (eVar 1) (eLst t)) ⟨[some (.ex e), some (.rf i)], c⟩ = .ok (.nx, ⟨[some (.ex e), some (.rf (c.length + 1))], c ++ [(true, ys.map .bool)] ++ [(true, (bs ++ ys).map .bool)]⟩) := setE (add_set hi ht hz)
theorem set_first {e : Ex} {c : Cells} {ys : List Bool} {t : M (List VD)} (ht : t ⟨[some (.ex e), none], c⟩ = .ok ((ys.map PyData.bool).map .dat, ⟨[some (.ex e), none], c⟩)) (hz : ys.length ≤ 1000) :
    sSet 1 (eLst t) ⟨[some (.ex e), none], c⟩ = .ok (.nx, ⟨[some (.ex e), some (.rf c.length)], c ++ [(true, ys.map .bool)]⟩) := setE (S' := ⟨[some (.ex e), none], c ++ [(true, ys.map .bool)]⟩) (lstE ht (by simpa using hz))
abbrev Tells (e : Ex) (t : M (List VD)) (A : List Bool) : Prop := ∀ S : DS, S.sl[0]? = some (some (.ex e)) → t S = .ok ((A.map PyData.bool).map .dat, S)
theorem chain4 {e : Ex} {A B C D : List Bool} {tA tB tC tD : M (List VD)} (hA : Tells e tA A) (hB : Tells e tB B) (hC : Tells e tC C) (hD : Tells e tD D) (hz : A.length + B.length + C.length + D.length ≤ 1000) (ce : Cells) :
    runF 2 (sSeq (sSet 1 (eLst tA)) (sSeq (sSet 1 (eAdd (eVar 1) (eLst tB))) (sSeq (sSet 1 (eAdd (eVar 1) (eLst tC))) (sRet (eAdd (eVar 1) (eLst tD)))))) [.ex e] ⟨[], ce⟩ = .ok (.rf ce.length, ⟨[], ce ++ [(true, (A ++ B ++ C ++ D).map .bool)]⟩) := by
  generalize hc1 : ce ++ [(true, A.map PyData.bool)] = c1
  generalize hc2 : c1 ++ [(true, B.map PyData.bool)] ++ [(true, (A ++ B).map .bool)] = c2
  generalize hc3 : c2 ++ [(true, C.map PyData.bool)] ++ [(true, (A ++ B ++ C).map .bool)] = c3
  have i1 : c1[ce.length]? = some (true, A.map .bool) := by rw [← hc1]; simp
  have i2 : c2[c1.length + 1]? = some (true, (A ++ B).map .bool) := by rw [← hc2]; exact last2
  have i3 : c3[c2.length + 1]? = some (true, (A ++ B ++ C).map .bool) := by rw [← hc3]; exact last2
  have s1 := set_first (c := ce) (hA ⟨[some (.ex e), none], ce⟩ rfl) (by omega)
  rw [hc1] at s1
  have s2 := set_add i1 (hB ⟨[some (.ex e), some (.rf ce.length)], c1⟩ rfl) (by omega)
  rw [hc2] at s2
  have s3 := set_add i2 (hC ⟨[some (.ex e), some (.rf (c1.length + 1))], c2⟩ rfl) (by simp; omega)
  rw [hc3] at s3
  have s4 := add_set i3 (hD ⟨[some (.ex e), some (.rf (c2.length + 1))], c3⟩ rfl) (by simp; omega)
  have l1 : c1.length = ce.length + 1 := by rw [← hc1]; simp
  have l2 : c2.length = c1.length + 2 := by rw [← hc2]; simp
  have l3 : c3.length = c2.length + 2 := by rw [← hc3]; simp
  have whole : ∃ more, c3 ++ [(true, D.map PyData.bool)] ++ [(true, (A ++ B ++ C ++ D).map .bool)] = ce ++ more := by
    rw [← hc3, ← hc2, ← hc1]
    exact ⟨_, by simp only [List.append_assoc]; rfl⟩
  obtain ⟨more, hm⟩ := whole
  refine run_rf (sl := [some (.ex e), some (.rf (c2.length + 1))]) (more := more) (i := c3.length + 1) ?_ (by omega) (by rw [← hm]; exact last2)
  show sSeq _ _ ⟨[some (.ex e), none], ce⟩ = _
  rw [seq_nx s1, seq_nx s2, seq_nx s3, retE s4, hm]
theorem chain3 {e : Ex} {A B C : List Bool} {tA tB tC : M (List VD)} (hA : Tells e tA A) (hB : Tells e tB B) (hC : Tells e tC C) (hz : A.length + B.length + C.length ≤ 1000) (ce : Cells) :
    runF 2 (sSeq (sSet 1 (eLst tA)) (sSeq (sSet 1 (eAdd (eVar 1) (eLst tB))) (sRet (eAdd (eVar 1) (eLst tC))))) [.ex e] ⟨[], ce⟩ = .ok (.rf ce.length, ⟨[], ce ++ [(true, (A ++ B ++ C).map .bool)]⟩) := by
  generalize hc1 : ce ++ [(true, A.map PyData.bool)] = c1
  generalize hc2 : c1 ++ [(true, B.map PyData.bool)] ++ [(true, (A ++ B).map .bool)] = c2
  have i1 : c1[ce.length]? = some (true, A.map .bool) := by rw [← hc1]; simp
  have i2 : c2[c1.length + 1]? = some (true, (A ++ B).map .bool) := by rw [← hc2]; exact last2
  have s1 := set_first (c := ce) (hA ⟨[some (.ex e), none], ce⟩ rfl) (by omega)
  rw [hc1] at s1
  have s2 := set_add i1 (hB ⟨[some (.ex e), some (.rf ce.length)], c1⟩ rfl) (by omega)
  rw [hc2] at s2
  have s3 := add_set i2 (hC ⟨[some (.ex e), some (.rf (c1.length + 1))], c2⟩ rfl) (by simp; omega)
  have l1 : c1.length = ce.length + 1 := by rw [← hc1]; simp
  have l2 : c2.length = c1.length + 2 := by rw [← hc2]; simp
  have whole : ∃ more, c2 ++ [(true, C.map PyData.bool)] ++ [(true, (A ++ B ++ C).map .bool)] = ce ++ more := by
    rw [← hc2, ← hc1]
    exact ⟨_, by simp only [List.append_assoc]; rfl⟩
  obtain ⟨more, hm⟩ := whole
  refine run_rf (sl := [some (.ex e), some (.rf (c1.length + 1))]) (more := more) (i := c2.length + 1) ?_ (by omega) (by rw [← hm]; exact last2)
  show sSeq _ _ ⟨[some (.ex e), none], ce⟩ = _
  rw [seq_nx s1, seq_nx s2, retE s3, hm]
theorem sort_ok {e : Ex} {ns : List Str} (h : tb.lookup e.1 = some ns) (ce : Cells) : f_law_sort [.ex e] ⟨[], ce⟩ = .ok (.rf ce.length, ⟨[], ce ++ [(true, (sortL e.1).map .bool)]⟩) :=
  chain4 (fun S hs => is3 hs h) (fun S hs => is3 hs h) (fun S hs => is3 hs h) (fun S hs => is3 hs h) (by show 3 + 3 + 3 + 3 ≤ 1000; decide) ce
theorem built_ok {e : Ex} {ns : List Str} (h : tb.lookup e.1 = some ns) (ce : Cells) : f_law_built [.ex e] ⟨[], ce⟩ = .ok (.rf ce.length, ⟨[], ce ++ [(true, (builtL e.1).map .bool)]⟩) :=
  chain3 (fun S hs => is3 hs h) (fun S hs => is3 hs h) (fun S hs => is2 hs h) (by show 3 + 3 + 2 ≤ 1000; decide) ce
end K86
/-! MA5: k86: _law_right. -/
namespace K86
open PySem DL L2 MA
def placeL (n : Nat) (at_ : Int) : List Bool := (List.range n).map fun (i : Nat) => ((i : Int) == at_)
/-- a test of _law_right: what the def tells, against the place -/
theorem test_ok {S : DS} {e : Ex} {den : Fd} {L : List Bool} {n k : Nat} {a : Int} (he : S.sl[3]? = some (some (.ex e))) (hd : ∀ c : Cells, den [.ex e] ⟨[], c⟩ = .ok (.rf c.length, ⟨[], c ++ [(true, L.map .bool)]⟩)) (hL : L = placeL n a) (hn : n ≤ 1000)
    (hk : (wipeD S.sl [4])[k]? = some (some (.dat (.int a)))) (h4 : k ≠ 4) (hl : 4 < (wipeD S.sl [4]).length) : ∃ more, sIf (tOf (eOp fNe (eCall 1 den (aCons (eVar 3) (pure []))) (eLc [4] (srcRng (eC (.int n))) (stepC (setSl 4) tYesD (eOp fEq (eVar 4) (eVar k)))))) (sRet (eC (.bool false))) sNil S = .ok (.nx, ⟨S.sl, S.ce ++ more⟩) := by
  have c1 := callE (n := 1) (den := den) (xs := [.ex e]) (S := S) (S1 := S) (t := aCons (eVar 3) (pure [])) (consE (varE he) rfl) rfl (hd S.ce)
  have c2 := comp_ok (S := ⟨S.sl, S.ce ++ [(true, L.map PyData.bool)]⟩) hn hk h4 hl
  refine ⟨[(true, L.map PyData.bool)] ++ [(true, (placeL n a).map PyData.bool)], ?_⟩
  have z : eOp fNe (eCall 1 den (aCons (eVar 3) (pure []))) (eLc [4] (srcRng (eC (.int n))) (stepC (setSl 4) tYesD (eOp fEq (eVar 4) (eVar k)))) S = .ok (.dat (.bool false), ⟨S.sl, S.ce ++ [(true, L.map PyData.bool)] ++ [(true, (placeL n a).map PyData.bool)]⟩) := by
    refine opE c1 c2 (peekRf (c := (true, L.map .bool)) ?_) (peekRf (c := (true, (placeL n a).map .bool)) ?_) ?_ rfl
    · show (S.ce ++ [(true, L.map PyData.bool)] ++ [(true, (placeL n a).map PyData.bool)])[S.ce.length]? = _
      rw [List.getElem?_append_left (by simp)]; simp
    · show (S.ce ++ [(true, L.map PyData.bool)] ++ [(true, (placeL n a).map PyData.bool)])[(S.ce ++ [(true, L.map PyData.bool)]).length]? = _
      simp
    · rw [hL]; exact ne_bools _
  rw [sifE (tofE z), ← List.append_assoc]
  rfl
abbrev rightB : MS := (sSeq (sIf (tOf (eOp fNe (eCall 1 f_law_sort (aCons (eVar 3) (pure []))) (eLc [4] (srcRng (eC (.int 12))) (stepC (setSl 4) tYesD (eOp fEq (eVar 4) (eVar 0)))))) (sRet (eC (.bool false))) sNil)
    (sIf (tOf (eOp fNe (eCall 1 f_law_built (aCons (eVar 3) (pure []))) (eLc [4] (srcRng (eC (.int 8))) (stepC (setSl 4) tYesD (eOp fEq (eVar 4) (eVar 1)))))) (sRet (eC (.bool false))) sNil))
def Fits (a k : Int) (e : Ex) : Prop := (∃ ns, tb.lookup e.1 = some ns) ∧ sortL e.1 = placeL 12 a ∧ builtL e.1 = placeL 8 k
theorem rights_ok {a k : Int} {x2 x4 : Option VD} : ∀ (es : List Ex) (x3 : Option VD) (c : Cells), (∀ e ∈ es, Fits a k e) → ∃ more x3', forX (setSl 3) rightB es ⟨[some (.dat (.int a)), some (.dat (.int k)), x2, x3, x4], c⟩ = .ok (.nx, ⟨[some (.dat (.int a)), some (.dat (.int k)), x2, x3', x4], c ++ more⟩)
  | [], x3, c, _ => ⟨[], x3, by simp [forX, M.pure_run]⟩
  | e :: es, x3, c, h => by
    obtain ⟨⟨ns, hn⟩, h1, h2⟩ := h e List.mem_cons_self
    obtain ⟨m1, t1⟩ := test_ok (S := ⟨[some (.dat (.int a)), some (.dat (.int k)), x2, some (.ex e), x4], c⟩) (den := f_law_sort) (n := 12) (k := 0) (a := a) rfl (sort_ok hn) h1 (by decide) rfl (by decide) (by show 4 < 5; decide)
    obtain ⟨m2, t2⟩ := test_ok (S := ⟨[some (.dat (.int a)), some (.dat (.int k)), x2, some (.ex e), x4], c ++ m1⟩) (den := f_law_built) (n := 8) (k := 1) (a := k) rfl (built_ok hn) h2 (by decide) rfl (by decide) (by show 4 < 5; decide)
    obtain ⟨m3, x3', t3⟩ := rights_ok (a := a) (k := k) (x2 := x2) (x4 := x4) es (some (.ex e)) (c ++ m1 ++ m2) fun x hx => h x (List.mem_cons_of_mem _ hx)
    refine ⟨m1 ++ m2 ++ m3, x3', ?_⟩
    have tt : rightB ⟨[some (.dat (.int a)), some (.dat (.int k)), x2, some (.ex e), x4], c⟩ = .ok (.nx, ⟨[some (.dat (.int a)), some (.dat (.int k)), x2, some (.ex e), x4], c ++ m1 ++ m2⟩) := (seq_nx t1).trans t2
    unfold forX
    rw [bindE (show noX (setSl 3 (.ex e)) ⟨[some (.dat (.int a)), some (.dat (.int k)), x2, x3, x4], c⟩ = .ok (.nx, ⟨[some (.dat (.int a)), some (.dat (.int k)), x2, some (.ex e), x4], c⟩) from rfl), bindE tt]
    refine t3.trans ?_
    simp only [List.append_assoc]
theorem right_ok {a k : Int} {es : List Ex} (h : ∀ e ∈ es, Fits a k e) (c : Cells) : f_law_right [.dat (.int a), .dat (.int k), .exs es] ⟨[], c⟩ = .ok (.dat (.bool true), ⟨[], c⟩) := by
  obtain ⟨more, x3', e⟩ := rights_ok (a := a) (k := k) (x2 := some (.exs es)) (x4 := none) es none c h
  refine run_dat (more := more) (sl := [some (.dat (.int a)), some (.dat (.int k)), some (.exs es), x3', none]) ?_
  show b_law_right ⟨[some (.dat (.int a)), some (.dat (.int k)), some (.exs es), none, none], c⟩ = _
  unfold b_law_right
  have lp : sForX (srcX (eVar 2)) (setSl 3) rightB ⟨[some (.dat (.int a)), some (.dat (.int k)), some (.exs es), none, none], c⟩ = .ok (.nx, ⟨[some (.dat (.int a)), some (.dat (.int k)), some (.exs es), x3', none], c ++ more⟩) := by
    unfold sForX
    rw [bindE (show srcX (eVar 2) ⟨[some (.dat (.int a)), some (.dat (.int k)), some (.exs es), none, none], c⟩ = .ok (es, _) from rfl)]
    exact e
  exact (seq_nx lp).trans rfl
end K86
/-! MA6: k86: a line of the law. -/
namespace K86
open PySem DL L2 MA
abbrev SL (v0 v1 v2 v3 g xa xb : Option VD) : List (Option VD) := [v0, v1, v2, v3, g, xa, xb]
abbrev tru : Option VD := some (.dat (.bool true))
theorem mkE {S : DS} {cls : Str} {names : List Str} {t : M (List VD)} {ds : List PyData} (h : t S = .ok (ds.map .dat, S)) (hl : ds.length = names.length) : eMk cls names t S = .ok (.ex (exV cls names ds), S) := by
  unfold eMk
  rw [bindE h, bindE (toDs_dat ds S), bindE (show chk (decide (ds.length = names.length)) S = .ok ((), S) by unfold chk; rw [decide_eq_true hl]; rfl)]
  rfl
theorem mkRE {S : DS} {cls : Str} {names : List Str} {t : M (List VD)} {ds : List PyData} (h : t S = .ok (ds.map .dat, S)) (hl : ds.length = names.length) : eMkR cls names t S = .ok (.ex (exV cls names ds.reverse), S) := by
  unfold eMkR
  rw [bindE h, bindE (toDs_dat ds S), bindE (show chk (decide (ds.length = names.length)) S = .ok ((), S) by unfold chk; rw [decide_eq_true hl]; rfl)]
  rfl
theorem tupE {S : DS} {t : M (List VD)} {ds : List PyData} (h : t S = .ok (ds.map .dat, S)) (hl : ds.length ≤ 1000) : eTup t S = .ok (.dat (.tuple ds), S) := by
  unfold eTup
  rw [bindE h, bindE (toDs_dat ds S), bindE (show chk (decide (ds.length ≤ 1000)) S = .ok ((), S) by unfold chk; rw [decide_eq_true hl]; rfl)]
  rfl
theorem getE {S : DS} {i : Nat} {e : Ex} {n : Str} {ns : List Str} {d : PyData} (hs : S.sl[i]? = some (some (.ex e))) (h1 : tb.lookup e.1 = some ns) (h2 : n ∈ ns) (h3 : e.2.lookup n = some d) : eGet tb n (eVar i) S = .ok (.dat d, S) := by
  unfold eGet
  rw [bindE (varE hs)]
  dsimp only
  rw [bindE (show ofO (tb.lookup e.1) S = .ok (ns, S) by unfold ofO; rw [h1]), bindE (show chk (decide (n ∈ ns)) S = .ok ((), S) by unfold chk; rw [decide_eq_true h2]; rfl), bindE (show ofO (e.2.lookup n) S = .ok (d, S) by unfold ofO; rw [h3])]
  rfl
theorem negE {S : DS} : eNeg (eC (.int 1)) S = .ok (.dat (.int (-1)), S) := rfl
/-- _law_right(a, k, [a, b]) -/
theorem rightCall {v0 v1 v2 v3 g : Option VD} {c : Cells} {e1 e2 : Ex} {a k : Int} (f1 : Fits a k e1) (f2 : Fits a k e2) :
    eCall 3 f_law_right (aCons (eC (.int a)) (aCons (eC (.int k)) (aCons (eLstX (aCons (eVar 5) (aCons (eVar 6) (pure [])))) (pure [])))) ⟨SL v0 v1 v2 v3 g (some (.ex e1)) (some (.ex e2)), c⟩ = .ok (.dat (.bool true), ⟨SL v0 v1 v2 v3 g (some (.ex e1)) (some (.ex e2)), c⟩) :=
  callE (S1 := ⟨SL v0 v1 v2 v3 g (some (.ex e1)) (some (.ex e2)), c⟩) (xs := [.dat (.int a), .dat (.int k), .exs [e1, e2]]) rfl rfl (right_ok (fun e he => by
    rcases List.mem_cons.1 he with rfl | he
    · exact f1
    · cases List.mem_singleton.mp he; exact f2) c)
/-- repr([..]) == repr([..]) -/
theorem reprs {sl : List (Option VD)} {c : Cells} {ta tb' : M (List VD)} {ds : List PyData} {z : Str} (ha : ∀ c' : Cells, ta ⟨sl, c'⟩ = .ok (ds.map .dat, ⟨sl, c'⟩)) (hb : ∀ c' : Cells, tb' ⟨sl, c'⟩ = .ok (ds.map .dat, ⟨sl, c'⟩)) (hz : reprD (.list ds) = some z) (hl : ds.length ≤ 1000) :
    ∃ more, eOp fEq (eRepr (eLst ta)) (eRepr (eLst tb')) ⟨sl, c⟩ = .ok (.dat (.bool true), ⟨sl, c ++ more⟩) := by
  refine ⟨[(true, ds)] ++ [(true, ds)], ?_⟩
  rw [← List.append_assoc]
  exact repr_eq (lstE (ha c) hl) (peekRf (c := (true, ds)) (by show (c ++ [(true, ds)])[c.length]? = _; simp)) (lstE (S := ⟨sl, c ++ [(true, ds)]⟩) (hb (c ++ [(true, ds)])) hl) (peekRf (c := (true, ds)) (by show (c ++ [(true, ds)] ++ [(true, ds)])[(c ++ [(true, ds)]).length]? = _; simp)) hz
abbrev rightT (a k : Int) : M VD := eCall 3 f_law_right (aCons (eC (.int a)) (aCons (eC (.int k)) (aCons (eLstX (aCons (eVar 5) (aCons (eVar 6) (pure [])))) (pure []))))
section
variable {v0 v1 v2 v3 g xa xb : Option VD} {c : Cells} {e1 e2 : Ex} {a k : Int} {tm ta tb' : M (List VD)} {ds : List PyData} {z : Str} {rest : MS}
theorem parE (hm : tm ⟨SL v0 v1 v2 v3 g xa xb, c⟩ = .ok ([.ex e1, .ex e2], ⟨SL v0 v1 v2 v3 g xa xb, c⟩)) : sPar 5 6 tm ⟨SL v0 v1 v2 v3 g xa xb, c⟩ = .ok (.nx, ⟨SL v0 v1 v2 v3 g (some (.ex e1)) (some (.ex e2)), c⟩) := by
  unfold sPar
  rw [bindE hm]
  rfl
theorem line_ok (hm : tm ⟨SL v0 v1 v2 v3 tru xa xb, c⟩ = .ok ([.ex e1, .ex e2], ⟨SL v0 v1 v2 v3 tru xa xb, c⟩)) (f1 : Fits a k e1) (f2 : Fits a k e2)
    (ha : ∀ c' : Cells, ta ⟨SL v0 v1 v2 v3 tru (some (.ex e1)) (some (.ex e2)), c'⟩ = .ok (ds.map .dat, ⟨SL v0 v1 v2 v3 tru (some (.ex e1)) (some (.ex e2)), c'⟩)) (hb : ∀ c' : Cells, tb' ⟨SL v0 v1 v2 v3 tru (some (.ex e1)) (some (.ex e2)), c'⟩ = .ok (ds.map .dat, ⟨SL v0 v1 v2 v3 tru (some (.ex e1)) (some (.ex e2)), c'⟩))
    (hz : reprD (.list ds) = some z) (hl : ds.length ≤ 1000) :
    ∃ more, sSeq (sPar 5 6 tm) (sSeq (sSet 4 (eAndD (eVar 4) (eAndD (rightT a k) (eOp fEq (eRepr (eLst ta)) (eRepr (eLst tb')))))) rest) ⟨SL v0 v1 v2 v3 tru xa xb, c⟩ = rest ⟨SL v0 v1 v2 v3 tru (some (.ex e1)) (some (.ex e2)), c ++ more⟩ := by
  obtain ⟨more, hr⟩ := reprs (c := c) ha hb hz hl
  refine ⟨more, ?_⟩
  rw [seq_nx (parE hm)]
  have st : sSet 4 (eAndD (eVar 4) (eAndD (rightT a k) (eOp fEq (eRepr (eLst ta)) (eRepr (eLst tb'))))) ⟨SL v0 v1 v2 v3 tru (some (.ex e1)) (some (.ex e2)), c⟩ = .ok (.nx, ⟨SL v0 v1 v2 v3 tru (some (.ex e1)) (some (.ex e2)), c ++ more⟩) :=
    setE (S' := ⟨SL v0 v1 v2 v3 tru (some (.ex e1)) (some (.ex e2)), c ++ more⟩) (andV (varE rfl) (andV (rightCall f1 f2) hr))
  exact seq_nx st
theorem line_first (hm : tm ⟨SL v0 v1 v2 v3 g xa xb, c⟩ = .ok ([.ex e1, .ex e2], ⟨SL v0 v1 v2 v3 g xa xb, c⟩)) (f1 : Fits a k e1) (f2 : Fits a k e2)
    (ha : ∀ c' : Cells, ta ⟨SL v0 v1 v2 v3 g (some (.ex e1)) (some (.ex e2)), c'⟩ = .ok (ds.map .dat, ⟨SL v0 v1 v2 v3 g (some (.ex e1)) (some (.ex e2)), c'⟩)) (hb : ∀ c' : Cells, tb' ⟨SL v0 v1 v2 v3 g (some (.ex e1)) (some (.ex e2)), c'⟩ = .ok (ds.map .dat, ⟨SL v0 v1 v2 v3 g (some (.ex e1)) (some (.ex e2)), c'⟩))
    (hz : reprD (.list ds) = some z) (hl : ds.length ≤ 1000) :
    ∃ more, sSeq (sPar 5 6 tm) (sSeq (sSet 4 (eAndD (rightT a k) (eOp fEq (eRepr (eLst ta)) (eRepr (eLst tb'))))) rest) ⟨SL v0 v1 v2 v3 g xa xb, c⟩ = rest ⟨SL v0 v1 v2 v3 tru (some (.ex e1)) (some (.ex e2)), c ++ more⟩ := by
  obtain ⟨more, hr⟩ := reprs (c := c) ha hb hz hl
  refine ⟨more, ?_⟩
  rw [seq_nx (parE hm)]
  have st : sSet 4 (eAndD (rightT a k) (eOp fEq (eRepr (eLst ta)) (eRepr (eLst tb')))) ⟨SL v0 v1 v2 v3 g (some (.ex e1)) (some (.ex e2)), c⟩ = .ok (.nx, ⟨SL v0 v1 v2 v3 tru (some (.ex e1)) (some (.ex e2)), c ++ more⟩) :=
    setE (S' := ⟨SL v0 v1 v2 v3 g (some (.ex e1)) (some (.ex e2)), c ++ more⟩) (andV (rightCall f1 f2) hr)
  exact seq_nx st
theorem line_more (ha : ∀ c' : Cells, ta ⟨SL v0 v1 v2 v3 tru xa xb, c'⟩ = .ok (ds.map .dat, ⟨SL v0 v1 v2 v3 tru xa xb, c'⟩)) (hb : ∀ c' : Cells, tb' ⟨SL v0 v1 v2 v3 tru xa xb, c'⟩ = .ok (ds.map .dat, ⟨SL v0 v1 v2 v3 tru xa xb, c'⟩))
    (hz : reprD (.list ds) = some z) (hl : ds.length ≤ 1000) :
    ∃ more, sSeq (sSet 4 (eAndD (eVar 4) (eOp fEq (eRepr (eLst ta)) (eRepr (eLst tb'))))) rest ⟨SL v0 v1 v2 v3 tru xa xb, c⟩ = rest ⟨SL v0 v1 v2 v3 tru xa xb, c ++ more⟩ := by
  obtain ⟨more, hr⟩ := reprs (c := c) ha hb hz hl
  refine ⟨more, ?_⟩
  exact seq_nx (setE (S' := ⟨SL v0 v1 v2 v3 tru xa xb, c ++ more⟩) (andV (varE rfl) hr))
end
end K86
/-! MA7: k86: the law. -/
namespace K86
open PySem DL L2 MA
theorem reprD_int {c : Int} {X : PyData} (h0 : 0 ≤ c) (h1 : c < 3600) (s : X.showable = true) (d : X.hasDict = false) (p : X.depth ≤ 5) (l : X.shown.length ≤ 100) : ∃ z, reprD (.list [.int c, X]) = some z := by
  have hlog : c.natAbs.log2 < 1920 := by
    by_cases e : c.natAbs = 0
    · rw [e]; decide
    · exact (Nat.log2_lt e).mpr (Nat.lt_of_lt_of_le (show c.natAbs < 2 ^ 12 by omega) (Nat.pow_le_pow_right (by decide) (by decide)))
  have hlen : (PyData.shown (.int c)).length ≤ 4 := PyProof.Rows.toString_length_le h0 (by decide) (Int.lt_trans h1 (by decide))
  have e1 : (PyData.list [.int c, X]).showable = true := by simp [PyData.showable, PyData.showableAll, s, hlog]
  have e2 : (PyData.list [.int c, X]).hasDict = false := by simp [PyData.hasDict, PyData.hasDictAll, d]
  have e3 : (PyData.list [.int c, X]).depth ≤ 100 := by simp only [PyData.depth, PyData.depthAll]; omega
  have e4 : (PyData.list [.int c, X]).shown.length ≤ 16777216 := by
    show (listText [PyData.shown (.int c), X.shown]).length ≤ _
    unfold listText textFrom textFrom textFrom
    simp only [Str.length_append]
    have q1 : (Str.ofString "[").length = 1 := by decide
    have q2 : (Str.ofString "]").length = 1 := by decide
    have q3 : ∀ k : Nat, (Str.ofString (if k > 0 then ", " else "")).length ≤ 2 := fun k => by split <;> decide
    have := q3 0
    have := q3 (0 + 1)
    omega
  refine ⟨(PyData.list [.int c, X]).shown, ?_⟩
  unfold reprD
  rw [e1, e2, decide_eq_true e3, decide_eq_true e4]
  rfl
theorem fits {cls : Str} {names : List Str} {ds : List PyData} {a k : Int} (h1 : (tb.lookup cls).isSome = true) (h2 : sortL cls = placeL 12 a) (h3 : builtL cls = placeL 8 k) : Fits a k (exV cls names ds) := ⟨Option.isSome_iff_exists.mp h1, h2, h3⟩
theorem lstR {S S1 S2 : DS} {t : M (List VD)} {xs : List VD} {ds : List PyData} (h : t S = .ok (xs, S1)) (hd : toDs xs S1 = .ok (ds, S2)) (hl : ds.length ≤ 1000) : eLst t S = .ok (.rf S2.ce.length, ⟨S2.sl, S2.ce ++ [(true, ds)]⟩) := by
  unfold eLst
  rw [bindE h, bindE hd, bindE (show chk (decide (ds.length ≤ 1000)) S2 = .ok ((), S2) by unfold chk; rw [decide_eq_true hl]; rfl)]
  rfl
theorem pen_raw (ds : List PyData) : f_law_pen [.bag ds] ⟨[], []⟩ = .ok (.rf 0, ⟨[], [(true, [.list (cutD ds none (some 63)), .int 0, .int 0, .list [.int 1, .int 5]])]⟩) := by
  generalize hX : cutD ds none (some 63) = Y
  have e1 : eSl (eVar 0) oNone (oSome (eC (.int 63))) ⟨[some (.bag ds)], []⟩ = .ok (.rf 0, ⟨[some (.bag ds)], [(true, Y)]⟩) := by
    unfold eSl
    rw [bindE (varE (x := .bag ds) rfl), bindE (show oNone _ = .ok (none, _) from rfl), bindE (show oSome (eC (.int 63)) ⟨[some (.bag ds)], []⟩ = .ok (some 63, ⟨[some (.bag ds)], []⟩) from rfl)]
    unfold slV
    dsimp only
    rw [hX]
    rfl
  have e2 : eLstOf (eSl (eVar 0) oNone (oSome (eC (.int 63)))) ⟨[some (.bag ds)], []⟩ = .ok (.rf 1, ⟨[some (.bag ds)], [(true, Y), (true, Y)]⟩) := by
    unfold eLstOf
    rw [bindE e1, bindE (show peek (.rf 0) ⟨[some (.bag ds)], [(true, Y)]⟩ = .ok (.list Y, ⟨[some (.bag ds)], [(true, Y)]⟩) from rfl), bindE (show ofO (asSeq (.list Y)) ⟨[some (.bag ds)], [(true, Y)]⟩ = .ok (Y, ⟨[some (.bag ds)], [(true, Y)]⟩) from rfl)]
    rfl
  have e3 : eLst (aCons (eC (.int 1)) (aCons (eC (.int 5)) (pure []))) ⟨[some (.bag ds)], [(true, Y), (true, Y)]⟩ = .ok (.rf 2, ⟨[some (.bag ds)], [(true, Y), (true, Y), (true, [.int 1, .int 5])]⟩) := lstE (ds := [.int 1, .int 5]) (S1 := ⟨[some (.bag ds)], [(true, Y), (true, Y)]⟩) rfl (by decide)
  have e4 : toDs [.rf 1, .dat (.int 0), .dat (.int 0), .rf 2] ⟨[some (.bag ds)], [(true, Y), (true, Y), (true, [.int 1, .int 5])]⟩ = .ok ([.list Y, .int 0, .int 0, .list [.int 1, .int 5]], ⟨[some (.bag ds)], [(true, Y), (false, Y), (false, [.int 1, .int 5])]⟩) := rfl
  refine run_rf (ce := []) (xs := [.bag ds]) (more := [(true, Y), (false, Y), (false, [.int 1, .int 5]), (true, [.list Y, .int 0, .int 0, .list [.int 1, .int 5]])]) (i := 3) (sl := [some (.bag ds)]) ?_ (Nat.zero_le _) rfl
  show b_law_pen ⟨[some (.bag ds)], []⟩ = _
  unfold b_law_pen
  exact retE (lstR (consE e2 (consE cE (consE cE (consE e3 rfl)))) e4 (by show 4 ≤ 1000; decide))
theorem cut_ints (ns : List Int) : cutD (ns.map .int) none (some 63) = (ns.take (min 63 ns.length)).map .int := by
  unfold cutD
  rw [HT.sIx_none, show HT.sIx (ns.map PyData.int).length (ns.map PyData.int).length (some 63) = min 63 (ns.map PyData.int).length from rfl]
  simp [List.map_take]
theorem same_draw : f_law_draw = MA.f_law_draw := rfl
theorem same_one : f_law_one_of = MA.f_law_one_of := rfl
/-- the two draws of the law -/
theorem start_ok (ns : List Int) (rest : MS) : ∃ (c : Int) (pc : PyData) (ce : Cells), 0 ≤ c ∧ c < 3600 ∧ pc ∈ [PyData.none, .str "arity", .str "parts", .int 0, .int 5] ∧
    (sSeq (sSet 1 (eCall 1 f_law_pen (aCons (eVar 0) (pure []))))
    (sSeq (sSet 2 (eCall 2 f_law_one_of (aCons (eVar 1) (aCons (eLst (aCons (eC (.int 0)) (aCons (eC (.int 1)) (aCons (eC (.int 17)) (aCons (eCall 2 f_law_draw (aCons (eVar 1) (aCons (eC (.int 3600)) (pure [])))) (pure [])))))) (pure [])))))
    (sSeq (sSet 3 (eCall 2 f_law_one_of (aCons (eVar 1) (aCons (eLst (aCons (eC .none) (aCons (eC (.str "arity")) (aCons (eC (.str "parts")) (aCons (eC (.int 0)) (aCons (eC (.int 5)) (pure []))))))) (pure []))))) rest))) ⟨SL (some (.bag (ns.map .int))) none none none none none none, []⟩ =
      rest ⟨SL (some (.bag (ns.map .int))) (some (.rf 0)) (some (.dat (.int c))) (some (.dat pc)) none none none, ce⟩ := by
  generalize hg : ns.take (min 63 ns.length) = gs
  have s1 : sSet 1 (eCall 1 f_law_pen (aCons (eVar 0) (pure []))) ⟨SL (some (.bag (ns.map .int))) none none none none none none, []⟩ = .ok (.nx, ⟨SL (some (.bag (ns.map .int))) (some (.rf 0)) none none none none none, [(true, Pen gs 0 0 (.list [.int 1, .int 5]))]⟩) := by
    have z := pen_raw (ns.map .int)
    rw [cut_ints, hg] at z
    exact setE (S' := ⟨SL (some (.bag (ns.map .int))) none none none none none none, [(true, Pen gs 0 0 (.list [.int 1, .int 5]))]⟩) (callE (n := 1) (S1 := ⟨SL (some (.bag (ns.map .int))) none none none none none none, []⟩) (xs := [.bag (ns.map .int)]) rfl rfl z)
  generalize hk : PyData.list [.int 1, .int 5] = k at s1
  obtain ⟨d0, s2, p2, d1, d2, dr⟩ := draw_ok (gs := gs) (k := k) (ce := [(true, Pen gs 0 0 k)]) (j := 0) (b := 3600) rfl (by decide)
  have l1 : aCons (eC (.int 0)) (aCons (eC (.int 1)) (aCons (eC (.int 17)) (aCons (eCall 2 f_law_draw (aCons (eVar 1) (aCons (eC (.int 3600)) (pure [])))) (pure [])))) ⟨SL (some (.bag (ns.map .int))) (some (.rf 0)) none none none none none, [(true, Pen gs 0 0 k)]⟩ =
      .ok ([PyData.int 0, .int 1, .int 17, .int d0].map .dat, ⟨SL (some (.bag (ns.map .int))) (some (.rf 0)) none none none none none, [(true, Pen gs s2 p2 k)]⟩) :=
    consE cE (consE cE (consE cE (consE (callE (n := 2) (xs := [.rf 0, .dat (.int 3600)]) (S1 := ⟨SL (some (.bag (ns.map .int))) (some (.rf 0)) none none none none none, [(true, Pen gs 0 0 k)]⟩) rfl rfl dr) rfl)))
  obtain ⟨dc, s3, p3, hc, o1⟩ := one_of_ok (gs := gs) (k := k) (ce := [(true, Pen gs s2 p2 k), (true, [PyData.int 0, .int 1, .int 17, .int d0])]) (j := 0) (i := 1) (fl := true) rfl rfl (by decide) (by simp) (by simp)
  have hcc : ∃ c : Int, dc = .int c ∧ 0 ≤ c ∧ c < 3600 := by
    simp only [List.mem_cons, List.not_mem_nil, or_false] at hc
    rcases hc with rfl | rfl | rfl | rfl
    · exact ⟨0, rfl, by decide, by decide⟩
    · exact ⟨1, rfl, by decide, by decide⟩
    · exact ⟨17, rfl, by decide, by decide⟩
    · exact ⟨d0, rfl, d1, d2⟩
  obtain ⟨c, rfl, c0, c1⟩ := hcc
  have q1 : sSet 2 (eCall 2 f_law_one_of (aCons (eVar 1) (aCons (eLst (aCons (eC (.int 0)) (aCons (eC (.int 1)) (aCons (eC (.int 17)) (aCons (eCall 2 f_law_draw (aCons (eVar 1) (aCons (eC (.int 3600)) (pure [])))) (pure [])))))) (pure [])))) ⟨SL (some (.bag (ns.map .int))) (some (.rf 0)) none none none none none, [(true, Pen gs 0 0 k)]⟩ =
      .ok (.nx, ⟨SL (some (.bag (ns.map .int))) (some (.rf 0)) (some (.dat (.int c))) none none none none, [(true, Pen gs s3 p3 k), (true, [PyData.int 0, .int 1, .int 17, .int d0])]⟩) :=
    setE (S' := ⟨SL (some (.bag (ns.map .int))) (some (.rf 0)) none none none none none, [(true, Pen gs s3 p3 k), (true, [PyData.int 0, .int 1, .int 17, .int d0])]⟩) (callE (n := 2) (xs := [.rf 0, .rf 1]) (S1 := ⟨SL (some (.bag (ns.map .int))) (some (.rf 0)) none none none none none, [(true, Pen gs s2 p2 k), (true, [PyData.int 0, .int 1, .int 17, .int d0])]⟩) (consE (varE rfl) (consE (lstE l1 (by show 4 ≤ 1000; decide)) rfl)) rfl o1)
  obtain ⟨pc, s4, p4, hp, o2⟩ := one_of_ok (gs := gs) (k := k) (ce := [(true, Pen gs s3 p3 k), (true, [PyData.int 0, .int 1, .int 17, .int d0]), (true, [PyData.none, .str "arity", .str "parts", .int 0, .int 5])]) (j := 0) (i := 2) (fl := true) rfl rfl (by decide) (by simp) (by simp)
  have q2 : sSet 3 (eCall 2 f_law_one_of (aCons (eVar 1) (aCons (eLst (aCons (eC .none) (aCons (eC (.str "arity")) (aCons (eC (.str "parts")) (aCons (eC (.int 0)) (aCons (eC (.int 5)) (pure []))))))) (pure [])))) ⟨SL (some (.bag (ns.map .int))) (some (.rf 0)) (some (.dat (.int c))) none none none none, [(true, Pen gs s3 p3 k), (true, [PyData.int 0, .int 1, .int 17, .int d0])]⟩ =
      .ok (.nx, ⟨SL (some (.bag (ns.map .int))) (some (.rf 0)) (some (.dat (.int c))) (some (.dat pc)) none none none, [(true, Pen gs s4 p4 k), (true, [PyData.int 0, .int 1, .int 17, .int d0]), (true, [PyData.none, .str "arity", .str "parts", .int 0, .int 5])]⟩) :=
    setE (S' := ⟨SL (some (.bag (ns.map .int))) (some (.rf 0)) (some (.dat (.int c))) none none none none, [(true, Pen gs s4 p4 k), (true, [PyData.int 0, .int 1, .int 17, .int d0]), (true, [PyData.none, .str "arity", .str "parts", .int 0, .int 5])]⟩) (callE (n := 2) (xs := [.rf 0, .rf 2]) (S1 := ⟨SL (some (.bag (ns.map .int))) (some (.rf 0)) (some (.dat (.int c))) none none none none, [(true, Pen gs s3 p3 k), (true, [PyData.int 0, .int 1, .int 17, .int d0]), (true, [PyData.none, .str "arity", .str "parts", .int 0, .int 5])]⟩) rfl rfl o2)
  exact ⟨c, pc, _, c0, c1, hp, (seq_nx s1).trans ((seq_nx q1).trans (seq_nx q2))⟩
end K86
/-! MA8: k86: the law is true. -/
namespace K86
open PySem DL L2 MA
abbrev r26 : MS := (sRet (eAndD (eVar 4) (eCall 3 f_law_right (aCons (eC (.int 7)) (aCons (eC (.int 1)) (aCons (eLstX (aCons (eMk "NothingDone" [] (pure [])) (pure []))) (pure [])))))))
abbrev r25 : MS := sSeq (sSet 4 (eAndD (eVar 4) (eAndD (eCall 3 f_law_right (aCons (eC (.int 11)) (aCons (eC (.int 1)) (aCons (eLstX (aCons (eVar 5) (aCons (eVar 6) (pure [])))) (pure []))))) (eOp fEq (eRepr (eLst (aCons (eGet tb "fault" (eVar 5)) (aCons (eGet tb "fault" (eVar 6)) (pure []))))) (eRepr (eLst (aCons (eTup (aCons (eC (.str "paper")) (pure []))) (aCons (eTup (aCons (eC (.str "hit")) (aCons (eC (.int 0)) (aCons (eC (.int 1)) (pure []))))) (pure []))))))))) r26
abbrev r24 : MS := sSeq (sPar 5 6 (aCons (eMk "Unfounded" ["fault"] (aCons (eTup (aCons (eC (.str "paper")) (pure []))) (pure []))) (aCons (eMk "Unfounded" ["fault"] (aCons (eTup (aCons (eC (.str "hit")) (aCons (eC (.int 0)) (aCons (eC (.int 1)) (pure []))))) (pure []))) (pure [])))) r25
abbrev r23 : MS := sSeq (sSet 4 (eAndD (eVar 4) (eOp fEq (eRepr (eLst (aCons (eGet tb "index" (eVar 6)) (aCons (eGet tb "things" (eVar 6)) (pure []))))) (eRepr (eLst (aCons (eC (.int 0)) (aCons (eTup (pure [])) (pure [])))))))) r24
abbrev r22 : MS := sSeq (sSet 4 (eAndD (eVar 4) (eAndD (eCall 3 f_law_right (aCons (eC (.int 9)) (aCons (eC (.int 1)) (aCons (eLstX (aCons (eVar 5) (aCons (eVar 6) (pure [])))) (pure []))))) (eOp fEq (eRepr (eLst (aCons (eGet tb "index" (eVar 5)) (aCons (eGet tb "things" (eVar 5)) (pure []))))) (eRepr (eLst (aCons (eVar 2) (aCons (eTup (aCons (eC (.int 3)) (aCons (eC (.int 4)) (pure [])))) (pure []))))))))) r23
abbrev r21 : MS := sSeq (sPar 5 6 (aCons (eMk "Banned" ["index", "things"] (aCons (eVar 2) (aCons (eTup (aCons (eC (.int 3)) (aCons (eC (.int 4)) (pure [])))) (pure [])))) (aCons (eMkR "Banned" ["index", "things"] (aCons (eTup (pure [])) (aCons (eC (.int 0)) (pure [])))) (pure [])))) r22
abbrev r20 : MS := sSeq (sSet 4 (eAndD (eVar 4) (eAndD (eCall 3 f_law_right (aCons (eC (.int 10)) (aCons (eC (.int 2)) (aCons (eLstX (aCons (eVar 5) (aCons (eVar 6) (pure [])))) (pure []))))) (eOp fEq (eRepr (eLst (aCons (eGet tb "limit" (eVar 5)) (aCons (eGet tb "limit" (eVar 6)) (pure []))))) (eRepr (eLst (aCons (eVar 2) (aCons (eC (.int 300)) (pure []))))))))) r21
abbrev r19 : MS := sSeq (sPar 5 6 (aCons (eMk "LimitExceeded" ["limit"] (aCons (eVar 2) (pure []))) (aCons (eMk "LimitExceeded" ["limit"] (aCons (eC (.int 300)) (pure []))) (pure [])))) r20
abbrev r18 : MS := sSeq (sSet 4 (eAndD (eVar 4) (eAndD (eCall 3 f_law_right (aCons (eC (.int 8)) (aCons (eC (.int 1)) (aCons (eLstX (aCons (eVar 5) (aCons (eVar 6) (pure [])))) (pure []))))) (eOp fEq (eRepr (eLst (aCons (eGet tb "index" (eVar 5)) (aCons (eGet tb "index" (eVar 6)) (pure []))))) (eRepr (eLst (aCons (eVar 2) (aCons (eNeg (eC (.int 1))) (pure []))))))))) r19
abbrev r17 : MS := sSeq (sPar 5 6 (aCons (eMk "Refused" ["index"] (aCons (eVar 2) (pure []))) (aCons (eMk "Refused" ["index"] (aCons (eNeg (eC (.int 1))) (pure []))) (pure [])))) r18
abbrev r16 : MS := sSeq (sSet 4 (eAndD (eVar 4) (eAndD (eCall 3 f_law_right (aCons (eC (.int 6)) (aCons (eC (.int 0)) (aCons (eLstX (aCons (eVar 5) (aCons (eVar 6) (pure [])))) (pure []))))) (eOp fEq (eRepr (eLst (aCons (eGet tb "line" (eVar 5)) (aCons (eGet tb "line" (eVar 6)) (pure []))))) (eRepr (eLst (aCons (eVar 2) (aCons (eC (.int 8)) (pure []))))))))) r17
abbrev r15 : MS := sSeq (sPar 5 6 (aCons (eMk "ParseError" ["line"] (aCons (eVar 2) (pure []))) (aCons (eMk "ParseError" ["line"] (aCons (eC (.int 8)) (pure []))) (pure [])))) r16
abbrev r14 : MS := sSeq (sSet 4 (eAndD (eVar 4) (eAndD (eCall 3 f_law_right (aCons (eC (.int 5)) (aCons (eC (.int 0)) (aCons (eLstX (aCons (eVar 5) (aCons (eVar 6) (pure [])))) (pure []))))) (eOp fEq (eRepr (eLst (aCons (eGet tb "part" (eVar 5)) (aCons (eGet tb "part" (eVar 6)) (pure []))))) (eRepr (eLst (aCons (eC (.str "n")) (aCons (eC (.str "kinds")) (pure []))))))))) r15
abbrev r13 : MS := sSeq (sPar 5 6 (aCons (eMk "InvalidClaim" ["part"] (aCons (eC (.str "n")) (pure []))) (aCons (eMk "InvalidClaim" ["part"] (aCons (eC (.str "kinds")) (pure []))) (pure [])))) r14
abbrev r12 : MS := sSeq (sSet 4 (eAndD (eVar 4) (eAndD (eCall 3 f_law_right (aCons (eC (.int 4)) (aCons (eC (.int 0)) (aCons (eLstX (aCons (eVar 5) (aCons (eVar 6) (pure [])))) (pure []))))) (eOp fEq (eRepr (eLst (aCons (eGet tb "index" (eVar 5)) (aCons (eGet tb "index" (eVar 6)) (pure []))))) (eRepr (eLst (aCons (eC (.int 0)) (aCons (eC (.int 1)) (pure []))))))))) r13
abbrev r11 : MS := sSeq (sPar 5 6 (aCons (eMk "InvalidOptions" ["index"] (aCons (eC (.int 0)) (pure []))) (aCons (eMk "InvalidOptions" ["index"] (aCons (eC (.int 1)) (pure []))) (pure [])))) r12
abbrev r10 : MS := sSeq (sSet 4 (eAndD (eVar 4) (eAndD (eCall 3 f_law_right (aCons (eC (.int 3)) (aCons (eC (.int 0)) (aCons (eLstX (aCons (eVar 5) (aCons (eVar 6) (pure [])))) (pure []))))) (eOp fEq (eRepr (eLst (aCons (eGet tb "index" (eVar 5)) (aCons (eGet tb "index" (eVar 6)) (pure []))))) (eRepr (eLst (aCons (eC (.int 2)) (aCons (eC .none) (pure []))))))))) r11
abbrev r9 : MS := sSeq (sPar 5 6 (aCons (eMk "InvalidWishes" ["index"] (aCons (eC (.int 2)) (pure []))) (aCons (eMk "InvalidWishes" ["index"] (aCons (eC .none) (pure []))) (pure [])))) r10
abbrev r8 : MS := sSeq (sSet 4 (eAndD (eVar 4) (eAndD (eCall 3 f_law_right (aCons (eC (.int 2)) (aCons (eC (.int 0)) (aCons (eLstX (aCons (eVar 5) (aCons (eVar 6) (pure [])))) (pure []))))) (eOp fEq (eRepr (eLst (aCons (eGet tb "index" (eVar 5)) (aCons (eGet tb "index" (eVar 6)) (pure []))))) (eRepr (eLst (aCons (eC (.int 3)) (aCons (eC .none) (pure []))))))))) r9
abbrev r7 : MS := sSeq (sPar 5 6 (aCons (eMk "InvalidProgram" ["index"] (aCons (eC (.int 3)) (pure []))) (aCons (eMk "InvalidProgram" ["index"] (aCons (eC .none) (pure []))) (pure [])))) r8
abbrev r6 : MS := sSeq (sSet 4 (eAndD (eVar 4) (eAndD (eCall 3 f_law_right (aCons (eC (.int 1)) (aCons (eC (.int 0)) (aCons (eLstX (aCons (eVar 5) (aCons (eVar 6) (pure [])))) (pure []))))) (eOp fEq (eRepr (eLst (aCons (eGet tb "part" (eVar 5)) (aCons (eGet tb "part" (eVar 6)) (pure []))))) (eRepr (eLst (aCons (eVar 3) (aCons (eC (.str "parts")) (pure []))))))))) r7
abbrev r5 : MS := sSeq (sPar 5 6 (aCons (eMk "InvalidQuestion" ["part"] (aCons (eVar 3) (pure []))) (aCons (eMk "InvalidQuestion" ["part"] (aCons (eC (.str "parts")) (pure []))) (pure [])))) r6
abbrev r4 : MS := sSeq (sSet 4 (eAndD (eCall 3 f_law_right (aCons (eC (.int 0)) (aCons (eC (.int 0)) (aCons (eLstX (aCons (eVar 5) (aCons (eVar 6) (pure [])))) (pure []))))) (eOp fEq (eRepr (eLst (aCons (eGet tb "index" (eVar 5)) (aCons (eGet tb "index" (eVar 6)) (pure []))))) (eRepr (eLst (aCons (eVar 2) (aCons (eC .none) (pure [])))))))) r5
abbrev r3 : MS := sSeq (sPar 5 6 (aCons (eMk "InvalidStore" ["index"] (aCons (eVar 2) (pure []))) (aCons (eMk "InvalidStore" ["index"] (aCons (eC .none) (pure []))) (pure [])))) r4
abbrev r2 : MS := sSeq (sSet 3 (eCall 2 f_law_one_of (aCons (eVar 1) (aCons (eLst (aCons (eC .none) (aCons (eC (.str "arity")) (aCons (eC (.str "parts")) (aCons (eC (.int 0)) (aCons (eC (.int 5)) (pure []))))))) (pure []))))) r3
abbrev r1 : MS := sSeq (sSet 2 (eCall 2 f_law_one_of (aCons (eVar 1) (aCons (eLst (aCons (eC (.int 0)) (aCons (eC (.int 1)) (aCons (eC (.int 17)) (aCons (eCall 2 f_law_draw (aCons (eVar 1) (aCons (eC (.int 3600)) (pure [])))) (pure [])))))) (pure []))))) r2
abbrev r0 : MS := sSeq (sSet 1 (eCall 1 f_law_pen (aCons (eVar 0) (pure [])))) r1
theorem blaw_r : blaw = r0 := rfl
set_option maxHeartbeats 4300000 in
theorem body_true (ns : List Int) : ∃ (sl : List (Option VD)) (more : Cells), blaw ⟨SL (some (.bag (ns.map .int))) none none none none none none, []⟩ = .ok (.rt (.dat (.bool true)), ⟨sl, more⟩) := by
  rw [blaw_r]
  obtain ⟨c, pc, ce, c0, c1, hp, s0⟩ := start_ok ns r3
  have zp : ∃ z, reprD (.list [pc, .str "parts"]) = some z := by
    simp only [List.mem_cons, List.not_mem_nil, or_false] at hp
    rcases hp with rfl | rfl | rfl | rfl | rfl <;> exact Option.isSome_iff_exists.mp (by decide +kernel)
  obtain ⟨z0, hz0⟩ := reprD_int (X := .none) c0 c1 (by decide +kernel) (by decide +kernel) (by decide +kernel) (by decide +kernel)
  obtain ⟨m0, t0⟩ := line_first (v0 := some (.bag (ns.map .int))) (v1 := some (.rf 0)) (v2 := some (.dat (.int c))) (v3 := some (.dat pc)) (g := none) (xa := none) (xb := none) (tm := (aCons (eMk "InvalidStore" ["index"] (aCons (eVar 2) (pure []))) (aCons (eMk "InvalidStore" ["index"] (aCons (eC .none) (pure []))) (pure [])))) (ta := (aCons (eGet tb "index" (eVar 5)) (aCons (eGet tb "index" (eVar 6)) (pure [])))) (tb' := (aCons (eVar 2) (aCons (eC .none) (pure [])))) (c := ce) (rest := r5) (e1 := (exV "InvalidStore" ["index"] [.int c])) (e2 := (exV "InvalidStore" ["index"] [.none])) (a := 0) (k := 0) (ds := [.int c, .none]) (consE (mkE (ds := [.int c]) (consE (varE rfl) rfl) rfl) (consE (mkE (ds := [.none]) (consE cE rfl) rfl) rfl)) (fits (by decide +kernel) (by decide +kernel) (by decide +kernel)) (fits (by decide +kernel) (by decide +kernel) (by decide +kernel)) (fun c' => (consE (getE (i := 5) (n := "index") rfl rfl (by decide) rfl) (consE (getE (i := 6) (n := "index") rfl rfl (by decide) rfl) rfl))) (fun c' => (consE (varE rfl) (consE cE rfl))) hz0 (by show 2 ≤ 1000; decide)
  obtain ⟨z1, hz1⟩ := zp
  obtain ⟨m1, t1⟩ := line_ok (v0 := some (.bag (ns.map .int))) (v1 := some (.rf 0)) (v2 := some (.dat (.int c))) (v3 := some (.dat pc)) (xa := some (.ex (exV "InvalidStore" ["index"] [.int c]))) (xb := some (.ex (exV "InvalidStore" ["index"] [.none]))) (tm := (aCons (eMk "InvalidQuestion" ["part"] (aCons (eVar 3) (pure []))) (aCons (eMk "InvalidQuestion" ["part"] (aCons (eC (.str "parts")) (pure []))) (pure [])))) (ta := (aCons (eGet tb "part" (eVar 5)) (aCons (eGet tb "part" (eVar 6)) (pure [])))) (tb' := (aCons (eVar 3) (aCons (eC (.str "parts")) (pure [])))) (c := (ce ++ m0)) (rest := r7) (e1 := (exV "InvalidQuestion" ["part"] [pc])) (e2 := (exV "InvalidQuestion" ["part"] [.str "parts"])) (a := 1) (k := 0) (ds := [pc, .str "parts"]) (consE (mkE (ds := [pc]) (consE (varE rfl) rfl) rfl) (consE (mkE (ds := [.str "parts"]) (consE cE rfl) rfl) rfl)) (fits (by decide +kernel) (by decide +kernel) (by decide +kernel)) (fits (by decide +kernel) (by decide +kernel) (by decide +kernel)) (fun c' => (consE (getE (i := 5) (n := "part") rfl rfl (by decide) rfl) (consE (getE (i := 6) (n := "part") rfl rfl (by decide) rfl) rfl))) (fun c' => (consE (varE rfl) (consE cE rfl))) hz1 (by show 2 ≤ 1000; decide)
  obtain ⟨z2, hz2⟩ := (Option.isSome_iff_exists.mp (show (reprD (.list [.int 3, .none])).isSome = true by decide +kernel))
  obtain ⟨m2, t2⟩ := line_ok (v0 := some (.bag (ns.map .int))) (v1 := some (.rf 0)) (v2 := some (.dat (.int c))) (v3 := some (.dat pc)) (xa := some (.ex (exV "InvalidQuestion" ["part"] [pc]))) (xb := some (.ex (exV "InvalidQuestion" ["part"] [.str "parts"]))) (tm := (aCons (eMk "InvalidProgram" ["index"] (aCons (eC (.int 3)) (pure []))) (aCons (eMk "InvalidProgram" ["index"] (aCons (eC .none) (pure []))) (pure [])))) (ta := (aCons (eGet tb "index" (eVar 5)) (aCons (eGet tb "index" (eVar 6)) (pure [])))) (tb' := (aCons (eC (.int 3)) (aCons (eC .none) (pure [])))) (c := ((ce ++ m0) ++ m1)) (rest := r9) (e1 := (exV "InvalidProgram" ["index"] [.int 3])) (e2 := (exV "InvalidProgram" ["index"] [.none])) (a := 2) (k := 0) (ds := [.int 3, .none]) (consE (mkE (ds := [.int 3]) (consE cE rfl) rfl) (consE (mkE (ds := [.none]) (consE cE rfl) rfl) rfl)) (fits (by decide +kernel) (by decide +kernel) (by decide +kernel)) (fits (by decide +kernel) (by decide +kernel) (by decide +kernel)) (fun c' => (consE (getE (i := 5) (n := "index") rfl rfl (by decide) rfl) (consE (getE (i := 6) (n := "index") rfl rfl (by decide) rfl) rfl))) (fun c' => (consE cE (consE cE rfl))) hz2 (by show 2 ≤ 1000; decide)
  obtain ⟨z3, hz3⟩ := (Option.isSome_iff_exists.mp (show (reprD (.list [.int 2, .none])).isSome = true by decide +kernel))
  obtain ⟨m3, t3⟩ := line_ok (v0 := some (.bag (ns.map .int))) (v1 := some (.rf 0)) (v2 := some (.dat (.int c))) (v3 := some (.dat pc)) (xa := some (.ex (exV "InvalidProgram" ["index"] [.int 3]))) (xb := some (.ex (exV "InvalidProgram" ["index"] [.none]))) (tm := (aCons (eMk "InvalidWishes" ["index"] (aCons (eC (.int 2)) (pure []))) (aCons (eMk "InvalidWishes" ["index"] (aCons (eC .none) (pure []))) (pure [])))) (ta := (aCons (eGet tb "index" (eVar 5)) (aCons (eGet tb "index" (eVar 6)) (pure [])))) (tb' := (aCons (eC (.int 2)) (aCons (eC .none) (pure [])))) (c := (((ce ++ m0) ++ m1) ++ m2)) (rest := r11) (e1 := (exV "InvalidWishes" ["index"] [.int 2])) (e2 := (exV "InvalidWishes" ["index"] [.none])) (a := 3) (k := 0) (ds := [.int 2, .none]) (consE (mkE (ds := [.int 2]) (consE cE rfl) rfl) (consE (mkE (ds := [.none]) (consE cE rfl) rfl) rfl)) (fits (by decide +kernel) (by decide +kernel) (by decide +kernel)) (fits (by decide +kernel) (by decide +kernel) (by decide +kernel)) (fun c' => (consE (getE (i := 5) (n := "index") rfl rfl (by decide) rfl) (consE (getE (i := 6) (n := "index") rfl rfl (by decide) rfl) rfl))) (fun c' => (consE cE (consE cE rfl))) hz3 (by show 2 ≤ 1000; decide)
  obtain ⟨z4, hz4⟩ := (Option.isSome_iff_exists.mp (show (reprD (.list [.int 0, .int 1])).isSome = true by decide +kernel))
  obtain ⟨m4, t4⟩ := line_ok (v0 := some (.bag (ns.map .int))) (v1 := some (.rf 0)) (v2 := some (.dat (.int c))) (v3 := some (.dat pc)) (xa := some (.ex (exV "InvalidWishes" ["index"] [.int 2]))) (xb := some (.ex (exV "InvalidWishes" ["index"] [.none]))) (tm := (aCons (eMk "InvalidOptions" ["index"] (aCons (eC (.int 0)) (pure []))) (aCons (eMk "InvalidOptions" ["index"] (aCons (eC (.int 1)) (pure []))) (pure [])))) (ta := (aCons (eGet tb "index" (eVar 5)) (aCons (eGet tb "index" (eVar 6)) (pure [])))) (tb' := (aCons (eC (.int 0)) (aCons (eC (.int 1)) (pure [])))) (c := ((((ce ++ m0) ++ m1) ++ m2) ++ m3)) (rest := r13) (e1 := (exV "InvalidOptions" ["index"] [.int 0])) (e2 := (exV "InvalidOptions" ["index"] [.int 1])) (a := 4) (k := 0) (ds := [.int 0, .int 1]) (consE (mkE (ds := [.int 0]) (consE cE rfl) rfl) (consE (mkE (ds := [.int 1]) (consE cE rfl) rfl) rfl)) (fits (by decide +kernel) (by decide +kernel) (by decide +kernel)) (fits (by decide +kernel) (by decide +kernel) (by decide +kernel)) (fun c' => (consE (getE (i := 5) (n := "index") rfl rfl (by decide) rfl) (consE (getE (i := 6) (n := "index") rfl rfl (by decide) rfl) rfl))) (fun c' => (consE cE (consE cE rfl))) hz4 (by show 2 ≤ 1000; decide)
  obtain ⟨z5, hz5⟩ := (Option.isSome_iff_exists.mp (show (reprD (.list [.str "n", .str "kinds"])).isSome = true by decide +kernel))
  obtain ⟨m5, t5⟩ := line_ok (v0 := some (.bag (ns.map .int))) (v1 := some (.rf 0)) (v2 := some (.dat (.int c))) (v3 := some (.dat pc)) (xa := some (.ex (exV "InvalidOptions" ["index"] [.int 0]))) (xb := some (.ex (exV "InvalidOptions" ["index"] [.int 1]))) (tm := (aCons (eMk "InvalidClaim" ["part"] (aCons (eC (.str "n")) (pure []))) (aCons (eMk "InvalidClaim" ["part"] (aCons (eC (.str "kinds")) (pure []))) (pure [])))) (ta := (aCons (eGet tb "part" (eVar 5)) (aCons (eGet tb "part" (eVar 6)) (pure [])))) (tb' := (aCons (eC (.str "n")) (aCons (eC (.str "kinds")) (pure [])))) (c := (((((ce ++ m0) ++ m1) ++ m2) ++ m3) ++ m4)) (rest := r15) (e1 := (exV "InvalidClaim" ["part"] [.str "n"])) (e2 := (exV "InvalidClaim" ["part"] [.str "kinds"])) (a := 5) (k := 0) (ds := [.str "n", .str "kinds"]) (consE (mkE (ds := [.str "n"]) (consE cE rfl) rfl) (consE (mkE (ds := [.str "kinds"]) (consE cE rfl) rfl) rfl)) (fits (by decide +kernel) (by decide +kernel) (by decide +kernel)) (fits (by decide +kernel) (by decide +kernel) (by decide +kernel)) (fun c' => (consE (getE (i := 5) (n := "part") rfl rfl (by decide) rfl) (consE (getE (i := 6) (n := "part") rfl rfl (by decide) rfl) rfl))) (fun c' => (consE cE (consE cE rfl))) hz5 (by show 2 ≤ 1000; decide)
  obtain ⟨z6, hz6⟩ := reprD_int (X := .int 8) c0 c1 (by decide +kernel) (by decide +kernel) (by decide +kernel) (by decide +kernel)
  obtain ⟨m6, t6⟩ := line_ok (v0 := some (.bag (ns.map .int))) (v1 := some (.rf 0)) (v2 := some (.dat (.int c))) (v3 := some (.dat pc)) (xa := some (.ex (exV "InvalidClaim" ["part"] [.str "n"]))) (xb := some (.ex (exV "InvalidClaim" ["part"] [.str "kinds"]))) (tm := (aCons (eMk "ParseError" ["line"] (aCons (eVar 2) (pure []))) (aCons (eMk "ParseError" ["line"] (aCons (eC (.int 8)) (pure []))) (pure [])))) (ta := (aCons (eGet tb "line" (eVar 5)) (aCons (eGet tb "line" (eVar 6)) (pure [])))) (tb' := (aCons (eVar 2) (aCons (eC (.int 8)) (pure [])))) (c := ((((((ce ++ m0) ++ m1) ++ m2) ++ m3) ++ m4) ++ m5)) (rest := r17) (e1 := (exV "ParseError" ["line"] [.int c])) (e2 := (exV "ParseError" ["line"] [.int 8])) (a := 6) (k := 0) (ds := [.int c, .int 8]) (consE (mkE (ds := [.int c]) (consE (varE rfl) rfl) rfl) (consE (mkE (ds := [.int 8]) (consE cE rfl) rfl) rfl)) (fits (by decide +kernel) (by decide +kernel) (by decide +kernel)) (fits (by decide +kernel) (by decide +kernel) (by decide +kernel)) (fun c' => (consE (getE (i := 5) (n := "line") rfl rfl (by decide) rfl) (consE (getE (i := 6) (n := "line") rfl rfl (by decide) rfl) rfl))) (fun c' => (consE (varE rfl) (consE cE rfl))) hz6 (by show 2 ≤ 1000; decide)
  obtain ⟨z7, hz7⟩ := reprD_int (X := .int (-1)) c0 c1 (by decide +kernel) (by decide +kernel) (by decide +kernel) (by decide +kernel)
  obtain ⟨m7, t7⟩ := line_ok (v0 := some (.bag (ns.map .int))) (v1 := some (.rf 0)) (v2 := some (.dat (.int c))) (v3 := some (.dat pc)) (xa := some (.ex (exV "ParseError" ["line"] [.int c]))) (xb := some (.ex (exV "ParseError" ["line"] [.int 8]))) (tm := (aCons (eMk "Refused" ["index"] (aCons (eVar 2) (pure []))) (aCons (eMk "Refused" ["index"] (aCons (eNeg (eC (.int 1))) (pure []))) (pure [])))) (ta := (aCons (eGet tb "index" (eVar 5)) (aCons (eGet tb "index" (eVar 6)) (pure [])))) (tb' := (aCons (eVar 2) (aCons (eNeg (eC (.int 1))) (pure [])))) (c := (((((((ce ++ m0) ++ m1) ++ m2) ++ m3) ++ m4) ++ m5) ++ m6)) (rest := r19) (e1 := (exV "Refused" ["index"] [.int c])) (e2 := (exV "Refused" ["index"] [.int (-1)])) (a := 8) (k := 1) (ds := [.int c, .int (-1)]) (consE (mkE (ds := [.int c]) (consE (varE rfl) rfl) rfl) (consE (mkE (ds := [.int (-1)]) (consE negE rfl) rfl) rfl)) (fits (by decide +kernel) (by decide +kernel) (by decide +kernel)) (fits (by decide +kernel) (by decide +kernel) (by decide +kernel)) (fun c' => (consE (getE (i := 5) (n := "index") rfl rfl (by decide) rfl) (consE (getE (i := 6) (n := "index") rfl rfl (by decide) rfl) rfl))) (fun c' => (consE (varE rfl) (consE negE rfl))) hz7 (by show 2 ≤ 1000; decide)
  obtain ⟨z8, hz8⟩ := reprD_int (X := .int 300) c0 c1 (by decide +kernel) (by decide +kernel) (by decide +kernel) (by decide +kernel)
  obtain ⟨m8, t8⟩ := line_ok (v0 := some (.bag (ns.map .int))) (v1 := some (.rf 0)) (v2 := some (.dat (.int c))) (v3 := some (.dat pc)) (xa := some (.ex (exV "Refused" ["index"] [.int c]))) (xb := some (.ex (exV "Refused" ["index"] [.int (-1)]))) (tm := (aCons (eMk "LimitExceeded" ["limit"] (aCons (eVar 2) (pure []))) (aCons (eMk "LimitExceeded" ["limit"] (aCons (eC (.int 300)) (pure []))) (pure [])))) (ta := (aCons (eGet tb "limit" (eVar 5)) (aCons (eGet tb "limit" (eVar 6)) (pure [])))) (tb' := (aCons (eVar 2) (aCons (eC (.int 300)) (pure [])))) (c := ((((((((ce ++ m0) ++ m1) ++ m2) ++ m3) ++ m4) ++ m5) ++ m6) ++ m7)) (rest := r21) (e1 := (exV "LimitExceeded" ["limit"] [.int c])) (e2 := (exV "LimitExceeded" ["limit"] [.int 300])) (a := 10) (k := 2) (ds := [.int c, .int 300]) (consE (mkE (ds := [.int c]) (consE (varE rfl) rfl) rfl) (consE (mkE (ds := [.int 300]) (consE cE rfl) rfl) rfl)) (fits (by decide +kernel) (by decide +kernel) (by decide +kernel)) (fits (by decide +kernel) (by decide +kernel) (by decide +kernel)) (fun c' => (consE (getE (i := 5) (n := "limit") rfl rfl (by decide) rfl) (consE (getE (i := 6) (n := "limit") rfl rfl (by decide) rfl) rfl))) (fun c' => (consE (varE rfl) (consE cE rfl))) hz8 (by show 2 ≤ 1000; decide)
  obtain ⟨z9, hz9⟩ := reprD_int (X := .tuple [.int 3, .int 4]) c0 c1 (by decide +kernel) (by decide +kernel) (by decide +kernel) (by decide +kernel)
  obtain ⟨m9, t9⟩ := line_ok (v0 := some (.bag (ns.map .int))) (v1 := some (.rf 0)) (v2 := some (.dat (.int c))) (v3 := some (.dat pc)) (xa := some (.ex (exV "LimitExceeded" ["limit"] [.int c]))) (xb := some (.ex (exV "LimitExceeded" ["limit"] [.int 300]))) (tm := (aCons (eMk "Banned" ["index", "things"] (aCons (eVar 2) (aCons (eTup (aCons (eC (.int 3)) (aCons (eC (.int 4)) (pure [])))) (pure [])))) (aCons (eMkR "Banned" ["index", "things"] (aCons (eTup (pure [])) (aCons (eC (.int 0)) (pure [])))) (pure [])))) (ta := (aCons (eGet tb "index" (eVar 5)) (aCons (eGet tb "things" (eVar 5)) (pure [])))) (tb' := (aCons (eVar 2) (aCons (eTup (aCons (eC (.int 3)) (aCons (eC (.int 4)) (pure [])))) (pure [])))) (c := (((((((((ce ++ m0) ++ m1) ++ m2) ++ m3) ++ m4) ++ m5) ++ m6) ++ m7) ++ m8)) (rest := r23) (e1 := (exV "Banned" ["index", "things"] [.int c, .tuple [.int 3, .int 4]])) (e2 := (exV "Banned" ["index", "things"] [.tuple [], .int 0].reverse)) (a := 9) (k := 1) (ds := [.int c, .tuple [.int 3, .int 4]]) (consE (mkE (ds := [.int c, .tuple [.int 3, .int 4]]) (consE (varE rfl) (consE (tupE (ds := [.int 3, .int 4]) rfl (by decide)) rfl)) rfl) (consE (mkRE (ds := [.tuple [], .int 0]) (consE (tupE (ds := []) rfl (by decide)) (consE cE rfl)) rfl) rfl)) (fits (by decide +kernel) (by decide +kernel) (by decide +kernel)) (fits (by decide +kernel) (by decide +kernel) (by decide +kernel)) (fun c' => (consE (getE (i := 5) (n := "index") rfl rfl (by decide) rfl) (consE (getE (i := 5) (n := "things") rfl rfl (by decide) rfl) rfl))) (fun c' => (consE (varE rfl) (consE (tupE (ds := [.int 3, .int 4]) rfl (by decide)) rfl))) hz9 (by show 2 ≤ 1000; decide)
  obtain ⟨zb, hzb⟩ := (Option.isSome_iff_exists.mp (show (reprD (.list [.int 0, .tuple []])).isSome = true by decide +kernel))
  obtain ⟨mb, tb2⟩ := line_more (v0 := some (.bag (ns.map .int))) (v1 := some (.rf 0)) (v2 := some (.dat (.int c))) (v3 := some (.dat pc)) (xa := some (.ex (exV "Banned" ["index", "things"] [.int c, .tuple [.int 3, .int 4]]))) (xb := some (.ex (exV "Banned" ["index", "things"] [.tuple [], .int 0].reverse))) (ta := (aCons (eGet tb "index" (eVar 6)) (aCons (eGet tb "things" (eVar 6)) (pure [])))) (tb' := (aCons (eC (.int 0)) (aCons (eTup (pure [])) (pure [])))) (c := ((((((((((ce ++ m0) ++ m1) ++ m2) ++ m3) ++ m4) ++ m5) ++ m6) ++ m7) ++ m8) ++ m9)) (rest := r24) (ds := [.int 0, .tuple []]) (fun c' => (consE (getE (i := 6) (n := "index") rfl rfl (by decide) rfl) (consE (getE (i := 6) (n := "things") rfl rfl (by decide) rfl) rfl))) (fun c' => (consE cE (consE (tupE (ds := []) rfl (by decide)) rfl))) hzb (by show 2 ≤ 1000; decide)
  obtain ⟨z10, hz10⟩ := (Option.isSome_iff_exists.mp (show (reprD (.list [.tuple [.str "paper"], .tuple [.str "hit", .int 0, .int 1]])).isSome = true by decide +kernel))
  obtain ⟨m10, t10⟩ := line_ok (v0 := some (.bag (ns.map .int))) (v1 := some (.rf 0)) (v2 := some (.dat (.int c))) (v3 := some (.dat pc)) (xa := some (.ex (exV "Banned" ["index", "things"] [.int c, .tuple [.int 3, .int 4]]))) (xb := some (.ex (exV "Banned" ["index", "things"] [.tuple [], .int 0].reverse))) (tm := (aCons (eMk "Unfounded" ["fault"] (aCons (eTup (aCons (eC (.str "paper")) (pure []))) (pure []))) (aCons (eMk "Unfounded" ["fault"] (aCons (eTup (aCons (eC (.str "hit")) (aCons (eC (.int 0)) (aCons (eC (.int 1)) (pure []))))) (pure []))) (pure [])))) (ta := (aCons (eGet tb "fault" (eVar 5)) (aCons (eGet tb "fault" (eVar 6)) (pure [])))) (tb' := (aCons (eTup (aCons (eC (.str "paper")) (pure []))) (aCons (eTup (aCons (eC (.str "hit")) (aCons (eC (.int 0)) (aCons (eC (.int 1)) (pure []))))) (pure [])))) (c := (((((((((((ce ++ m0) ++ m1) ++ m2) ++ m3) ++ m4) ++ m5) ++ m6) ++ m7) ++ m8) ++ m9) ++ mb)) (rest := r26) (e1 := (exV "Unfounded" ["fault"] [.tuple [.str "paper"]])) (e2 := (exV "Unfounded" ["fault"] [.tuple [.str "hit", .int 0, .int 1]])) (a := 11) (k := 1) (ds := [.tuple [.str "paper"], .tuple [.str "hit", .int 0, .int 1]]) (consE (mkE (ds := [.tuple [.str "paper"]]) (consE (tupE (ds := [.str "paper"]) rfl (by decide)) rfl) rfl) (consE (mkE (ds := [.tuple [.str "hit", .int 0, .int 1]]) (consE (tupE (ds := [.str "hit", .int 0, .int 1]) rfl (by decide)) rfl) rfl) rfl)) (fits (by decide +kernel) (by decide +kernel) (by decide +kernel)) (fits (by decide +kernel) (by decide +kernel) (by decide +kernel)) (fun c' => (consE (getE (i := 5) (n := "fault") rfl rfl (by decide) rfl) (consE (getE (i := 6) (n := "fault") rfl rfl (by decide) rfl) rfl))) (fun c' => (consE (tupE (ds := [.str "paper"]) rfl (by decide)) (consE (tupE (ds := [.str "hit", .int 0, .int 1]) rfl (by decide)) rfl))) hz10 (by show 2 ≤ 1000; decide)
  refine ⟨SL (some (.bag (ns.map .int))) (some (.rf 0)) (some (.dat (.int c))) (some (.dat pc)) tru (some (.ex (exV "Unfounded" ["fault"] [.tuple [.str "paper"]]))) (some (.ex (exV "Unfounded" ["fault"] [.tuple [.str "hit", .int 0, .int 1]]))), ((((((((((((ce ++ m0) ++ m1) ++ m2) ++ m3) ++ m4) ++ m5) ++ m6) ++ m7) ++ m8) ++ m9) ++ mb) ++ m10), (s0.trans (t0.trans (t1.trans (t2.trans (t3.trans (t4.trans (t5.trans (t6.trans (t7.trans (t8.trans (t9.trans (tb2.trans (t10.trans ?_)))))))))))))⟩
  refine retE (andV (varE rfl) (callE (n := 3) (den := f_law_right) (xs := [.dat (.int 7), .dat (.int 1), .exs [exV "NothingDone" [] []]]) (S1 := ⟨SL (some (.bag (ns.map .int))) (some (.rf 0)) (some (.dat (.int c))) (some (.dat pc)) tru (some (.ex (exV "Unfounded" ["fault"] [.tuple [.str "paper"]]))) (some (.ex (exV "Unfounded" ["fault"] [.tuple [.str "hit", .int 0, .int 1]]))), ((((((((((((ce ++ m0) ++ m1) ++ m2) ++ m3) ++ m4) ++ m5) ++ m6) ++ m7) ++ m8) ++ m9) ++ mb) ++ m10)⟩) (consE cE (consE cE (consE ?_ rfl))) rfl (right_ok (fun e he => ?_) _)))
  · unfold eLstX
    rw [bindE (consE (mkE (ds := []) rfl rfl) rfl)]
    rfl
  · cases List.mem_singleton.mp he
    exact fits (by decide +kernel) (by decide +kernel) (by decide +kernel)
theorem law_true (ns : List Int) : ∃ S : DS, flaw [.bag (ns.map .int)] ⟨[], []⟩ = .ok (.dat (.bool true), S) := by
  obtain ⟨sl, more, e⟩ := body_true ns
  exact ⟨_, run_dat (ce := []) (more := more) (sl := sl) e⟩
end K86
namespace K86
open PySem PySem.Spec L2 DL
theorem dd_ints {K : PySem.W.Frag} {H : Hp} : ∀ ns : List Int, DdAll K H (ns.map V.int) (ns.map PyData.int)
  | [] => .nil
  | n :: ns => .cons (.int n) (dd_ints ns)
theorem sp_true {K : PySem.W.Frag} {w : World} {mg : Str → Option Value} {H : Hp} {a : Addr} {ns : List Int} (hS : SqL K H a (ns.map V.int)) : spD K w mg 1 flaw [.ref a] H (fun v _ => v = .bl true) fun _ _ _ => False := by
  obtain ⟨S, e⟩ := law_true ns
  refine ⟨rfl, fun _ => none, [], [], H, [.bag (ns.map .int)], ⟨rfl, L2.Same.refl H, (fun _ _ z => nomatch z), rfl, List.nodup_nil, (fun j a c z => nomatch z), (fun i x z => nomatch z)⟩, ⟨⟨a, _, rfl, hS, dd_ints ns⟩, trivial⟩, ?_⟩
  rw [e]
  intro v H' G' rs' u m r
  cases r
  rfl
end K86
open PyProof.Rows PySem PySem.W in
set_option maxHeartbeats 0 in
theorem PySem.Challenge.cw_backasked_k86_errors_required_holds : PySem.Challenge.rw_backasked_k86_errors_required.Holds := by
  w_on; o_law
  k_head
  (case hw => w_witness2)
  k_fill
  refine DG.walkG (n := 63) (k := 4) (x := "script") (l := PySem.Challenge.rw_backasked_k86_errors_required) (sp := fun w mg => DL.spD _ w mg 1 K86.flaw) rfl (by decide) rfl ⟨rfl, by decide, by decide⟩ (fun w h Y => PySem.W.kIn_of Y) ?F (fun w mg H a ns _ _ hS => K86.sp_true hS)
  case F =>
    intro w mg fa h KX G hmg
    refine' K86.all_mk KX G hmg ?aC0 ?iC0 ?tC0 ?lC0 ?cC0 ?kC0 ?aC1 ?iC1 ?tC1 ?lC1 ?cC1 ?kC1 ?aC2 ?iC2 ?tC2 ?lC2 ?cC2 ?kC2 ?aC3 ?iC3 ?tC3 ?lC3 ?cC3 ?kC3 ?aC4 ?iC4 ?tC4 ?lC4 ?cC4 ?kC4 ?aC5 ?iC5 ?tC5 ?lC5 ?cC5 ?kC5 ?aC6 ?iC6 ?tC6 ?lC6 ?cC6 ?kC6 ?aC7 ?iC7 ?tC7 ?lC7 ?cC7 ?kC7 ?aC8 ?iC8 ?tC8 ?lC8 ?cC8 ?kC8 ?aC9 ?iC9 ?tC9 ?lC9 ?cC9 ?kC9 ?aC10 ?iC10 ?tC10 ?lC10 ?cC10 ?kC10 ?aC11 ?iC11 ?tC11 ?lC11 ?cC11 ?kC11 ?a100 ?l100 ?c100 ?k100 ?a101 ?l101 ?c101 ?k101 ?a102 ?l102 ?c102 ?k102 ?a103 ?l103 ?c103 ?k103 ?a104 ?l104 ?c104 ?k104 ?a105 ?l105 ?c105 ?k105 ?a106 ?l106 ?c106 ?k106 ?a107 ?l107 ?c107 ?k107 ?z_IndexError ?z_KeyError ?z_LookupError ?z_NotImplementedError ?z_OverflowError ?z_RuntimeError ?z_TypeError ?z_ValueError ?z_int ?z_isinstance ?z_len ?z_list ?z_range ?z_repr ?vRE ?all ?own ?bl_IndexError ?bl_KeyError ?bl_LookupError ?bl_NotImplementedError ?bl_OverflowError ?bl_RuntimeError ?bl_TypeError ?bl_ValueError
    (case aC0 => k_is)
    (case iC0 => k_is)
    (case tC0 => k_is)
    (case lC0 => k_is)
    (case cC0 => k_is)
    (case kC0 => k_is)
    (case aC1 => k_is)
    (case iC1 => k_is)
    (case tC1 => k_is)
    (case lC1 => k_is)
    (case cC1 => k_is)
    (case kC1 => k_is)
    (case aC2 => k_is)
    (case iC2 => k_is)
    (case tC2 => k_is)
    (case lC2 => k_is)
    (case cC2 => k_is)
    (case kC2 => k_is)
    (case aC3 => k_is)
    (case iC3 => k_is)
    (case tC3 => k_is)
    (case lC3 => k_is)
    (case cC3 => k_is)
    (case kC3 => k_is)
    (case aC4 => k_is)
    (case iC4 => k_is)
    (case tC4 => k_is)
    (case lC4 => k_is)
    (case cC4 => k_is)
    (case kC4 => k_is)
    (case aC5 => k_is)
    (case iC5 => k_is)
    (case tC5 => k_is)
    (case lC5 => k_is)
    (case cC5 => k_is)
    (case kC5 => k_is)
    (case aC6 => k_is)
    (case iC6 => k_is)
    (case tC6 => k_is)
    (case lC6 => k_is)
    (case cC6 => k_is)
    (case kC6 => k_is)
    (case aC7 => k_is)
    (case iC7 => k_is)
    (case tC7 => k_is)
    (case lC7 => k_is)
    (case cC7 => k_is)
    (case kC7 => k_is)
    (case aC8 => k_is)
    (case iC8 => k_is)
    (case tC8 => k_is)
    (case lC8 => k_is)
    (case cC8 => k_is)
    (case kC8 => k_is)
    (case aC9 => k_is)
    (case iC9 => k_is)
    (case tC9 => k_is)
    (case lC9 => k_is)
    (case cC9 => k_is)
    (case kC9 => k_is)
    (case aC10 => k_is)
    (case iC10 => k_is)
    (case tC10 => k_is)
    (case lC10 => k_is)
    (case cC10 => k_is)
    (case kC10 => k_is)
    (case aC11 => k_is)
    (case iC11 => k_is)
    (case tC11 => k_is)
    (case lC11 => k_is)
    (case cC11 => k_is)
    (case kC11 => k_is)
    (case a100 => k_is)
    (case l100 => k_is)
    (case c100 => k_is)
    (case k100 => k_is)
    (case a101 => k_is)
    (case l101 => k_is)
    (case c101 => k_is)
    (case k101 => k_is)
    (case a102 => k_is)
    (case l102 => k_is)
    (case c102 => k_is)
    (case k102 => k_is)
    (case a103 => k_is)
    (case l103 => k_is)
    (case c103 => k_is)
    (case k103 => k_is)
    (case a104 => k_is)
    (case l104 => k_is)
    (case c104 => k_is)
    (case k104 => k_is)
    (case a105 => k_is)
    (case l105 => k_is)
    (case c105 => k_is)
    (case k105 => k_is)
    (case a106 => k_is)
    (case l106 => k_is)
    (case c106 => k_is)
    (case k106 => k_is)
    (case a107 => k_is)
    (case l107 => k_is)
    (case c107 => k_is)
    (case k107 => k_is)
    (case z_IndexError => k_is)
    (case z_KeyError => k_is)
    (case z_LookupError => k_is)
    (case z_NotImplementedError => k_is)
    (case z_OverflowError => k_is)
    (case z_RuntimeError => k_is)
    (case z_TypeError => k_is)
    (case z_ValueError => k_is)
    (case z_int => k_is)
    (case z_isinstance => k_is)
    (case z_len => k_is)
    (case z_list => k_is)
    (case z_range => k_is)
    (case z_repr => k_is)
    (case vRE => k_is)
    (case all => kernel_rfl)
    (case own => kernel_rfl)
    (case bl_IndexError => kernel_rfl)
    (case bl_KeyError => kernel_rfl)
    (case bl_LookupError => kernel_rfl)
    (case bl_NotImplementedError => kernel_rfl)
    (case bl_OverflowError => kernel_rfl)
    (case bl_RuntimeError => kernel_rfl)
    (case bl_TypeError => kernel_rfl)
    (case bl_ValueError => kernel_rfl)

import PyProof.Rows.All
import Wide.All
import OpenK.AllK
import Wide.FinOn
import KE.KExcInit
import HandS.ForExc
import HandS.ExcInit
import HandS.ExcValue
import HandS.ExcIs
import HandS.IsInst
import HandS.Defaults
import HandS.MakeKw
import HandS.ForMost
import HandS.Wide
import HandS.Codes
import PyProof.ReprRoads
import HandS.Star
import HandS.Walk
import HandS.Style
import KE.GoesEnum
import HandS.DictComp
import HandS.RaiseMore
import KE.KDictPairs
import HandS.FStr
import HandS.Property
import HandS.ClsMeth
import HandS.SlotsOwn
import KE.DataCmp
import HandS.Lambda
import HandS.Iter
import HandS.Text
import HandS.TryMany
import HandS.ExcField
import HandS.Zip
import HandS.DeepEq
import HandS.TupAny
import KE.KOpsOwn
import PyProof.ListMulRight
import HandS.NamedTupGet
import HandS.OwnEq
import HandS.TryOnly
import HandS.EndTab
import PySem.Challenge.RW_everyload_k01_loads_made
set_option Elab.async false
set_option maxRecDepth 100000
set_option maxHeartbeats 4000000
namespace My
open PySem PySem.HandSPX Builtin Builtin.ObjectAttr
/-! own exceptions made by a call with keywords: BaseException.__new__ lets them pass -/
section
variable {M : Model} {A : Around} {E : Value → Shared → Prop} {h : Heap} {g : Array GenState} {d : Drawn} {t : Nat} {os : OsState}
variable {nm q : Str} {C N : Addr} {bs bm bmB : List Value} {hdct : Bool} {sn : List Str} {sub : List Value} {ab : Bool} {col : Option Bool} {dd : Option Addr} {k0 k1 k2 k3 k5 : Option Value} {B newId initId : String}
theorem newCheck (F : ExcBaseFacts B newId initId bmB) (hT : ∀ X : String, bm.contains (.type X) = bmB.contains (.type X)) {kw : List (Str × Value)} {Q : Unit → Shared → Prop}
    (hC : h.get? C = some (excClassObj nm q C N bs bm hdct sn sub ab col dd k0 k1 k2 k3 k5 newId)) (hq : Q () ⟨h, g, d, t, os⟩) : wpAny M A (checkBuiltinCall newId ⟨[.ref C], kw⟩) Q E ⟨h, g, d, t, os⟩ := by
  have own : (Value.ref C :: bm).contains (.type B) = true := by
    rw [List.contains_cons, hT, F.hasB]
    exact Bool.or_true _
  have st := F.noStar
  simp only [checkBuiltinCall, F.newKind, F.newSplit, F.newRow]
  repeat (first
    | refine wpAny_loadPart_at hC ?_
    | (refine wpAny_isSubtype_exc hC ?_; rw [own])
    | refine wpAny_staticBase_exc hC ?_
    | refine wpAny_madeBy_exc hC ?_
    | simp only [bne_self_eq_false, Bool.false_eq_true, if_false]
    | wp_step)
  exact hq
end
section
variable {prog : Program} {w : World} {A : Around} {E : Value → Shared → Prop} {R : Result → Shared → Prop} {h : Heap} {g : Array GenState} {d : Drawn} {t : Nat} {os : OsState}
variable {nm q : Str} {C N : Addr} {bs bm bmB : List Value} {hdct : Bool} {sn : List Str} {sub : List Value} {ab : Bool} {col : Option Bool} {dd : Option Addr} {k0 k1 k2 k3 k5 : Option Value} {B newId initId : String}
/-- the args of an exception that was made without arguments by place -/
abbrev noArgs : Obj := { cls := .type "tuple", data := .seq #[] }
theorem newMade (F : ExcBaseFacts B newId initId bmB) (hT : ∀ X : String, bm.contains (.type X) = bmB.contains (.type X)) {kw : List (Str × Value)}
    (hC : h.get? C = some (excClassObj nm q C N bs bm hdct sn sub ab col dd k0 k1 k2 k3 k5 newId))
    (hq : R (.ok (.ret (.ref (h.objs.size + 1)))) ⟨(h.push noArgs).push (excO C h.objs.size), g, d, t, os⟩) :
    codeAny (model prog w) A (.builtin newId ⟨[.ref C], kw⟩) R ⟨h, g, d, t, os⟩ := by
  have en := F.ends
  have c1 : (Value.ref C :: bm).contains (.type B) = true := by
    rw [List.contains_cons, hT, F.hasB]
    exact Bool.or_true _
  have c2 : (Value.ref C :: bm).contains (.type "AttributeError") = false := by
    rw [List.contains_cons, hT, F.noAttr]
    rfl
  have c3 : (Value.ref C :: bm).contains (.type "NameError") = false := by
    rw [List.contains_cons, hT, F.noName]
    rfl
  refine codeAny_builtinAt F.entry ?_
  unfold Builtin.«BaseException.__new__»
  refine wpAt_bind ?_
  show wpAt _ _ _ (stack >>= _) _ _ _
  refine wpAt_bind (wpAt_stack fun p below => wpAt_of_wpAny ?_)
  wp_walk
  refine wpAt_of_wpAny ?_
  rw [F.owner]
  repeat (first
    | with_reducible refine wpAny_madeHere_exc F.canon hC ?_
    | with_reducible refine wpAny_loadPart_at hC ?_
    | (with_reducible refine wpAny_isSubtype_exc hC ?_; first | rw [c1] | rw [c2] | rw [c3])
    | wp_step)
  show R _ _
  rw [Heap.size_push]
  exact hq
theorem typeCalled (F : ExcBaseFacts B newId initId bmB) (hT : ∀ X : String, bm.contains (.type X) = bmB.contains (.type X)) {kw : List (Str × Value)} {fI : Addr} {Q : Fin → Shared → Prop}
    (hC : h.get? C = some (excClassObj nm q C N bs bm hdct sn sub ab col dd k0 k1 k2 k3 k5 newId))
    (hi : W.Looks (model prog w) h (typeLookup (.ref C) "__init__") (some (.ref fI))) (hb : ∀ self, W.Looks (model prog w) h (bindSpecial (.ref fI) self) (.ref fI, [self]))
    (hq : codeAny (model prog w) A (.call (.ref fI) ⟨[.ref (h.objs.size + 1)], kw⟩)
      (fun r s' => match r with | .ok (.ret v) => v = .none ∧ Q (.done (.ret (.ref (h.objs.size + 1)))) s' | .ok _ => False | .error e => E e s')
      ⟨(h.push noArgs).push (excO C h.objs.size), g, d, t, os⟩) :
    wpAny (model prog w) A (Builtin.«type.__call__» ⟨[.ref C], kw⟩) Q E ⟨h, g, d, t, os⟩ := by
  repeat (first | with_reducible refine wpAny_loadPart_at hC ?_ | with_reducible refine wpAny_madeBy_exc hC ?_ | wp_step)
  refine codeAny_call_builtin_code (Code.quiet_builtin _ F.quiet) (newCheck F hT hC ?_)
  refine newMade F hT hC ?_
  show wpAny _ _ _ _ _ _
  have k : ∀ b o, h.get? b = some o → ((h.push noArgs).push (excO C h.objs.size)).get? b = some o := fun b o e => Heap.get?_push_of_some _ (Heap.get?_push_of_some _ e)
  have hC1 := k _ _ hC
  have there : ((h.push noArgs).push (excO C h.objs.size)).get? (h.objs.size + 1) = some (excO C h.objs.size) := by heap_get
  have cC : (Value.ref C :: bm).contains (.ref C) = true := by simp
  have i1 := hi.keeps k
  have b1 := (hb (.ref (h.objs.size + 1))).keeps k
  unfold isInstance
  repeat (first | with_reducible refine wpAny_loadPart_at there ?_ | (with_reducible refine wpAny_isSubtype_exc hC1 ?_; rw [cC]) | wp_step)
  show wpAny _ _ (typeLookup (.ref C) _) _ _ _
  refine i1.at ?_
  refine wpAny_holding (wpAny_bind (b1.at ?_))
  refine wpAny_bind (wpAny_call (codeAny_mono hq fun r s' z => ?_))
  rcases r with e | (v | _ | _ | _) <;> first | exact z | exact z.elim | skip
  obtain ⟨rfl, z⟩ := z
  first
    | exact wpAny_pure (wpAny_pure z)
    | (wp_walk; exact z)
theorem calledKw (F : ExcBaseFacts B newId initId bmB) (hT : ∀ X : String, bm.contains (.type X) = bmB.contains (.type X)) {kw : List (Str × Value)} {fI : Addr}
    (hC : h.get? C = some (excClassObj nm q C N bs bm hdct sn sub ab col dd k0 k1 k2 k3 k5 newId))
    (hi : W.Looks (model prog w) h (typeLookup (.ref C) "__init__") (some (.ref fI))) (hb : ∀ self, W.Looks (model prog w) h (bindSpecial (.ref fI) self) (.ref fI, [self]))
    (hq : codeAny (model prog w) (A.under (.builtin "type.__call__" ⟨[.ref C], kw⟩)) (.call (.ref fI) ⟨[.ref (h.objs.size + 1)], kw⟩) (W.InitBack (h.objs.size + 1) R) ⟨(h.push noArgs).push (excO C h.objs.size), g, d, t, os⟩) :
    codeAny (model prog w) A (.call (.ref C) ⟨[], kw⟩) R ⟨h, g, d, t, os⟩ := by
  have f1 := tc_lookup
  have f2 := tc_bind (.ref C)
  have ty : (⟨h, g, d, t, os⟩ : Shared).TypeIs (.ref C) "type" := ⟨_, hC, rfl⟩
  refine codeAny_of_tree ?_
  show wpAny _ _ (callAny (.ref C) _) _ _ _
  repeat (any_goals (first | assumption | with_reducible refine wpAny_loadPart_at hC ?_ | wp_step))
  refine ⟨rfl, ?_⟩
  refine codeAny_call_builtin_at (Code.quiet_builtin _ (by decide +kernel)) entry_typeCall (wpAny_check_type_call_sub hC (typeCalled F hT hC hi hb ?_))
  refine codeAny_mono hq fun r s' z => ?_
  rcases r with e | (v | _ | _ | _) <;> exact z
end
end My
set_option Elab.async false
set_option maxRecDepth 100000
set_option maxHeartbeats 4000000
namespace My
open PySem PySem.HandSPX Builtin Builtin.ObjectAttr
section
variable {prog : Program} {w : World} {A : Around} {E : Value → Shared → Prop} {R : Result → Shared → Prop} {hp : Heap} {g : Array GenState} {d : Drawn} {t : Nat} {os : OsState}
/-- what a built-in exception class has to let pass, for own classes over it -/
structure Tail (bmB : List Value) : Prop where
  pass : ∀ self : Value, refuseLoop self "__setattr__" bmB = pure ()
  obj : bmB.contains (.type "object") = true
  ne : bmB ≠ []
theorem tailNe {bmB l : List Value} (T : Tail bmB) (e : W.excTail bmB l = true) : l.isEmpty = false := by
  cases l with
  | nil => exact absurd (beq_iff_eq.mp e).symm T.ne
  | cons _ _ => rfl
/-- the first field of an exception -/
theorem xosaNew {bmB : List Value} (T : Tail bmB) {K : W.Frag} {name : Str} {tk : Tok} {v : Value} {x C : Addr} {fv : Array Value} {cd : ClassData}
    (X : K.In hp) (hx : hp.get? x = some { cls := .ref C, data := .fields fv }) (hcd : W.clsIn K C = some cd) (hm : W.excTail bmB cd.mro = true) (hh : cd.hasDict = true) (ha : W.findIn K (.ref C) name = some none)
    (hq : ∀ h' tk' dx, (∀ b o, b ≠ x → hp.get? b = some o → h'.get? b = some o) → hp.objs.size ≤ dx → dx ≠ x → h'.get? x = some { cls := .ref C, dict := some dx, data := .fields fv } →
      h'.Ns1 dx (fun y => if y = name then some v else none) → R (.ok (.ret .none)) ⟨h', g, d, tk', os⟩) :
    codeAny (model prog w) A (.call (.builtin "object.__setattr__") ⟨[.ref x, .str name tk, v], []⟩) R ⟨hp, g, d, t, os⟩ := by
  have at_ : W.InstAt hp x { cls := .ref C, data := .fields fv } C none := ⟨hx, rfl, rfl, trivial⟩
  have st := F.store_object
  have ne := tailNe T hm
  have isOb : cd.mro.contains (.type "object") = true := (W.excTail_contains "object" _ hm).trans T.obj
  have xs : x ≠ hp.objs.size := Nat.ne_of_lt (Heap.lt_size hx)
  have sub : W.Looks (model prog w) hp (isInstance (.ref x) (.type "object")) true := at_.type.andThen (W.looks_mroIn X (by
    unfold W.mroIn
    rw [hcd, Option.bind_some, if_neg (by rw [ne]; decide), isOb]))
  refine codeAny_call_builtin st.slot.plain st.entry (@W.check_slot (model prog w) _ _ ⟨hp, g, d, t, os⟩ "object.__setattr__" "object" "__setattr__" (.ref x) [.str name tk, v] [] _ st.kind st.split sub
    (st.args (.ref x) (.str name tk) v) ?_)
  have mr : W.Looks (model prog w) hp (mroOf (.ref C)) cd.mro := (W.looks_clsIn X hcd).andThen .now
  have l3 : W.Looks (model prog w) hp (storeTaker? none) none := .now
  have lc : W.Looks (model prog w) hp (classData C) cd := W.looks_clsIn X hcd
  rw [W.osa_eq, refuse_eq]
  refine wpAny_bind (wpAny_bind (at_.type.at (wpAny_bind (mr.at ?_))))
  rw [W.excTail_pass _ (T.pass _) _ hm]
  refine wpAny_pure (wpAny_bind (at_.type.at (wpAny_bind ((W.looks_findIn X ha).at (wpAny_bind (l3.at ?_))))))
  show wpAny _ _ (storeInOwnDict (.ref x) (.ref C) (.str name tk) name v false) _ _ _
  obtain ⟨nm, bs, mro, ns, qn, hd, sn, sb, ab, col, dl⟩ := cd
  dsimp only at hh
  subst hh
  unfold storeInOwnDict ownDictForStores
  repeat (first | with_reducible refine store_in_new ?_ ?_ | with_reducible refine wpAny_loadPart_at hx ?_ | with_reducible refine lc.at ?_ | wp_step)
  · exact ⟨_, #[], _, (Heap.get?_update_ne _ _ _ _ xs.symm).trans (Heap.get?_push_at rfl rfl), rfl, fun e he => absurd he (by simp), fun _ => rfl⟩
  · intro h' tk' hn' hs
    have x1 : (hp.push { cls := .type "dict", data := .dict #[] }).get? x = some { cls := .ref C, data := .fields fv } := Heap.get?_push_of_some _ hx
    refine hq h' tk' hp.objs.size (fun b o hb ho => ?_) (Nat.le_refl _) xs.symm ?_ hn'
    · exact (hs.2 b (Nat.ne_of_lt (Heap.lt_size ho))).trans ((Heap.get?_update_ne _ _ _ _ hb).trans (Heap.get?_push_of_some _ ho))
    · exact (hs.2 x xs).trans (Heap.get?_update_self _ x1 rfl)
/-- a further field -/
theorem xosaOld {bmB : List Value} (T : Tail bmB) {K : W.Frag} {name : Str} {tk : Tok} {v : Value} {x C dx : Addr} {fv : Array Value} {cd : ClassData} {m0 : Str → Option Value} {nl : List Str}
    (X : K.In hp) (hx : hp.get? x = some { cls := .ref C, dict := some dx, data := .fields fv }) (hns : hp.Ns1 dx m0) (hw : Within m0 nl) (hz : nl.length ≤ 1000) (hcd : W.clsIn K C = some cd) (hm : W.excTail bmB cd.mro = true) (hh : cd.hasDict = true)
    (ha : W.findIn K (.ref C) name = some none)
    (hq : ∀ h' tk', (∀ b o, b ≠ dx → hp.get? b = some o → h'.get? b = some o) → h'.Ns1 dx (fun y => if y = name then some v else m0 y) → R (.ok (.ret .none)) ⟨h', g, d, tk', os⟩) :
    codeAny (model prog w) A (.call (.builtin "object.__setattr__") ⟨[.ref x, .str name tk, v], []⟩) R ⟨hp, g, d, t, os⟩ := by
  obtain ⟨oD, esD, epD, hoD, hdD, _⟩ := hns.count hw
  have at_ : W.InstAt hp x { cls := .ref C, dict := some dx, data := .fields fv } C (some oD) := ⟨hx, rfl, rfl, hoD⟩
  have st := F.store_object
  have ne := tailNe T hm
  have isOb : cd.mro.contains (.type "object") = true := (W.excTail_contains "object" _ hm).trans T.obj
  have sub : W.Looks (model prog w) hp (isInstance (.ref x) (.type "object")) true := at_.type.andThen (W.looks_mroIn X (by
    unfold W.mroIn
    rw [hcd, Option.bind_some, if_neg (by rw [ne]; decide), isOb]))
  refine codeAny_call_builtin st.slot.plain st.entry (@W.check_slot (model prog w) _ _ ⟨hp, g, d, t, os⟩ "object.__setattr__" "object" "__setattr__" (.ref x) [.str name tk, v] [] _ st.kind st.split sub
    (st.args (.ref x) (.str name tk) v) ?_)
  have mr : W.Looks (model prog w) hp (mroOf (.ref C)) cd.mro := (W.looks_clsIn X hcd).andThen .now
  have l3 : W.Looks (model prog w) hp (storeTaker? none) none := .now
  have lc : W.Looks (model prog w) hp (classData C) cd := W.looks_clsIn X hcd
  rw [W.osa_eq, refuse_eq]
  refine wpAny_bind (wpAny_bind (at_.type.at (wpAny_bind (mr.at ?_))))
  rw [W.excTail_pass _ (T.pass _) _ hm]
  refine wpAny_pure (wpAny_bind (at_.type.at (wpAny_bind ((W.looks_findIn X ha).at (wpAny_bind (l3.at ?_))))))
  show wpAny _ _ (storeInOwnDict (.ref x) (.ref C) (.str name tk) name v false) _ _ _
  obtain ⟨nm, bs, mro, ns, qn, hd, sn, sb, ab, col, dl⟩ := cd
  dsimp only at hh
  subst hh
  unfold storeInOwnDict ownDictForStores
  repeat (first | with_reducible refine OEX.store_in_old hns hw hz ?_ | with_reducible refine wpAny_loadPart_at hx ?_ | with_reducible refine lc.at ?_ | wp_step)
  intro h' tk' hn' hs
  exact hq h' tk' (fun b o hb ho => (hs.2 b hb).trans ho) hn'
end
theorem tailV : Tail [.type "ValueError", .type "Exception", .type "BaseException", .type "object"] := ⟨F.store_ValueError.passes, by decide +kernel, by decide⟩
theorem tailL : Tail [.type "LookupError", .type "Exception", .type "BaseException", .type "object"] := ⟨F.store_LookupError.passes, by decide +kernel, by decide⟩
theorem tailA : Tail [.type "ArithmeticError", .type "Exception", .type "BaseException", .type "object"] := ⟨F.store_ArithmeticError.passes, by decide +kernel, by decide⟩
end My
set_option Elab.async false
set_option maxRecDepth 100000
set_option maxHeartbeats 4000000
namespace My
open PySem PySem.Spec PyProof.Rows L2
/-- what the written part says of an own exception class over a built-in one -/
structure OxC (K : PySem.W.Frag) (C : Addr) (newId : String) (bmB : List Value) : Prop where
  made : PySem.W.excInitIn K C bmB newId = true
  over : PySem.W.excOver K C bmB = true
  hd : PySem.W.hasDictIn K C = true
  sa : PySem.W.findIn K (.ref C) "__setattr__" = some (some (.builtin "object.__setattr__"))
  ga : PySem.W.findIn K (.ref C) "__getattribute__" = some (some (.builtin "BaseException.__getattribute__"))
  gg : PySem.W.findIn K (.ref C) "__getattr__" = some none
  exC : PySem.W.subIn K (.ref C) (.type "BaseException") = some true
  tyC : PySem.W.typeIn K (.ref C) = some (.type "type")
  kp : PySem.W.keepIn K (.ref C) = true
theorem OxC.cls {K : PySem.W.Frag} {C : Addr} {newId : String} {bmB : List Value} (O : OxC K C newId bmB) : ∃ cd, PySem.W.clsIn K C = some cd ∧ cd.hasDict = true ∧ PySem.W.excTail bmB cd.mro = true := by
  obtain ⟨cd, hc, hd⟩ := PySem.W.any_some O.hd
  obtain ⟨cd', hc', ho⟩ := PySem.W.any_some O.over
  obtain rfl : cd = cd' := Option.some.inj (hc.symm.trans hc')
  refine ⟨cd, hc, hd, ?_⟩
  (try dsimp only at ho)
  split at ho
  · rename_i C' bm hm
    rw [hm]
    exact (Bool.and_eq_true_iff.mp ho).2
  · cases ho
section
variable {X : Cx} {pins : List (Addr × Obj)} {σ : L2.St} {H : Hp} {s : Shared} {a C dx : Addr} {f : Str} {y : V} {u : Value} {fs : List (Str × V)} {E : Value → Shared → Prop} {A : Around} {newId : String} {bmB : List Value}
/-- self.f = y, the first one -/
theorem xst_new {Q : Unit → Shared → Prop} (T : Tail bmB) (O : OxC X.K C newId bmB) (I : Inv X pins σ H s) (e : H a = some (exo a C none)) (hno : PySem.W.findIn X.K (.ref C) f = some none) (ry : RelV y u)
    (h : ∀ dx s', H dx = none → dx ≠ a → Inv X pins σ (upd (upd H dx (exd dx [(f, y)])) a (exo a C (some dx))) s' → Q () s') : wpAny (model X.prog X.w) A (setAttr (.ref a) f u) Q E s := by
  obtain ⟨cd, hcl, hdc, htl⟩ := O.cls
  obtain ⟨t1, ho⟩ := exo_at I.hok e
  obtain ⟨hp, g, d, t, os⟩ := s
  refine PySem.W.set_plain I.kIn (ox := { cls := .ref C, dict := none, data := .fields #[.ref t1, .none, .none, .none, .bool false, .none] }) (od := none) ⟨ho, rfl, rfl, trivial⟩ O.sa ?_
  refine xosaNew T I.kIn ho hcl htl hdc hno (fun h' tk' dx k dn dne hx hn => ?_)
  have hnd : H dx = none := I.hok.fresh dn
  have nd : ∀ {b : Addr} {o : Obj}, hp.get? b = some o → b ≠ dx := fun {b o} q => Nat.ne_of_lt (Nat.lt_of_lt_of_le (Heap.lt_size q) dn)
  have na : ∀ {b : Addr}, H b = none → b ≠ a := fun {b} n z => by
    rw [z, e] at n
    cases n
  have un : Un X.fs [] H (upd (upd H dx (exd dx [(f, y)])) a (exo a C (some dx))) hp h' :=
    ⟨fun b o q n _ _ => k b o (na n) q, fun b o q n _ _ => ⟨o.slots, k b o (na n) q⟩, fun b o q n _ => by rw [upd_ne (na n), upd_ne (nd q)]; exact n, fun b o q _ => by
      by_cases hb : b = a
      · exact ⟨_, by rw [hb]; exact hx⟩
      · exact ⟨o, k b o hb q⟩, fun b xs q => by rw [upd_ne (at_ne e q exo_tup), upd_ne (ne_of_none q hnd)]; exact q, fun b o v q => by rw [upd_ne (at_ne e q exo_frz), upd_ne (ne_of_none q hnd)]; exact q,
      fun b ps q => ⟨#[], by rw [upd_ne (at_ne e q exo_tbl), upd_ne (ne_of_none q hnd), q]; simp⟩⟩
  refine h dx _ hnd dne (I.un (t' := tk') un fun b o q => ?_)
  by_cases hb : b = a
  · subst hb
    rw [upd_same] at q
    cases q
    exact exo_ok hx
  · rw [upd_ne hb] at q
    by_cases hd : b = dx
    · subst hd
      rw [upd_same] at q
      cases q
      exact exd_ok hn (relO_put (fs := []) ry fun g => True.intro)
    · rw [upd_ne hd] at q
      refine (I.hok b o q).stay (fun c v hc z => k c v ?_ z) (fun c hc => ?_) fun c xs hc => ?_
      · rcases hc with hc | hc
        · rw [hc]
          exact hb
        · exact at_ne e hc exo_own
      · rw [upd_ne (at_ne e hc exo_own), upd_ne (ne_of_none hc hnd)]
        exact hc
      · rw [upd_ne (at_ne e hc exo_tup), upd_ne (ne_of_none hc hnd)]
        exact hc
/-- self.f = y, a further one -/
theorem xst_old {Q : Unit → Shared → Prop} (T : Tail bmB) (O : OxC X.K C newId bmB) (I : Inv X pins σ H s) (e : H a = some (exo a C (some dx))) (ed : H dx = some (exd dx fs)) (hl : fs.length ≤ 900) (hno : PySem.W.findIn X.K (.ref C) f = some none) (ry : RelV y u)
    (h : ∀ s', Inv X pins σ (upd H dx (exd dx ((f, y) :: fs))) s' → Q () s') : wpAny (model X.prog X.w) A (setAttr (.ref a) f u) Q E s := by
  obtain ⟨cd, hcl, hdc, htl⟩ := O.cls
  obtain ⟨t1, ho⟩ := exo_at I.hok e
  obtain ⟨mA, hns, rel⟩ := exd_at I.hok ed
  have hw := within_of rel
  obtain ⟨hp, g, d, t, os⟩ := s
  obtain ⟨oD, _, _, hoD, _, _⟩ := hns.count hw
  refine PySem.W.set_plain I.kIn (ox := { cls := .ref C, dict := some dx, data := .fields #[.ref t1, .none, .none, .none, .bool false, .none] }) (od := some oD) ⟨ho, rfl, rfl, hoD⟩ O.sa ?_
  refine xosaOld T I.kIn ho hns hw (by rw [List.length_map]; omega) hcl htl hdc hno (fun h' tk' k hn => ?_)
  have hd : ∃ o, h'.get? dx = some o := by
    obtain ⟨o, _, _, e', _⟩ := hn
    exact ⟨o, e'⟩
  exact h _ (I.write (t' := tk') (x := dx) (e := dx) (o := exd dx ((f, y) :: fs)) (by rw [ed]; exact True.intro) (.inl rfl) k hd (exd_ok hn (relO_put ry rel)))
end
/-- self.f = e in the __init__ of an exception -/
def tXst (K : PySem.W.Frag) (f : Str) (to te : TE) : TS := fun D σ H => te σ H fun y H1 => to σ H1 fun x H2 => ∃ (a C : Addr) (newId : String) (bmB : List Value), x = .ref a ∧ Tail bmB ∧ OxC K C newId bmB ∧ PySem.W.findIn K (.ref C) f = some none ∧
  ((H2 a = some (exo a C none) ∧ ∀ dx, H2 dx = none → dx ≠ a → D.nx σ (upd (upd H2 dx (exd dx [(f, y)])) a (exo a C (some dx)))) ∨
    ∃ (dx : Addr) (fs : List (Str × V)), H2 a = some (exo a C (some dx)) ∧ H2 dx = some (exd dx fs) ∧ fs.length ≤ 900 ∧ D.nx σ (upd H2 dx (exd dx ((f, y) :: fs))))
/-- C(e, ..), C's own __init__ keeping sp -/
def tXmk (C : Addr) (sp : Sp) (ta : TA) : TE := fun σ H Q => ta σ H fun vs H1 => vs.length ≤ 1000 ∧ ∀ a, H1 a = none → sp (.ref a :: vs) (upd H1 a (exo a C none)) (fun v H2 => v = .non ∧ Q (.ref a) H2) (fun _ _ _ => False)
/-- C(k = e, ..) -/
def tXmkK (C : Addr) (m : Nat) (sp : Sp) (gV : List V → List V → List V) (tk : TA) : TE := fun σ H Q => tk σ H fun zs H1 => zs.length = m ∧ ∀ a, H1 a = none → sp (gV [.ref a] zs) (upd H1 a (exo a C none)) (fun v H2 => v = .non ∧ Q (.ref a) H2) (fun _ _ _ => False)
/-- C(), no own __init__ -/
def tXmk0 (C : Addr) : TE := fun _ H Q => ∀ a, H a = none → Q (.ref a) (upd H a (exo a C none))
/-- e.f of an exception -/
def tXat (K : PySem.W.Frag) (f : Str) (te : TE) : TE := fun σ H Q => te σ H fun x H1 => ∃ (a C d : Addr) (fs : List (Str × V)) (v : V) (newId : String) (bmB : List Value), x = .ref a ∧ OxC K C newId bmB ∧ PySem.W.findIn K (.ref C) f = some none ∧
  H1 a = some (exo a C (some d)) ∧ H1 d = some (exd d fs) ∧ fs.lookup f = some v ∧ Q v H1
section
variable {X : Cx} {o e : Expr} {es : List Expr} {to te : TE} {ta : TA} {f : Str} {p p' p1 p2 pos : Pos}
theorem ps_xst (ho : PE X o to) (he : PE X e te) (hs : swapsWith e (some (.Attribute o f p')) pos.line X.env = pure false := by rfl) : PS X (.Assign [.Attribute o f p'] e pos) (tXst X.K f to te) := by
  refine ⟨fun pins s σ H D I h => ?_⟩
  refine plainObj_wpAny_Assign_Attribute (thn (he.run pins s σ H _ I h) fun v s1 ⟨y, H1, I1, r1, q1⟩ => thn (ho.run pins s1 σ H1 _ I1 q1) fun u s2 ⟨x, H2, I2, r2, a, C, newId, bmB, ex, T, O, hno, q⟩ => ?_) hs
  subst ex
  obtain rfl : u = Value.ref a := r2
  rcases q with ⟨ea, q⟩ | ⟨dx, fs, ea, ed, hl, q⟩
  · exact xst_new T O I2 ea hno r1 fun dx s' n ne J => ⟨σ, _, J, q dx n ne⟩
  · exact xst_old T O I2 ea ed hl hno r1 fun s' J => ⟨σ, _, J, q⟩
theorem pe_xat (he : PE X e te) (hb : attributeBase e f X.env (eval e X.env) = eval e X.env := by rfl) : PE X (.Attribute e f pos) (tXat X.K f te) := by
  refine ⟨fun pins s σ H Q I h => ?_⟩
  refine attr_of hb (thn (he.run pins s σ H _ I h) fun u s1 hh => ?_)
  obtain ⟨x, H1, I1, rx, a, C, d, fs, v, newId, bmB, ex, O, hno, ea, ed, l, q⟩ := hh
  subst ex
  obtain rfl : u = Value.ref a := rx
  obtain ⟨t1, ho⟩ := exo_at I1.hok ea
  obtain ⟨mA, hns, hr⟩ := exd_at I1.hok ed
  obtain ⟨od, hod, hl⟩ := lookIn_ns hns
  obtain ⟨u, hu, ru⟩ := RelO.some_of (v := v) (o := mA f) (by rw [← l]; exact hr f)
  have J : PySem.W.InstAt s1.heap a { cls := .ref C, dict := some d, data := .fields #[.ref t1, .none, .none, .none, .bool false, .none] } C (some od) := ⟨ho, rfl, rfl, hod⟩
  exact HandSPX.exc_get I1.kIn J O.ga O.gg O.exC (PySem.W.findObj_own O.hd hno rfl (by rw [hl, hu])) (handed_of ru) ⟨v, H1, I1.tok _, ru, q⟩
section
variable {CX : CXT} {x : Str} {C fI : Addr} {k : Nat} {fd : FuncData} {ps ks : List Str} {sp : Sp} {B newId initId : String} {bmB : List Value} {kws : List Keyword} {tk : TA} {g : List Value → List Value → List Value} {gV : List V → List V → List V}
/-- the exception is made, then its __init__ runs -/
theorem run_xmk {pins : List (Addr × Obj)} {σ : L2.St} {H : Hp} {s : Shared} {Q : VK} {us : List Value} {vs : List V} (F : ExcBaseFacts B newId initId bmB) (O : OxC X.K C newId bmB) (iC : PySem.W.findIn X.K (.ref C) "__init__" = some (some (.ref fI))) (tI : PySem.W.typeIn X.K (.ref fI) = some (.type "function"))
    (F1 : FnOk X.prog X.w X.K X.mg X.base CX k fI fd ps sp) (hr : Room (k + 1) X.A) (hb : Binds X.K fd ps []) (hx : Passes CX X (fun _ _ _ => False)) (I : Inv X pins σ H s) (r : Vals vs us) (hz : vs.length ≤ 1000)
    (h : ∀ a, H a = none → sp (.ref a :: vs) (upd H a (exo a C none)) (fun v H2 => v = .non ∧ Q (.ref a) H2) (fun _ _ _ => False)) : wpAny (model X.prog X.w) X.A (call (.ref C) us) (EP X pins σ Q) X.xe s := by
  obtain ⟨nm, N, qn, bs, bm, hdct, sn, sub, ab, col, dd, k0, k1, k2, k3, k5, hC, hT⟩ := PySem.W.excInit_of I.kIn O.made
  obtain ⟨hp, gg, dr, t0, os⟩ := s
  have big : hp.objs.size ≤ hp.objs.size + 1 := Nat.le_succ _
  have hq := h (hp.objs.size + 1) (I.hok.fresh big)
  have kk : ∀ b o, hp.get? b = some o → ((hp.push (PySem.W.kdv_tup us)).push (PySem.HandSPX.excO C hp.objs.size)).get? b = some o := fun b o e => Heap.get?_push_of_some _ (Heap.get?_push_of_some _ e)
  have hget : ((hp.push (PySem.W.kdv_tup us)).push (PySem.HandSPX.excO C hp.objs.size)).get? (hp.objs.size + 1) = some (PySem.HandSPX.excO C hp.objs.size) := by heap_get
  have I2 : Inv X pins σ (upd H (hp.objs.size + 1) (exo (hp.objs.size + 1) C none)) ⟨(hp.push (PySem.W.kdv_tup us)).push (PySem.HandSPX.excO C hp.objs.size), gg, dr, t0, os⟩ :=
    I.laid (t' := t0) (a := hp.objs.size + 1) (o := exo (hp.objs.size + 1) C none) (h' := (hp.push (PySem.W.kdv_tup us)).push (PySem.HandSPX.excO C hp.objs.size)) kk big (exo_ok hget)
  have r2 : Vals (V.ref (hp.objs.size + 1) :: vs) (Value.ref (hp.objs.size + 1) :: us) := .cons rfl r
  have hl : (Value.ref (hp.objs.size + 1) :: us ++ []).length = ps.length := by
    rw [List.append_nil, ← r2.length]
    exact F1.len _ _ _ _ hq
  have hus : us.length ≤ sizeLine := by
    rw [← Paired.length r, sizeLine_eq]
    omega
  have bd := hb _ (Value.ref (hp.objs.size + 1) :: us) I2.kIn hl
  rw [List.append_nil] at bd
  refine wpAny_call (PySem.HandSPX.call_own F hT hC (PySem.W.looks_findIn I.kIn iC) (fun self => PySem.W.bind_fn I.kIn self tI) hus
    (codeAny_mono (F1.run _ X.stack _ _ ⟨Value.ref (hp.objs.size + 1) :: us, []⟩ (Value.ref (hp.objs.size + 1) :: us) _ _ (fun _ _ _ => False) (hr.make C us []) (I2.env0.make C us []) bd r2 hq) fun r s' hq' => ?_))
  cases r with
  | error er => exact hx pins σ _ _ er s' I2 hq'
  | ok fl =>
    cases fl with
    | ret u =>
      obtain ⟨v, H', I3, rv, ev, q3⟩ := I2.after hq'
      subst ev
      refine ⟨rv, ⟨V.ref (hp.objs.size + 1), H', ?_, rfl, q3⟩⟩
      exact ⟨I3.ok, I3.os, I3.bare, I3.base, I3.loc, I3.cell, I3.free, I3.freeC, I3.pin, I3.hok, I3.len⟩
    | next => exact False.elim hq'
    | brk => exact False.elim hq'
    | cont => exact False.elim hq'
theorem pe_xmk (F : ExcBaseFacts B newId initId bmB) (O : OxC X.K C newId bmB) (iC : PySem.W.findIn X.K (.ref C) "__init__" = some (some (.ref fI))) (tI : PySem.W.typeIn X.K (.ref fI) = some (.type "function"))
    (F1 : FnOk X.prog X.w X.K X.mg X.base CX k fI fd ps sp) (hr : Room (k + 1) X.A) (hb : Binds X.K fd ps []) (hx : Passes CX X (fun _ _ _ => False)) (hg : Gl X x) (hm : X.mg x = some (.ref C)) (ha : PA X (e :: es) ta)
    (hdb : (x == ("__debug__" : Str)) = false := by decide) (he : starEach (e :: es) X.env = (false, eval e X.env) :: starEach es X.env := by rfl) (hpl : (backTo pos (starEach es X.env)).any (·.1) = false := by rfl) :
    PE X (.Call (.Name x p) (e :: es) [] pos) (tXmk C sp ta) := by
  refine ⟨fun pins s σ H Q I h => ?_⟩
  refine wpAny_Call_Name_kw (ld_glob I hg hm ?_ hdb)
  refine PySem.W.callWith_K (h₀ := X.base) I.ok.mod.kin O.kp (thn (ha.run pos pins s σ H _ I h) fun us s1 ⟨vs, H1, I1, r1, hz, q1⟩ => ⟨I1.kIn, ?_⟩) he hpl
  exact run_xmk F O iC tI F1 hr hb hx I1 r1 hz q1
end
end
end My
set_option Elab.async false
set_option maxRecDepth 100000
set_option maxHeartbeats 4000000
namespace My
open PySem PySem.Spec PyProof.Rows L2
section
variable {X : Cx} {CX : CXT} {x : Str} {C fI : Addr} {k : Nat} {fd : FuncData} {ps ks : List Str} {sp : Sp} {B newId initId : String} {bmB : List Value} {kws : List Keyword} {tk : TA} {g : List Value → List Value → List Value} {gV : List V → List V → List V} {p pos : Pos}
theorem run_xmkK {pins : List (Addr × Obj)} {σ : L2.St} {H : Hp} {s : Shared} {Q : VK} {ws : List Value} {zs : List V} (F : ExcBaseFacts B newId initId bmB) (O : OxC X.K C newId bmB) (iC : PySem.W.findIn X.K (.ref C) "__init__" = some (some (.ref fI))) (tI : PySem.W.typeIn X.K (.ref fI) = some (.type "function"))
    (F1 : FnOk X.prog X.w X.K X.mg X.base CX k fI fd ps sp) (hr : Room (k + 1) X.A) (hb : KBn X.K fd ps 1 ks g gV) (hx : Passes CX X (fun _ _ _ => False)) (I : Inv X pins σ H s) (rz : Vals zs ws) (hl : zs.length = ks.length)
    (h : ∀ a, H a = none → sp (gV [.ref a] zs) (upd H a (exo a C none)) (fun v H2 => v = .non ∧ Q (.ref a) H2) (fun _ _ _ => False)) : wpAny (model X.prog X.w) X.A (call (.ref C) [] (ks.zip ws)) (EP X pins σ Q) X.xe s := by
  obtain ⟨nm, N, qn, bs, bm, hdct, sn, sub, ab, col, dd, k0, k1, k2, k3, k5, hC, hT⟩ := PySem.W.excInit_of I.kIn O.made
  obtain ⟨hp, gg, dr, t0, os⟩ := s
  have big : hp.objs.size ≤ hp.objs.size + 1 := Nat.le_succ _
  have hq := h (hp.objs.size + 1) (I.hok.fresh big)
  have kk : ∀ b o, hp.get? b = some o → ((hp.push noArgs).push (PySem.HandSPX.excO C hp.objs.size)).get? b = some o := fun b o e => Heap.get?_push_of_some _ (Heap.get?_push_of_some _ e)
  have hget : ((hp.push noArgs).push (PySem.HandSPX.excO C hp.objs.size)).get? (hp.objs.size + 1) = some (PySem.HandSPX.excO C hp.objs.size) := by heap_get
  have I2 : Inv X pins σ (upd H (hp.objs.size + 1) (exo (hp.objs.size + 1) C none)) ⟨(hp.push noArgs).push (PySem.HandSPX.excO C hp.objs.size), gg, dr, t0, os⟩ :=
    I.laid (t' := t0) (a := hp.objs.size + 1) (o := exo (hp.objs.size + 1) C none) (h' := (hp.push noArgs).push (PySem.HandSPX.excO C hp.objs.size)) kk big (exo_ok hget)
  have r1 : Vals [V.ref (hp.objs.size + 1)] [Value.ref (hp.objs.size + 1)] := .cons rfl .nil
  have r2 := hb.rel r1 rz
  have e2 : ws.length = ks.length := rz.length.symm.trans hl
  refine wpAny_call (calledKw F hT hC (PySem.W.looks_findIn I.kIn iC) (fun self => PySem.W.bind_fn I.kIn self tI)
    (codeAny_mono (F1.run _ X.stack _ _ ⟨[Value.ref (hp.objs.size + 1)], ks.zip ws⟩ (g [Value.ref (hp.objs.size + 1)] ws) _ _ (fun _ _ _ => False) (hr.make C [] (ks.zip ws)) (I2.env0.make C [] (ks.zip ws)) (hb.to _ [Value.ref (hp.objs.size + 1)] ws I2.kIn rfl e2) r2 hq) fun r s' hq' => ?_))
  cases r with
  | error er => exact hx pins σ _ _ er s' I2 hq'
  | ok fl =>
    cases fl with
    | ret u =>
      obtain ⟨v, H', I3, rv, ev, q3⟩ := I2.after hq'
      subst ev
      refine ⟨rv, ⟨V.ref (hp.objs.size + 1), H', ?_, rfl, q3⟩⟩
      exact ⟨I3.ok, I3.os, I3.bare, I3.base, I3.loc, I3.cell, I3.free, I3.freeC, I3.pin, I3.hok, I3.len⟩
    | next => exact False.elim hq'
    | brk => exact False.elim hq'
    | cont => exact False.elim hq'
theorem pe_xmkK (F : ExcBaseFacts B newId initId bmB) (O : OxC X.K C newId bmB) (iC : PySem.W.findIn X.K (.ref C) "__init__" = some (some (.ref fI))) (tI : PySem.W.typeIn X.K (.ref fI) = some (.type "function"))
    (F1 : FnOk X.prog X.w X.K X.mg X.base CX k fI fd ps sp) (hr : Room (k + 1) X.A) (hb : KBn X.K fd ps 1 ks g gV) (hx : Passes CX X (fun _ _ _ => False)) (hg : Gl X x) (hm : X.mg x = some (.ref C)) (hkw : PK X kws tk)
    (hall : (backToKw pos (keywordEach kws X.env)).all (·.1.isSome) = true := by rfl) (hks : (backToKw pos (keywordEach kws X.env)).filterMap (·.1) = ks := by rfl) (hdb : (x == ("__debug__" : Str)) = false := by decide)
    (hpl : ((backTo pos (starEach [] X.env)).any (·.1) || (backToKw pos (keywordEach kws X.env)).any (·.1.isNone)) = false := by rfl) :
    PE X (.Call (.Name x p) [] kws pos) (tXmkK C ks.length sp gV tk) := by
  refine ⟨fun pins s σ H Q I h => ?_⟩
  refine wpAny_Call_Name_kw (ld_glob I hg hm ?_ hdb)
  refine PySem.W.callWith_KW0 (h₀ := X.base) I.ok.mod.kin O.kp hall ?_ hpl
  refine thn (hkw.run pos pins s σ H _ I h) fun ws s2 ⟨zs, H2, I2, rz, l2, q2⟩ => ⟨I2.kIn, ?_⟩
  rw [hks]
  exact run_xmkK F O iC tI F1 hr hb hx I2 rz l2 q2
/-- C(), no own __init__ -/
theorem pe_xmk0 (F : ExcBaseFacts B newId initId bmB) (q : PySem.W.excIn X.K C bmB newId = true) (kC : PySem.W.keepIn X.K (.ref C) = true) (hg : Gl X x) (hm : X.mg x = some (.ref C)) (hdb : (x == ("__debug__" : Str)) = false := by decide) : PE X (.Call (.Name x p) [] [] pos) (tXmk0 C) := by
  refine ⟨fun pins s σ H Q I h => ?_⟩
  refine wpAny_Call_Name_kw (ld_glob I hg hm ?_ hdb)
  refine PySem.W.callWith_K0 I.kIn kC ?_
  obtain ⟨bm, N, nm, qn, bs, hdct, sn, sub, ab, col, dd, k0, k1, k2, k3, k5, mN, hC, hN, hni, T⟩ := exc_obj I.kIn q
  refine wpAny_call_exc_subT F T hC hN hni (fun h' a hh => ?_) (by show 0 ≤ sizeLine; exact Nat.zero_le _)
  have hn : H a = none := I.hok.gone hh.new
  obtain ⟨t, ht, _, _⟩ := hh.there
  exact ⟨.ref a, upd H a (exo a C none), I.laidN hh.keeps hh.new hn (exo_ok ht), rfl, h a hn⟩
end
/-! ### isinstance of an exception -/
section
variable {prog : Program} {w : World} {A : Around} {E : Value → Shared → Prop} {K : PySem.W.Frag} {C : Addr} {newId : String} {bmB : List Value}
/-- what isinstance asks besides: the class attribute -/
structure OxI (K : PySem.W.Frag) (C : Addr) : Prop where
  ca : PySem.W.findIn K (.ref C) "__class__" = some (some (.builtin "object.__class__"))
  mo : PySem.W.mroIn K C (.type "object") = some true
structure OxG (K : PySem.W.Frag) : Prop where
  gt : PySem.W.specialIn K (.builtin "object.__class__") "__get__" = some (some (.builtin "getset_descriptor.__get__"))
  tk : PySem.W.takesIn K (.builtin "object.__class__") = some true
open PySem.W in
theorem findData {od : Option Obj} {name : Str} {a g : Value} (hc : (clsIn K C).isSome = true) (ha : findIn K (.ref C) name = some (some a)) (hg : specialIn K a "__get__" = some (some g)) (ht : takesIn K a = some true) : findObj K C od name = some (.bind g a) := by
  obtain ⟨cd, hc⟩ := Option.isSome_iff_exists.mp hc
  unfold findObj
  rw [hc, Option.bind_some, ha, Option.bind_some]
  simp [hg, ht]
open PySem.W in
theorem askClass {s : Shared} {x : Addr} {ox : Obj} {od : Option Obj} {Q : Option Value → Shared → Prop} (O : OxC K C newId bmB) (J : OxI K C) (G : OxG K) (X : K.In s.heap) (I : PySem.W.InstAt s.heap x ox C od) (h : Q (some (.ref C)) { s with toks := s.toks + 1 }) :
    wpAny (model prog w) A (getAttr? (.ref x) "__class__") Q E s := by
  have hf : findObj K C od "__class__" = some (.bind (.builtin "getset_descriptor.__get__") (.builtin "object.__class__")) := findData (by
    obtain ⟨cd, hc, _⟩ := any_some O.hd
    rw [hc]
    rfl) J.ca G.gt G.tk
  obtain ⟨hp, g, d, t, os⟩ := s
  have l0 := I.type (M := model prog w)
  have l1 := looks_findIn (M := model prog w) X O.ga
  have l2 := looks_findIn (M := model prog w) X O.gg
  have l3 := looks_find (M := model prog w) X I hf
  have sub : Looks (model prog w) hp (isInstance (.ref x) (.type "BaseException")) true := l0.andThen (looks_subIn X O.exC)
  have n0 : (false && onTheHeap (Value.builtin "BaseException.__getattribute__")) = false := rfl
  have n2 : (Value.builtin "BaseException.__getattribute__" == Value.builtin "object.__getattribute__") = false := by decide +kernel
  have n1 : (onTheHeap (Value.ref C) && Value.builtin "BaseException.__getattribute__" == Value.builtin "object.__getattribute__") = false := by
    rw [n2]
    rfl
  unfold getAttr? getAttrBy? getAttrBy
  refine wpAny_bind (wpAny_mkText (wpAny_bind (wpAny_attempt (wpAny_holding (wpAny_bind (l0.at (wpAny_bind (l1.at ?_))))))))
  show wpAny _ _ (if (onTheHeap (Value.ref C) && Value.builtin "BaseException.__getattribute__" == Value.builtin "object.__getattribute__") = true then _ else _) _ _ _
  rw [n1, if_neg Bool.false_ne_true]
  unfold getAttrByItsOwn hookBefore
  refine wpAny_bind ?_
  rw [if_pos (show onTheHeap (Value.ref C) = true from rfl)]
  refine l2.at ?_
  refine wpAny_bind (wpAny_attempt (wpAny_holding ?_))
  unfold callGetattribute
  rw [n0, if_neg Bool.false_ne_true]
  unfold boundAndCalled
  rw [PySem.F.excAttr_ValueError.ga.bind (.ref x)]
  refine wpAny_bind (wpAny_pure ?_)
  show wpAny _ _ (call (.builtin "BaseException.__getattribute__") [.ref x, .str "__class__" t]) _ _ _
  refine wpAny_call (codeAny_call_builtin PySem.F.excAttr_ValueError.ga.plain PySem.F.entry_bexc_ga ?_)
  refine @check_slot (model prog w) _ _ ⟨hp, g, d, t + 1, os⟩ "BaseException.__getattribute__" "BaseException" "__getattribute__" (.ref x) [.str "__class__" t] [] _ (by decide +kernel) (by decide +kernel) sub
    (PySem.F.args_bexc_ga (.ref x) (.str "__class__" t)) ?_
  unfold Builtin.«object.__getattribute__»
  refine wpAny_bind (wpAny_of_eq (a := ((Value.ref x : Value), [Value.str "__class__" t])) (by first | rfl | (simp only [slotArgs]; rfl)) ?_)
  refine wpAny_bind (wpAny_pure (wpAny_bind (l0.at (wpAny_bind (l3.at ?_)))))
  show wpAny _ _ (holding [Value.builtin "object.__class__"] (call (.builtin "getset_descriptor.__get__") [.builtin "object.__class__", .ref x, .ref C]) >>= ret) _ _ _
  refine wpAny_bind (wpAny_holding (wpAny_call (class_get (s := ⟨hp, g, d, t + 1, os⟩) (ox := ox) (od := od) X I J.mo ?_)))
  refine wpAny_pure ?_
  show wpAny _ _ (handedOut (.ref C)) _ _ _
  rw [handedOut_of (v := .ref C) rfl]
  first
    | exact wpAny_pure (wpAny_pure h)
    | exact wpAny_pure h
    | exact wpAny_pure (wpAny_bind (wpAny_pure (wpAny_pure h)))
open PySem.W in
theorem kitExc {x : Addr} {ox : Obj} {od : Option Obj} (O : OxC K C newId bmB) (J : OxI K C) (G : OxG K) : KitX K (.ref x) (.ref C) (fun h => PySem.W.InstAt h x ox C od) := by
  obtain ⟨cd, hc, _⟩ := O.cls
  unfold clsIn at hc
  split at hc
  · rename_i c' d' cd' sl' ho
    refine ⟨fun _ _ _ I => I.type, fun _ _ X _ => ?_, fun h tp dd its n sl X htp => ?_, fun X I k => askClass O J G X I k⟩
    · intro A' Q' E' s' k q
      unfold isType loadHead
      exact wpAny_bind (wpAny_loadPart (k _ _ (X _ _ ho)) (wpAny_pure q))
    · refine Bool.eq_false_iff.mpr fun q => ?_
      obtain rfl : C = tp := Value.ref.inj (beq_iff_eq.mp q)
      have z := (X _ _ ho).symm.trans htp
      cases z
  · cases hc
end
/-- isinstance(e, c) of an exception e that is not raised -/
def rIsX (K : PySem.W.Frag) : List V → Hp → VK → Prop := fun xs H Q => ∃ (a C : Addr) (d : Option Addr) (newId : String) (bmB : List Value) (c : V) (u : Value) (b : Bool), xs = [.ref a, c] ∧ OxC K C newId bmB ∧ OxI K C ∧ OxG K ∧ ClsV c u ∧ H a = some (exo a C d) ∧
  (d = none ∨ ∃ dx fs, d = some dx ∧ H dx = some (exd dx fs)) ∧ PySem.W.kitOne K (.ref C) u = some b ∧ Q (.bl b) H
theorem call_isX {X : Cx} : CallR X (.builtin "isinstance") (rIsX X.K) := by
  intro pins s σ H xs us Q I r h
  obtain ⟨a, C, d, newId, bmB, c, u, b, rfl, O, J, G, k, ea, ed, e, q⟩ := h
  obtain ⟨u1, u2, rfl, r1, r2⟩ := vals2 r
  obtain rfl : u1 = Value.ref a := r1
  obtain rfl := k.eq r2
  obtain ⟨t1, ho⟩ := exo_at I.hok ea
  have fin : ∀ od : Option Obj, PySem.W.InstAt s.heap a { cls := .ref C, dict := d, data := .fields #[.ref t1, .none, .none, .none, .bool false, .none] } C od → wpAny (model X.prog X.w) X.A (call (.builtin "isinstance") [.ref a, u2]) (EP X pins σ Q) X.xe s := fun od J' =>
    PySem.W.kia_one (kitExc O J G) I.kIn J' e (fun z => nomatch z) fun tk => ⟨.bl b, H, I.tok tk, rfl, q⟩
  rcases ed with rfl | ⟨dx, fs, rfl, hd⟩
  · exact fin none ⟨ho, rfl, rfl, trivial⟩
  · obtain ⟨mA, hns, _⟩ := exd_at I.hok hd
    obtain ⟨od, hod, _⟩ := lookIn_ns hns
    exact fin (some od) ⟨ho, rfl, rfl, hod⟩
end My
set_option Elab.async false
set_option maxRecDepth 100000
set_option maxHeartbeats 4000000
namespace My
open PySem L2
section
variable {K : PySem.W.Frag} {σ : L2.St} {H : Hp} {D : Ends} {Q : VK} {te ta tb : TE} {tt : TT} {t u : TS} {g : TG} {x y v : V} {tl : TA} {r : R2}
theorem g_seq (h : t { D with nx := u D } σ H) : tSeq t u D σ H := h
theorem g_asg (h : te σ H fun x H1 => g x σ H1 D.nx) : tAsg te g D σ H := h
theorem g_name {i : Nat} {R : L2.St → Hp → Prop} (h : R (σ.set i (some v)) H) : gName i v σ H R := h
theorem g_var {i : Nat} (e : σ[i]? = some (some v)) (h : Q v H) : tVar i σ H Q := ⟨v, e, h⟩
theorem g_c (h : Q v H) : tC v σ H Q := h
theorem g_op (h : ta σ H fun x H1 => tb σ H1 fun y H2 => r x y H2 Q) : tOp r ta tb σ H Q := h
theorem g_test {R : Bool → Hp → Prop} (h : te σ H fun x H' => ∃ k, x = .bl k ∧ R k H') : tTest te σ H R := h
theorem g_bl {b : Bool} {R : Bool → Prop} (h : R b) : ∃ k, V.bl b = .bl k ∧ R k := ⟨b, rfl, h⟩
theorem g_cb {rr : List V → Hp → VK → Prop} (h : tl σ H fun vs H1 => rr vs H1 Q) : tCB rr tl σ H Q := h
theorem g_cons {R : List V → Hp → Prop} (h : te σ H fun x H1 => tl σ H1 fun xs H2 => R (x :: xs) H2) : tCons te tl σ H R := h
theorem g_nil {R : List V → Hp → Prop} (h : R [] H) : tNil σ H R := h
theorem g_tif (h : tt σ H fun c H1 => if c = true then ta σ H1 Q else tb σ H1 Q) : tIf tt ta tb σ H Q := h
theorem g_ifs (h : tt σ H fun b H1 => if b = true then t D σ H1 else u D σ H1) : tIfS tt t u D σ H := h
theorem g_ret (h : te σ H D.rt) : tRet te D σ H := h
theorem g_drop (h : te σ H fun _ H1 => D.nx σ H1) : tDrop te D σ H := h
theorem g_next (h : D.nx σ H) : tNext D σ H := h
theorem g_i0 {f : Int → Int → V} {i j : Int} (h : Q (f i j) H) : rI0 f (.int i) (.int j) H Q := ⟨i, j, rfl, rfl, h⟩
theorem g_i {C : Int → Int → Prop} {f : Int → Int → V} {i j : Int} (c : C i j) (h : Q (f i j) H) : rI C f (.int i) (.int j) H Q := ⟨i, j, rfl, rfl, c, h⟩
def rInt : List V → Hp → VK → Prop := fun xs H Q => (∃ i, xs = [.int i] ∧ Q (.int i) H) ∨ ∃ k, xs = [.bl k] ∧ Q (.int (if k then 1 else 0)) H
def rAbs : List V → Hp → VK → Prop := fun xs H Q => ∃ i, xs = [.int i] ∧ Q (.int (if i < 0 then -i else i)) H
def rLen (K : PySem.W.Frag) : List V → Hp → VK → Prop := fun xs H Q => ∃ p ys, xs = [.ref p] ∧ (SqL K H p ys ∨ SqT K H p ys) ∧ Q (.int ys.length) H
theorem g_int {i : Int} (h : Q (.int i) H) : rInt [.int i] H Q := .inl ⟨i, rfl, h⟩
theorem g_abs {i : Int} (h : Q (.int (if i < 0 then -i else i)) H) : rAbs [.int i] H Q := ⟨i, rfl, h⟩
theorem g_len {p : Addr} {ys : List V} (e : SqL K H p ys ∨ SqT K H p ys) (h : Q (.int ys.length) H) : rLen K [.ref p] H Q := ⟨p, ys, rfl, e, h⟩
theorem g_ixL {p : Addr} {xs : List V} {i : Int} (e : SqL K H p xs) (a : atI xs i = some v) (h : Q v H) : rIxL K (.ref p) (.int i) H Q := ⟨p, xs, i, v, rfl, rfl, e, a, h⟩
theorem g_ixT {p : Addr} {xs : List V} {i : Int} (e : SqT K H p xs) (a : atI xs i = some v) (h : Q v H) : rIxT K (.ref p) (.int i) H Q := ⟨p, xs, i, v, rfl, rfl, e, a, h⟩
theorem g_ite {c : Prop} [Decidable c] {A B : Prop} (h1 : c → A) (h2 : ¬ c → B) : if decide c = true then A else B := by
  by_cases h : c
  · rw [decide_eq_true h]
    exact iteT (h1 h)
  · rw [decide_eq_false h]
    exact iteF (h2 h)
theorem g_iteT {c : Prop} [Decidable c] {A B : Prop} (hc : c) (h : A) : if decide c = true then A else B := by
  rw [decide_eq_true hc]
  exact iteT h
theorem g_iteF {c : Prop} [Decidable c] {A B : Prop} (hc : ¬ c) (h : B) : if decide c = true then A else B := by
  rw [decide_eq_false hc]
  exact iteF h
theorem g_iteNT {c : Prop} [Decidable c] {A B : Prop} (hc : ¬ c) (h : A) : if (!decide c) = true then A else B := by
  rw [decide_eq_false hc]
  exact iteT h
theorem g_iteNF {c : Prop} [Decidable c] {A B : Prop} (hc : c) (h : B) : if (!decide c) = true then A else B := by
  rw [decide_eq_true hc]
  exact iteF h
theorem g_or {tu : TT} {R : Bool → Hp → Prop} (h : tt σ H fun c H1 => if c = true then R true H1 else tu σ H1 R) : tOr tt tu σ H R := h
theorem g_and {tu : TT} {R : Bool → Hp → Prop} (h : tt σ H fun c H1 => if c = true then tu σ H1 R else R false H1) : tAnd tt tu σ H R := h
theorem g_not {R : Bool → Hp → Prop} (h : tt σ H fun c H1 => R (!c) H1) : tNot tt σ H R := h
end
/-! ### the heap as a list of what is known -/
structure Hs (H0 H : Hp) (O : List Addr) (L : List (Addr × HO)) : Prop where
  on : ∀ x ∈ L, H x.1 = some x.2
  nd : (L.map (·.1)).Nodup
  fr : ∀ b o, H0 b = some o → b ∉ L.map (·.1) → H b = some o
  nw : ∀ x ∈ L, x.1 ∉ O → H0 x.1 = none
section
variable {H0 H H' : Hp} {O : List Addr} {L : List (Addr × HO)} {p : Addr} {o o' : HO}
theorem Hs.get (h : Hs H0 H O L) (k : Nat) (e : L[k]? = some (p, o)) : H p = some o := h.on (p, o) (List.mem_of_getElem? e)
theorem Hs.notin (h : Hs H0 H O L) (n : H p = none) : p ∉ L.map (·.1) := fun m => by
  obtain ⟨x, hx, e⟩ := List.mem_map.mp m
  have q := h.on x hx
  rw [e, n] at q
  cases q
theorem Hs.fresh (h : Hs H0 H O L) (n : H p = none) : H0 p = none := by
  cases e : H0 p with
  | none => rfl
  | some o =>
    have q := h.fr p o e (h.notin n)
    rw [n] at q
    cases q
theorem Hs.start (h : H p = some o) : Hs H H [p] [(p, o)] := by
  refine ⟨fun x hx => ?_, List.nodup_cons.mpr ⟨(fun z => nomatch z), List.nodup_nil⟩, fun b o e _ => e, fun x hx z => ?_⟩
  · rw [List.mem_singleton.mp hx]
    exact h
  · rw [List.mem_singleton.mp hx] at z
    exact absurd List.mem_cons_self z
theorem Hs.start0 : Hs H H [] [] := ⟨(fun _ hx => nomatch hx), List.nodup_nil, (fun b o e _ => e), fun _ hx => nomatch hx⟩
theorem Hs.new (h : Hs H0 H O L) (n : H p = none) : Hs H0 (upd H p o) O ((p, o) :: L) := by
  refine ⟨fun x hx => ?_, List.nodup_cons.mpr ⟨h.notin n, h.nd⟩, fun b u e hb => ?_, fun x hx z => ?_⟩
  · rcases List.mem_cons.mp hx with e | e
    · rw [e]
      exact upd_same
    · rw [upd_ne (ne_of_none (h.on x e) n)]
      exact h.on x e
  · rw [List.map_cons, List.mem_cons, not_or] at hb
    rw [upd_ne hb.1]
    exact h.fr b u e hb.2
  · rcases List.mem_cons.mp hx with e | e
    · rw [e]
      exact h.fresh n
    · exact h.nw x e z
theorem Hs.same (h : Hs H0 H O L) (s : Same H H') : Hs H0 H' O L := ⟨fun x hx => s _ _ (h.on x hx), h.nd, fun b o e hb => s _ _ (h.fr b o e hb), h.nw⟩
theorem Hs.add (h : Hs H0 H O L) (s : Same H H') (n : H p = none) (e : H' p = some o) : Hs H0 H' O ((p, o) :: L) := by
  refine ⟨fun x hx => ?_, List.nodup_cons.mpr ⟨h.notin n, h.nd⟩, fun b u e hb => ?_, fun x hx z => ?_⟩
  · rcases List.mem_cons.mp hx with q | q
    · rw [q]
      exact e
    · exact s _ _ (h.on x q)
  · rw [List.map_cons, List.mem_cons, not_or] at hb
    exact s _ _ (h.fr b u e hb.2)
  · rcases List.mem_cons.mp hx with q | q
    · rw [q]
      exact h.fresh n
    · exact h.nw x q z
theorem Hs.put (h : Hs H0 H O L) (k : Nat) (e : L[k]? = some (p, o)) : Hs H0 (upd H p o') O (L.set k (p, o')) := by
  obtain ⟨hk, ek⟩ := List.getElem?_eq_some_iff.mp e
  have em : (L.set k (p, o')).map (·.1) = L.map (·.1) := by
    rw [List.map_set]
    show (L.map (·.1)).set k p = L.map (·.1)
    have q : (L.map (·.1))[k]'(by rw [List.length_map]; exact hk) = p := by rw [List.getElem_map, ek]
    conv => lhs; rw [← q]
    exact List.set_getElem_self _
  have nw : ∀ x ∈ L.set k (p, o'), x.1 ∉ O → H0 x.1 = none := fun x hx z => by
    have m : x.1 ∈ (L.set k (p, o')).map (·.1) := List.mem_map.mpr ⟨x, hx, rfl⟩
    rw [em] at m
    obtain ⟨y, hy, q⟩ := List.mem_map.mp m
    rw [← q] at z ⊢
    exact h.nw y hy z
  refine ⟨fun x hx => ?_, by rw [em]; exact h.nd, fun b u e1 hb => ?_, nw⟩
  · obtain ⟨j, hj, ej⟩ := List.getElem_of_mem hx
    rw [List.length_set] at hj
    by_cases hjk : j = k
    · subst hjk
      rw [List.getElem_set_self] at ej
      rw [← ej]
      exact upd_same
    · rw [List.getElem_set_ne (fun z => hjk z.symm)] at ej
      have hne : x.1 ≠ p := fun z => by
        have n1 : (L.map (·.1))[j]? = (L.map (·.1))[k]? := by
          rw [List.getElem?_map, List.getElem?_map, List.getElem?_eq_getElem hj, List.getElem?_eq_getElem hk, ej, ek]
          exact congrArg some z
        exact hjk ((List.getElem?_inj (by rw [List.length_map]; exact hj) h.nd).mp n1)
      rw [upd_ne hne]
      exact h.on x (by rw [← ej]; exact List.getElem_mem hj)
  · rw [em] at hb
    have hne : b ≠ p := fun z => hb (by rw [z]; exact List.mem_map.mpr ⟨(p, o), List.mem_of_getElem? e, rfl⟩)
    rw [upd_ne hne]
    exact h.fr b u e1 hb
/-- everything that was tracked ahead is as it was, where all that is known now was new -/
theorem Hs.kept (h : Hs H0 H [] L) : Same H0 H := fun b o e => h.fr b o e fun m => by
  obtain ⟨x, hx, q⟩ := List.mem_map.mp m
  have z := h.nw x hx (fun y => nomatch y)
  rw [q, e] at z
  cases z
/-- but for old objects, which stand as they stood -/
theorem Hs.keptB (h : Hs H0 H O L) (n : ∀ x ∈ L, x.1 ∈ O → H0 x.1 = some x.2) : Same H0 H := fun b o e => by
  by_cases m : b ∈ L.map (·.1)
  · obtain ⟨x, hx, q⟩ := List.mem_map.mp m
    by_cases z : x.1 ∈ O
    · have y := n x hx z
      rw [q, e] at y
      rw [← q, Option.some.inj y]
      exact h.on x hx
    · have y := h.nw x hx z
      rw [q, e] at y
      cases y
  · exact h.fr b o e m
/-- something more of the entry is told -/
theorem Hs.old {b : Addr} {u : HO} (h : Hs H0 H O L) (e : H0 b = some u) (n : b ∉ L.map (·.1)) : Hs H0 H (b :: O) ((b, u) :: L) := by
  refine ⟨fun x hx => ?_, List.nodup_cons.mpr ⟨n, h.nd⟩, fun c o q hc => ?_, fun x hx z => ?_⟩
  · rcases List.mem_cons.mp hx with q | q
    · rw [q]
      exact h.fr b u e n
    · exact h.on x q
  · rw [List.map_cons, List.mem_cons, not_or] at hc
    exact h.fr c o q hc.2
  · rw [List.mem_cons, not_or] at z
    rcases List.mem_cons.mp hx with q | q
    · rw [q] at z
      exact absurd rfl z.1
    · exact h.nw x q z.2
end
section
variable {H0 H : Hp} {O : List Addr} {L : List (Addr × HO)} {Q : VK} {σ : L2.St} {tl : TA}
/-- a new object is laid; then Q -/
def NewO (mk : List V → HO) (xs : List V) (H : Hp) (Q : VK) : Prop := xs.length ≤ sizeLine ∧ ∀ p, H p = none → Q (.ref p) (upd H p (mk xs))
theorem g_lst (h : tl σ H fun xs H1 => NewO .lst xs H1 Q) : tLst tl σ H Q := h
theorem g_tup (h : tl σ H fun xs H1 => NewO .tup xs H1 Q) : tTup tl σ H Q := h
theorem g_newo {mk : List V → HO} {xs : List V} (hs : Hs H0 H O L) (hl : xs.length ≤ 100000) (h : ∀ p H1, H p = none → Hs H0 H1 O ((p, mk xs) :: L) → Q (.ref p) H1) : NewO mk xs H Q :=
  ⟨Nat.le_trans hl (by decide), fun p hp => h p _ hp (hs.new hp)⟩
theorem Hs.mem {p : Addr} {o : HO} (h : Hs H0 H O L) (m : (p, o) ∈ L) : H p = some o := h.on (p, o) m
/-- the list of what is known, with another thing at p -/
inductive Put (p : Addr) (o o' : HO) : List (Addr × HO) → List (Addr × HO) → Prop where
  | head {L : List (Addr × HO)} : Put p o o' ((p, o) :: L) ((p, o') :: L)
  | tail {x : Addr × HO} {L L' : List (Addr × HO)} (h : Put p o o' L L') : Put p o o' (x :: L) (x :: L')
theorem Put.at {p : Addr} {o o' : HO} : ∀ {L L' : List (Addr × HO)}, Put p o o' L L' → ∃ k, L[k]? = some (p, o) ∧ L' = L.set k (p, o')
  | _, _, .head => ⟨0, rfl, rfl⟩
  | _, _, .tail h => by
    obtain ⟨k, e1, e2⟩ := h.at
    exact ⟨k + 1, by simpa using e1, by rw [e2]; rfl⟩
theorem Hs.putM {L' : List (Addr × HO)} {p : Addr} {o o' : HO} (h : Hs H0 H O L) (m : Put p o o' L L') : Hs H0 (upd H p o') O L' := by
  obtain ⟨k, e1, e2⟩ := m.at
  rw [e2]
  exact h.put k e1
/-- behind a call that changed the object at p alone -/
theorem Hs.call1 {H' : Hp} {L' : List (Addr × HO)} {p : Addr} {o o' : HO} (h : Hs H0 H O L) (m : Put p o o' L L') (c : Hs H H' [p] [(p, o')]) : Hs H0 H' O L' := by
  have q := h.putM m
  have e : ∀ b u, upd H p o' b = some u → H' b = some u := fun b u hb => by
    by_cases z : b = p
    · rw [z, upd_same] at hb
      rw [z, ← hb]
      exact c.on (p, o') List.mem_cons_self
    · rw [upd_ne z] at hb
      exact c.fr b u hb fun m => z (List.mem_singleton.mp m)
  exact ⟨fun x hx => e _ _ (q.on x hx), q.nd, (fun b u e1 hb => e _ _ (q.fr b u e1 hb)), q.nw⟩
theorem g_ixM {K : PySem.W.Frag} {p : Addr} {xs : List V} {i : Int} {v : V} {j : Nat} (hs : Hs H0 H O L) (m : (p, .lst xs) ∈ L) (hi : ixN xs.length i = some j) (hv : xs[j]? = some v) (h : Q v H) : rIxL K (.ref p) (.int i) H Q :=
  ⟨p, xs, i, v, rfl, rfl, SqL.of (hs.mem m), (by unfold atI; rw [hi]; exact hv), h⟩
theorem g_setM {L' : List (Addr × HO)} {p : Addr} {xs : List V} {i : Int} {v : V} {j : Nat} {R : Hp → Prop} (hs : Hs H0 H O L) (hi : ixN xs.length i = some j) (e : Put p (.lst xs) (.lst (xs.set j v)) L L') (h : ∀ H1, Hs H0 H1 O L' → R H1) : rSetL (.ref p) (.int i) v H R := by
  obtain ⟨k, e1, _⟩ := e.at
  exact ⟨p, xs, i, j, rfl, rfl, hs.get k e1, hi, h _ (hs.putM e)⟩
theorem g_ixH {K : PySem.W.Frag} {p : Addr} {xs : List V} {i : Int} {v : V} {j k : Nat} (hs : Hs H0 H O L) (e : L[k]? = some (p, .lst xs)) (hi : ixN xs.length i = some j) (hv : xs[j]? = some v) (h : Q v H) : rIxL K (.ref p) (.int i) H Q :=
  ⟨p, xs, i, v, rfl, rfl, SqL.of (hs.get k e), (by unfold atI; rw [hi]; exact hv), h⟩
theorem g_par {i j : Nat} {ta : TA} {D : Ends} (h : ta σ H fun vs H1 => ∃ v w, vs = [v, w] ∧ D.nx ((σ.set i (some v)).set j (some w)) H1) : tPar i j ta D σ H := h
theorem g_two {v w : V} {R : V → V → Prop} (h : R v w) : ∃ x y, [v, w] = [x, y] ∧ R x y := ⟨v, w, rfl, h⟩
theorem g_sub {to ti : TE} {t : V → V → V → Hp → (Hp → Prop) → Prop} {v : V} {R : L2.St → Hp → Prop} (h : to σ H fun o H1 => ti σ H1 fun i H2 => t o i v H2 fun H3 => R σ H3) : gSub to ti t v σ H R := h
theorem g_setL {p : Addr} {xs : List V} {i : Int} {v : V} {j k : Nat} {R : Hp → Prop} (hs : Hs H0 H O L) (e : L[k]? = some (p, .lst xs)) (hi : ixN xs.length i = some j) (h : ∀ H1, Hs H0 H1 O (L.set k (p, .lst (xs.set j v))) → R H1) : rSetL (.ref p) (.int i) v H R :=
  ⟨p, xs, i, j, rfl, rfl, hs.get k e, hi, h _ (hs.put k e)⟩
end
section
variable {X : Cx} {e : Expr} {te : TE} {p pos : Pos}
theorem pInt (z : X.mg "int" = none) (he : PE X e te) (hg : Gl X "int" := by rfl) (hs : starEach [e] X.env = (false, eval e X.env) :: starEach [] X.env := by rfl) : PE X (.Call (.Name "int" p) [e] [] pos) (tCB rInt (tCons te tNil)) :=
  pe_callTy call_int1 hg z PyProof.Rows.boot_int (pa_cons he pa_nil hs) (he := hs)
theorem pAbs (z : X.mg "abs" = none) (he : PE X e te) (hg : Gl X "abs" := by rfl) (hs : starEach [e] X.env = (false, eval e X.env) :: starEach [] X.env := by rfl) : PE X (.Call (.Name "abs" p) [e] [] pos) (tCB rAbs (tCons te tNil)) :=
  pe_callB call_abs hg z PyProof.Rows.boot_abs (pa_cons he pa_nil hs) (he := hs)
theorem pLen (z : X.mg "len" = none) (he : PE X e te) (hg : Gl X "len" := by rfl) (hs : starEach [e] X.env = (false, eval e X.env) :: starEach [] X.env := by rfl) : PE X (.Call (.Name "len" p) [e] [] pos) (tCB (rLen X.K) (tCons te tNil)) :=
  pe_callB call_len_seq hg z PySem.boot_len (pa_cons he pa_nil hs) (he := hs)
end
section
variable {H0 H : Hp} {O : List Addr} {L : List (Addr × HO)} {Q : VK}
theorem g_cat {l b : Addr} {xs zs : List V} (hs : Hs H0 H O L) (m1 : (l, .lst xs) ∈ L) (m2 : (b, .lst zs) ∈ L) (hz : xs.length + zs.length ≤ 100000) (h : ∀ p H1, H p = none → Hs H0 H1 O ((p, .lst (xs ++ zs)) :: L) → Q (.ref p) H1) : rCat (.ref l) (.ref b) H Q :=
  ⟨l, b, xs, zs, rfl, rfl, hs.mem m1, hs.mem m2, Nat.le_trans hz (by decide), fun p hp => h p _ hp (hs.new hp)⟩
end
end My
set_option Elab.async false
set_option maxRecDepth 100000
set_option maxHeartbeats 4000000
namespace My
open PySem PySem.Spec PyProof.Rows L2
/-- a def that wants to know that no repr is under way around it -/
structure FnG (P : Program) (w : World) (K : PySem.W.Frag) (mg : Str → Option Value) (base : Heap) (CX : CXT) (k : Nat) (f : Addr) (fd : FuncData) (ps : List Str) (sp : Sp) : Prop where
  len : ∀ vs H Q E, sp vs H Q E → vs.length = ps.length
  run : ∀ (A : Around) (outer : List Env) (s : Shared) (H : Hp) (args : Args) (us : List Value) (vs : List V) (Q : VK) (E : XK), Room k A → A.guards = some [] → Env0 P w K mg base A outer s H → BindsTo s fd args (ps.zip us) → Vals vs us → sp vs H Q E →
    codeAny (model P w) A (.call (.ref f) args) (CR CX outer P w H s Q E) s
section
variable {CX : CXT} {P : Program} {w : World} {K : PySem.W.Frag} {mg : Str → Option Value} {base : Heap} {k : Nat} {f : Addr}
theorem fnG_of {name qual : Str} {params : Arguments} {body : List Stmt} {scope : Scope} {dV kV doc pm cdv ct oc : Value} {an od : Option Addr}
    {osl : Array (Option Value)} {N ps : List Str} {sp : Sp} (lk : K.lookup f = some ⟨oc, od, .func (PySem.W.fnOf name qual params body scope dV kV doc pm an cdv ct), osl⟩) (hcd : PySem.W.codeIn K cdv qual = true) (S : FnScope N ps scope)
    (len : ∀ vs H Q E, sp vs H Q E → vs.length = ps.length)
    (hbody : ∀ (A : Around) (outer : List Env) (s : Shared) (H : Hp) (vs : List V) (Q : VK) (E : XK), Room k (A.deeper (envOfC qual scope s.heap.objs.size f cdv)) → (A.deeper (envOfC qual scope s.heap.objs.size f cdv)).guards = some [] → sp vs H Q E →
      ∃ t, PSs (cxOf CX P w K mg base N qual scope f cdv A outer s H E) body t ∧ t { nx := fun _ H' => Q .non H', rt := Q } (start N vs) H) :
    FnG P w K mg base CX (k + 1) f (PySem.W.fnOf name qual params body scope dV kV doc pm an cdv ct) ps sp := by
  refine ⟨len, fun A outer s H args us vs Q E hr hg e0 hb r hsp => ?_⟩
  have kx : K.In s.heap := e0.mod.kin.keeps fun b o e => (e0.bs b o e).1
  have lim : s.heap.NoLimit := e0.mod.nolimit.keeps fun b o e => (e0.bs b o e).1
  have kinds : ∀ y ∈ ps.zip us, scope.names.lookup y.1 = some .local ∨ (scope.names.lookup y.1 = some .cell ∧ ((cellsFrom (s.heap.objs.size + 1) scope.names []).lookup y.1).isSome = true) := by
    rintro ⟨n, v⟩ hy
    rcases S.par n (List.of_mem_zip hy).1 with q | q
    · exact .inl q
    · exact .inr ⟨q, PySem.W.cellsFrom_some _ _ _ (.inl q)⟩
  refine codeAny_call_function hr.depth (kx _ _ lk) rfl S.co S.gen rfl (PySem.W.codeRec_of kx hcd) (hb _ _ _ _ ?_)
  refine wpAny_newFunctionEnv_cells S.kind kinds fun env he s1 x => ?_
  subst he
  refine ⟨lim.keeps x.toInCall.keep, codeAny_func ?_⟩
  obtain ⟨t, ht, hq⟩ := hbody A outer s H vs Q E (hr.deeper _) hg hsp
  have I : Inv (cxOf CX P w K mg base N qual scope f cdv A outer s H E) [] (start N vs) H s1 := inv_start S hr.hd e0 (len _ _ _ _ hsp) r x
  have fin : ∀ {s' : Shared} {σ' : L2.St} {H' : Hp} {v : V} {u : Value}, Inv (cxOf CX P w K mg base N qual scope f cdv A outer s H E) [] σ' H' s' → RelV v u → Q v H' → CE outer P w H s Q u s' :=
    fun {_ _ H' v _} J rv q => ⟨v, H', J.os, J.bare, J.base, J.hok, rv, q⟩
  refine wpAny_mono (ht.run [] s1 (start N vs) H _ I hq) (fun fl s' hs => ?_) fun e s' hs => hs
  cases fl with
  | ret u =>
    obtain ⟨v, σ', H', J, rv, q⟩ := hs
    exact fin J rv q
  | next =>
    obtain ⟨σ', H', J, q⟩ := hs
    exact fin (v := V.non) (u := Value.none) J rfl q
  | brk =>
    obtain ⟨_, _, _, q⟩ := hs
    exact q.elim
  | cont =>
    obtain ⟨_, _, _, q⟩ := hs
    exact q.elim
theorem okG {x qual : Str} {st : Stmt} {fd : FuncData} {N ps : List Str} {sp : Sp} (F : Fun K x qual st f fd) (S : FnScope N ps (defScope st)) (len : ∀ vs H Q E, sp vs H Q E → vs.length = ps.length)
    (hbody : ∀ (cdv : Value) (A : Around) (outer : List Env) (s : Shared) (H : Hp) (vs : List V) (Q : VK) (E : XK), Room k (A.deeper (envOfC qual (defScope st) s.heap.objs.size f cdv)) → (A.deeper (envOfC qual (defScope st) s.heap.objs.size f cdv)).guards = some [] → sp vs H Q E →
      ∃ t, PSs (cxOf CX0 P w K mg base N qual (defScope st) f cdv A outer s H E).nox (defBody st) t ∧ t { nx := fun _ H' => Q .non H', rt := Q } (start N vs) H) : FnG P w K mg base CX0 (k + 1) f fd ps sp := by
  obtain ⟨oc, od, kV, doc, pm, an, cdv, ct, osl, rfl, lk, hcd⟩ := F.ex
  refine fnG_of lk hcd S len fun A outer s H vs Q E hr hg hsp => ?_
  obtain ⟨t, h, q⟩ := hbody cdv A outer s H vs Q E hr hg hsp
  exact ⟨t, h.nox, q⟩
end
section
variable {X : Cx} {CX : CXT} {k : Nat} {f : Addr} {fd : FuncData} {ps : List Str} {sp : Sp} {E : XK} {x : Str} {p pos : Pos} {e : Expr} {es : List Expr} {t : TA}
theorem pe_callG (F : FnG X.prog X.w X.K X.mg X.base CX k f fd ps sp) (hr : Room k X.A) (gd : X.A.guards = some []) (hg : Gl X x) (hm : X.mg x = some (.ref f)) (hk : PySem.W.keepIn X.K (.ref f) = true) (hb : Binds X.K fd ps []) (hx : Passes CX X E)
    (ha : PA X (e :: es) t) (hdb : (x == ("__debug__" : Str)) = false := by decide) (he : starEach (e :: es) X.env = (false, eval e X.env) :: starEach es X.env := by rfl) (hpl : (backTo pos (starEach es X.env)).any (·.1) = false := by rfl) :
    PE X (.Call (.Name x p) (e :: es) [] pos) (tCall sp [] E t) := by
  refine ⟨fun pins s σ H Q I h => ?_⟩
  refine wpAny_Call_Name_kw (ld_glob I hg hm ?_ hdb)
  refine PySem.W.callWith_K (h₀ := X.base) I.ok.mod.kin hk (thn (ha.run pos pins s σ H _ I h) fun us s1 ⟨vs, H1, I1, r, q⟩ => ⟨I1.kIn, ?_⟩) he hpl
  replace q : sp vs H1 Q E := by
    have z : sp (vs ++ []) H1 Q E := q
    rw [List.append_nil] at z
    exact z
  have hl : (us ++ []).length = ps.length := by
    rw [List.append_nil, ← r.length]
    exact F.len _ _ _ _ q
  have bd := hb s1 us I1.kIn hl
  rw [List.append_nil] at bd
  refine wpAny_call (codeAny_mono (F.run X.A X.stack s1 H1 ⟨us, []⟩ us vs Q E hr gd I1.env0 bd r q) fun r s' hq => ?_)
  cases r with
  | error er => exact hx pins σ _ _ er s' I1 hq
  | ok fl =>
    cases fl with
    | ret u => exact I1.after hq
    | next => exact False.elim hq
    | brk => exact False.elim hq
    | cont => exact False.elim hq
end
/-- the law is called where no repr is under way -/
theorem lawCallG {P : Program} {w : World} {K : PySem.W.Frag} {mg mb : Str → Option Value} {k : Nat} {fa a : Addr} {fd : FuncData} {x : Str} {sp : Sp} {s₁ : Shared} {vs : List Value} {ns : List Int}
    (kx : K.In s₁.heap) (hns : s₁.heap.Ns mainGlobals mg) (hb : s₁.heap.Ns builtinsNs mb) (hbb : ∀ x : Str, x ≠ "__name__" → mb x = bootBuiltins x) (lim : s₁.heap.NoLimit) (gens : s₁.gens = #[])
    (ha : s₁.heap.get? a = some { cls := .type "list", data := .seq vs.toArray }) (hi : IntsAre vs ns) (hl : ns.length ≤ sizeLine) (hr : Room k callerA)
    (F : ∀ base : Heap, K.In base → base.Ns mainGlobals mg → FnG P w K mg base CX0 k fa fd [x] sp) (hbind : ∀ (s : Shared) (u : Value), BindsTo s fd ⟨[u], []⟩ [(x, u)])
    (hsp : ∀ H : Hp, Only H → SqL K H a (ns.map V.int) → sp [.ref a] H (fun v _ => v = .bl true) fun _ _ _ => False) :
    codeAny (model P w) callerA (.call (.ref fa) ⟨[.ref a], []⟩) (fun r s' => r = .ok (.ret (.bool true)) ∧ OldK s₁.heap s'.heap ∧ s'.os = s₁.os ∧ AllBare s'.gens) s₁ := by
  have rv := vals_ints hi
  have go : ∀ H : Hp, Only H → SqL K H a (ns.map V.int) → HOk P w H s₁.heap → (∀ b, H b ≠ none → b = a ∧ K.lookup a = none) →
      codeAny (model P w) callerA (.call (.ref fa) ⟨[.ref a], []⟩) (fun r s' => r = .ok (.ret (.bool true)) ∧ OldK s₁.heap s'.heap ∧ s'.os = s₁.os ∧ AllBare s'.gens) s₁ := by
    intro H only hS hok hA
    have free : ∀ {b : Addr} {o : Obj}, s₁.heap.get? b = some o → (b = a → K.lookup a = none → False) → H b = none := fun {b o} e no => by
      cases q : H b with
      | none => rfl
      | some u =>
        obtain ⟨e1, e2⟩ := hA b (by rw [q]; simp)
        exact (no e1 e2).elim
    have dictFree : ∀ {b : Addr} {o : Obj} {es : Array DictEntry} {ep : Nat}, s₁.heap.get? b = some o → o.data = .dict es ep → H b = none := fun {b o es ep} e d => free e fun z _ => by
      rw [z, ha] at e
      cases e
      cases d
    have nsB : ∀ {b : Addr} {m : Str → Option Value}, s₁.heap.Ns b m → (hidT s₁.heap H).Ns b m := fun {b m} ⟨o, es, ep, e, d, r⟩ => ⟨o, es, ep, hidT_get e (dictFree e d), d, r⟩
    have kB : K.In (hidT s₁.heap H) := fun b o e => hidT_get (kx b o e) (free (kx b o e) fun z q => by
      rw [z, q] at e
      cases e)
    have mB : Mod K mg (hidT s₁.heap H) := ⟨kB, nsB hns, ⟨mb, nsB hb, hbb⟩, let ⟨mc, h1, h2⟩ := lim; ⟨mc, nsB h1, h2⟩⟩
    have e0 : Env0 P w K mg (hidT s₁.heap H) callerA [] s₁ H :=
      ⟨rfl, mB, fun b o e => of_hidT e, Nat.le_of_eq (hidT_size _ _), trivial, fun b hb => absurd (show b ∈ ([] : List Addr) from hb) (by simp), hok, .of_eq gens⟩
    refine codeAny_mono ((F _ kB (nsB hns)).run callerA [] s₁ H ⟨[.ref a], []⟩ [.ref a] [.ref a] _ _ hr rfl e0 (hbind s₁ (.ref a)) (.cons rfl .nil) (hsp H only hS)) fun r s' h => ?_
    rcases r with er | fl
    · exact False.elim h
    cases fl with
    | next => exact False.elim h
    | brk => exact False.elim h
    | cont => exact False.elim h
    | ret u =>
      obtain ⟨v, H', os, bare, un, hok', r', q⟩ := h
      obtain rfl : v = .bl true := q
      obtain rfl : u = Value.bool true := r'
      refine ⟨rfl, OldK.of_keep fun b o e => ?_, os, bare⟩
      cases q : H b with
      | none => exact un.keep b o e q (by intro z; exact absurd (show b ∈ ([] : List Addr) from z) (by simp)) (by simp)
      | some u =>
        rcases only b with z | ⟨ob, xs, z⟩
        · rw [q] at z
          cases z
        · obtain ⟨e1, _⟩ := hok b _ z
          obtain ⟨e2, _⟩ := hok' b _ (un.frzs b ob _ z)
          rw [e] at e1
          cases e1
          exact e2
  cases hk : K.lookup a with
  | some o =>
    have e := kx a o hk
    rw [ha] at e
    cases e
    exact go (fun _ => none) (fun _ => .inl rfl) (.inr ⟨_, vs.toArray, _, hk, rfl, rfl, rfl, by rw [List.size_toArray, hi.length]; exact hl, by simpa using rv⟩) (fun b u z => nomatch z) (fun b z => absurd rfl z)
  | none =>
    have at_ : ∀ {b : Addr} {u : HO}, (if b = a then some (HO.frz { cls := .type "list", data := .seq vs.toArray } (.lst (ns.map V.int))) else none) = some u → b = a ∧ u = HO.frz { cls := .type "list", data := .seq vs.toArray } (.lst (ns.map V.int)) := fun {b u} z => by
      by_cases hb : b = a
      · rw [if_pos hb] at z
        exact ⟨hb, (Option.some.inj z).symm⟩
      · rw [if_neg hb] at z
        cases z
    refine go (fun b => if b = a then some (.frz { cls := .type "list", data := .seq vs.toArray } (.lst (ns.map V.int))) else none) (fun b => ?_) (.inl (.inr ⟨{ cls := .type "list", data := .seq vs.toArray }, if_pos rfl⟩)) (fun b u z => ?_) (fun b z => ?_)
    · by_cases hb : b = a
      · exact .inr ⟨_, _, if_pos hb⟩
      · exact .inl (if_neg hb)
    · obtain ⟨rfl, rfl⟩ := at_ z
      exact ⟨ha, by rw [List.length_map]; exact hl, vs, _, rv, ha⟩
    · by_cases hb : b = a
      · exact ⟨hb, hk⟩
      · exact absurd (if_neg hb) z
theorem walkG {l : PySem.W.OpenLaw} {n k : Nat} {q : Program} {loose : List Str} {XP : (Str → Option Value) → Heap → Prop} {YP : World → Heap → Prop} {d : DefRec} {K : Params → PySem.W.Frag} {sp : World → Sp} {x : Str}
    (hn : l.most = some n) (hn2 : n ≤ sizeLine) (hdf : d.params.defaults = []) (hr : Room k callerA)
    (hY : ∀ (w : World) (h : Heap), YP w h → (K w.params).In h)
    (F : ∀ (w : World) (mg : Str → Option Value) (fa : Addr) (h : Heap), (K w.params).In h → h.Ns mainGlobals mg → mg d.name = some (.ref fa) →
      ∃ fd : FuncData, (∀ (s : Shared) (u : Value), BindsTo s fd ⟨[u], []⟩ [(x, u)]) ∧
        ∀ base : Heap, (K w.params).In base → base.Ns mainGlobals mg → FnG l.prog w (K w.params) mg base CX0 k fa fd [x] (sp w))
    (hsp : ∀ (w : World) (H : Hp) (a : Addr) (ns : List Int), ns.length ≤ n → Only H → SqL (K w.params) H a (ns.map V.int) → sp w [.ref a] H (fun v _ => v = .bl true) fun _ _ _ => False) :
    PySem.W.WalkO q loose XP YP l.row.toRowW d [] (fun f vs => PySem.call f vs) := by
  refine Att.attach_call hn hdf fun w s₀ s₁ mg mb fa o pm cd doc a vs ns G Y ho hd hcd hmg hobj hints hlen hg => ?_
  have kx := hY w _ Y
  obtain ⟨fd, hb, hF⟩ := F w mg fa _ kx G.T.g hmg
  exact lawCallG kx G.T.g G.T.b G.T.builtins G.T.nolimit hg hobj hints (Nat.le_trans hlen hn2) hr hF hb (fun H hO hS => hsp w H a ns hlen hO hS)
end My
set_option Elab.async false
set_option maxRecDepth 100000
set_option maxHeartbeats 4000000
namespace My
open PySem PySem.Spec PyProof.Rows L2
/-- what the __init__ of an exception with one field promises -/
def spI1 (C : Addr) (f : Str) : Sp := fun vs H Q _ => ∃ (a : Addr) (v : V), vs = [.ref a, v] ∧ H a = some (exo a C none) ∧ ∀ dx, H dx = none → dx ≠ a → Q .non (upd (upd H dx (exd dx [(f, v)])) a (exo a C (some dx)))
/-- .. with three, stored in this order -/
def spI3 (C : Addr) (f g h : Str) : Sp := fun vs H Q _ => ∃ (a : Addr) (x y z : V), vs = [.ref a, x, y, z] ∧ H a = some (exo a C none) ∧ ∀ dx, H dx = none → dx ≠ a →
  Q .non (upd (upd (upd (upd H dx (exd dx [(f, x)])) a (exo a C (some dx))) dx (exd dx [(g, y), (f, x)])) dx (exd dx [(h, z), (g, y), (f, x)]))
theorem upd3 {H : Hp} {a d : Addr} {o1 o2 o3 : HO} (h : d ≠ a) : upd (upd (upd H a o1) d o2) a o3 = upd (upd H d o2) a o3 := by
  funext b
  by_cases hb : b = a
  · rw [hb, upd_same, upd_same]
  · rw [upd_ne hb, upd_ne hb]
    by_cases hd : b = d
    · rw [hd, upd_same, upd_same]
    · rw [upd_ne hd, upd_ne hd, upd_ne hb]
theorem none_of {H : Hp} {a d : Addr} {o : HO} (h : upd H a o d = none) : H d = none ∧ d ≠ a := by
  have ne : d ≠ a := fun z => by
    rw [z, upd_same] at h
    cases h
  rw [upd_ne ne] at h
  exact ⟨h, ne⟩
/-- what is known of an exception class with an own __init__ -/
structure XCls (P : Program) (w : World) (K : PySem.W.Frag) (mg : Str → Option Value) (base : Heap) (x : Str) (C fI : Addr) (B newId initId : String) (bmB : List Value) (ps : List Str) (sp : Sp) (fd : FuncData) : Prop where
  F : ExcBaseFacts B newId initId bmB
  T : Tail bmB
  O : OxC K C newId bmB
  J : OxI K C
  iC : PySem.W.findIn K (.ref C) "__init__" = some (some (.ref fI))
  tI : PySem.W.typeIn K (.ref fI) = some (.type "function")
  ok : FnOk P w K mg base CX0 1 fI fd ps sp
  bd : Binds K fd ps []
  mx : mg x = some (.ref C)
theorem kbOf {K : PySem.W.Frag} {x qual : Str} {st : Stmt} {f : Addr} {fd : FuncData} {ps ks : List Str} {n : Nat} {g : List Value → List Value → List Value} {gV : List V → List V → List V} (F : Fun K x qual st f fd)
    (h : ∀ (kV doc pm : Value) (an : Option Addr) (cdv ct : Value) (us ws : List Value), us.length = n → ws.length = ks.length → bindArgs (PySem.W.fnOf x qual (defArgs st) (defBody st) (defScope st) .none kV doc pm an cdv ct) ⟨us, ks.zip ws⟩ = pure (ps.zip (g us ws)))
    (rel : ∀ {vs : List V} {us : List Value} {zs : List V} {ws : List Value}, Vals vs us → Vals zs ws → Vals (gV vs zs) (g us ws)) : KBn K fd ps n ks g gV := by
  obtain ⟨oc, od, kV, doc, pm, an, cdv, ct, osl, rfl, lk, hcd⟩ := F.ex
  exact ⟨fun s us ws _ l1 l2 => .of_eq (h kV doc pm an cdv ct us ws l1 l2), rel⟩
section
variable {X : Cx} {x : Str} {C fI : Addr} {B newId initId : String} {bmB : List Value} {ps ks : List Str} {fd : FuncData} {e : Expr} {es : List Expr} {ta tk : TA} {p pos : Pos} {kws : List Keyword} {sp : Sp} {g : List Value → List Value → List Value} {gV : List V → List V → List V}
theorem pX (T : XCls X.prog X.w X.K X.mg X.base x C fI B newId initId bmB ps sp fd) (hr : Room 2 X.A) (ha : PA X (e :: es) ta) (hg : Gl X x := by rfl) (hdb : (x == ("__debug__" : Str)) = false := by decide) (hs : starEach (e :: es) X.env = (false, eval e X.env) :: starEach es X.env := by rfl)
    (hpl : (backTo pos (starEach es X.env)).any (·.1) = false := by rfl) : PE X (.Call (.Name x p) (e :: es) [] pos) (tXmk C sp ta) :=
  pe_xmk T.F T.O T.iC T.tI T.ok hr T.bd pass0 hg T.mx ha hdb hs hpl
theorem pXk (T : XCls X.prog X.w X.K X.mg X.base x C fI B newId initId bmB ps sp fd) (kb : KBn X.K fd ps 1 ks g gV) (hr : Room 2 X.A) (hk : PK X kws tk) (hg : Gl X x := by rfl) (hdb : (x == ("__debug__" : Str)) = false := by decide)
    (hall : (backToKw pos (keywordEach kws X.env)).all (·.1.isSome) = true := by rfl) (hks : (backToKw pos (keywordEach kws X.env)).filterMap (·.1) = ks := by rfl)
    (hpl : ((backTo pos (starEach [] X.env)).any (·.1) || (backToKw pos (keywordEach kws X.env)).any (·.1.isNone)) = false := by rfl) : PE X (.Call (.Name x p) [] kws pos) (tXmkK C ks.length sp gV tk) :=
  pe_xmkK T.F T.O T.iC T.tI T.ok hr kb pass0 hg T.mx hk hall hks hdb hpl
end
section
variable {H0 H : Hp} {O : List Addr} {L : List (Addr × HO)} {Q : VK} {C : Addr} {f g h : Str} {v x y z : V} {σ : L2.St} {ta tk : TA} {sp : Sp} {gV : List V → List V → List V} {m : Nat} {E : XK}
/-- an exception is made by its __init__; then Q -/
def XNew (C : Addr) (sp : Sp) (vs : List V) (H : Hp) (Q : VK) : Prop := vs.length ≤ 1000 ∧ ∀ a, H a = none → sp (.ref a :: vs) (upd H a (exo a C none)) (fun v H2 => v = .non ∧ Q (.ref a) H2) (fun _ _ _ => False)
def XNewK (C : Addr) (m : Nat) (sp : Sp) (gV : List V → List V → List V) (zs : List V) (H : Hp) (Q : VK) : Prop := zs.length = m ∧ ∀ a, H a = none → sp (gV [.ref a] zs) (upd H a (exo a C none)) (fun v H2 => v = .non ∧ Q (.ref a) H2) (fun _ _ _ => False)
theorem g_xmk (q : ta σ H fun vs H1 => XNew C sp vs H1 Q) : tXmk C sp ta σ H Q := q
theorem g_xmkK (q : tk σ H fun zs H1 => XNewK C m sp gV zs H1 Q) : tXmkK C m sp gV tk σ H Q := q
theorem g_xmk0 (hs : Hs H0 H O L) (q : ∀ a H1, Hs H0 H1 O ((a, exo a C none) :: L) → Q (.ref a) H1) : tXmk0 C σ H Q := fun a ha => q a _ (hs.new ha)
theorem i1_ok (hs : Hs H0 H O L) (q : ∀ a d H1, Hs H0 H1 O ((a, exo a C (some d)) :: (d, exd d [(f, v)]) :: L) → Q (.ref a) H1) : ∀ a, H a = none → spI1 C f [.ref a, v] (upd H a (exo a C none)) (fun y H2 => y = .non ∧ Q (.ref a) H2) E := by
  intro a ha
  refine ⟨a, v, rfl, upd_same, fun dx hd ne => ⟨rfl, ?_⟩⟩
  obtain ⟨hd', _⟩ := none_of hd
  rw [upd3 ne]
  exact q a dx _ ((hs.new hd').new (by rw [upd_ne (fun z => ne z.symm)]; exact ha))
theorem g_x1 (hs : Hs H0 H O L) (q : ∀ a d H1, Hs H0 H1 O ((a, exo a C (some d)) :: (d, exd d [(f, v)]) :: L) → Q (.ref a) H1) : XNew C (spI1 C f) [v] H Q :=
  ⟨(by show 1 ≤ 1000; omega), i1_ok hs q⟩
theorem g_x1k (hs : Hs H0 H O L) (q : ∀ a d H1, Hs H0 H1 O ((a, exo a C (some d)) :: (d, exd d [(f, v)]) :: L) → Q (.ref a) H1) : XNewK C [f].length (spI1 C f) (fun vs zs => vs ++ zs) [v] H Q :=
  ⟨rfl, i1_ok hs q⟩
theorem i3_ok (hs : Hs H0 H O L) (q : ∀ a d H1, Hs H0 H1 O ((a, exo a C (some d)) :: (d, exd d [(h, z), (g, y), (f, x)]) :: L) → Q (.ref a) H1) : ∀ a, H a = none → spI3 C f g h [.ref a, x, y, z] (upd H a (exo a C none)) (fun y H2 => y = .non ∧ Q (.ref a) H2) E := by
  intro a ha
  refine ⟨a, x, y, z, rfl, upd_same, fun dx hd ne => ⟨rfl, ?_⟩⟩
  obtain ⟨hd', _⟩ := none_of hd
  rw [upd3 ne]
  have n1 : upd H dx (exd dx [(f, x)]) a = none := by
    rw [upd_ne (fun z => ne z.symm)]
    exact ha
  have h1 := (hs.new (o := exd dx [(f, x)]) hd').new (o := exo a C (some dx)) n1
  have h2 := h1.put (o' := exd dx [(g, y), (f, x)]) 1 rfl
  exact q a dx _ (h2.put (o' := exd dx [(h, z), (g, y), (f, x)]) 1 rfl)
theorem g_x3 (hs : Hs H0 H O L) (q : ∀ a d H1, Hs H0 H1 O ((a, exo a C (some d)) :: (d, exd d [(h, z), (g, y), (f, x)]) :: L) → Q (.ref a) H1) : XNew C (spI3 C f g h) [x, y, z] H Q :=
  ⟨(by show 3 ≤ 1000; omega), i3_ok hs q⟩
end
end My
set_option Elab.async false
set_option maxRecDepth 100000
set_option maxHeartbeats 4000000
namespace My
open PySem PySem.Spec PyProof.Rows L2
def top (i : Nat) : Stmt := PySem.Challenge.pw_everyload_k01_loads_made.main.body.getD i (.Pass ⟨0, 0, 0, 0⟩)
abbrev sSource : Stmt := top 40
abbrev sPull : Stmt := top 41
abbrev sIsNumber : Stmt := top 18
abbrev sIsAtLeast : Stmt := top 19
abbrev sIsName : Stmt := top 20
abbrev sPlainName : Stmt := top 21
abbrev sIsPair : Stmt := top 23
abbrev sWrong : Stmt := top 24
abbrev sByName : Stmt := top 26
abbrev sPlainPairs : Stmt := top 27
abbrev sFig : Stmt := top 12
abbrev sLaw : Stmt := top 49
abbrev sLoadInit : Stmt := inClass (top 38) 0
abbrev sOf : Stmt := inClass (top 38) 1
abbrev sSize : Stmt := inClass (top 38) 5
abbrev sRepr : Stmt := inClass (top 38) 22
abbrev s_read_figures : Stmt := top 13
abbrev s_are_ascending : Stmt := top 25
abbrev s_added : Stmt := top 28
abbrev s_first_lacking : Stmt := top 29
abbrev s_taken_away : Stmt := top 30
abbrev s_greater_of_both : Stmt := top 31
abbrev s_lesser_of_both : Stmt := top 32
abbrev s_multiplied : Stmt := top 33
abbrev s_pairs_text : Stmt := top 34
abbrev s_read_pairs : Stmt := top 35
abbrev s_read_pair : Stmt := top 36
abbrev s__law_tags : Stmt := top 42
abbrev s__law_error : Stmt := top 43
abbrev s__law_count : Stmt := top 44
abbrev s__law_load : Stmt := top 45
abbrev s__law_shown_right : Stmt := top 46
abbrev s__law_bent_right : Stmt := top 47
abbrev s__law_right : Stmt := top 48
abbrev s_NotALoad___init__ : Stmt := inClass (top 3) 0
abbrev s_InvalidName___init__ : Stmt := inClass (top 4) 0
abbrev s_InvalidText___init__ : Stmt := inClass (top 5) 0
abbrev s_InvalidNumber___init__ : Stmt := inClass (top 6) 0
abbrev s_InvalidPairs___init__ : Stmt := inClass (top 7) 0
abbrev s_Lacking___init__ : Stmt := inClass (top 8) 0
abbrev s_Load_read : Stmt := inClass (top 38) 2
abbrev s_Load_pairs : Stmt := inClass (top 38) 3
abbrev s_Load_names : Stmt := inClass (top 38) 4
abbrev s_Load___getitem__ : Stmt := inClass (top 38) 6
abbrev s_Load___iter__ : Stmt := inClass (top 38) 7
abbrev s_Load___contains__ : Stmt := inClass (top 38) 8
abbrev s_Load___len__ : Stmt := inClass (top 38) 9
abbrev s_Load___add__ : Stmt := inClass (top 38) 10
abbrev s_Load___sub__ : Stmt := inClass (top 38) 11
abbrev s_Load___or__ : Stmt := inClass (top 38) 12
abbrev s_Load___and__ : Stmt := inClass (top 38) 13
abbrev s_Load___mul__ : Stmt := inClass (top 38) 14
abbrev s_Load___rmul__ : Stmt := inClass (top 38) 15
abbrev s_Load___le__ : Stmt := inClass (top 38) 16
abbrev s_Load___lt__ : Stmt := inClass (top 38) 17
abbrev s_Load___ge__ : Stmt := inClass (top 38) 18
abbrev s_Load___gt__ : Stmt := inClass (top 38) 19
abbrev s_Load___eq__ : Stmt := inClass (top 38) 20
abbrev s_Load___str__ : Stmt := inClass (top 38) 21
end My
set_option Elab.async false
set_option maxRecDepth 100000
set_option maxHeartbeats 4000000
namespace My
open PySem PySem.Spec PyProof.Rows L2
/-! ### repr of what is tracked, own instances among it -/
/-- there is room around for k calls and d looks within one another -/
structure Rm (X : Cx) (k d : Nat) (A : Around) : Prop where
  hd : A.handled = none
  dp : A.depth + 3 * k + 5 + 2 * d < recursionLimit
  un : A.units + 16 * k + 200 + 2 * d < cLine
  fr : A.frames = some X.stack
/-- repr(x) is t, wherever what is tracked in H is tracked; as: the lists that are looked through -/
def RV (X : Cx) (k : Nat) (H : Hp) (as : List Addr) (d : Nat) (x : V) (t : Str) : Prop := ∀ H1, Same H H1 → ∀ u, RelV x u → ∀ base, base + t.length ≤ sizeLine → ∀ (σ : L2.St) (pins : List (Addr × Obj)) (A : Around) (g : List Code) (E : Value → Shared → Prop) (s : Shared) (Q : Str → Shared → Prop),
  A.guards = some g → (∀ b ∈ as, Clear g b) → Rm X k d A → Inv X pins σ H1 s → (∀ H2 s', Same H1 H2 → Inv X pins σ H2 s' → Q t s') → wpAny (model X.prog X.w) A (pyReprUnder base u) Q E s
theorem RV.mono {X : Cx} {k : Nat} {H H' : Hp} {as as' : List Addr} {d d' : Nat} {x : V} {t : Str} (h : RV X k H as d x t) (e : Same H H') (ha : ∀ b ∈ as, b ∈ as') (hd : d ≤ d') : RV X k H' as' d' x t :=
  fun H1 e1 u r base hb σ pins A g E s Q hg hc R I q => h H1 (e.trans e1) u r base hb σ pins A g E s Q hg (fun b hm => hc b (ha b hm)) ⟨R.hd, by have := R.dp; omega, by have := R.un; omega, R.fr⟩ I q
theorem RV.is {X : Cx} {k : Nat} {H : Hp} {as : List Addr} {d : Nat} {x : V} {t : Str} (h : ∀ u, RelV x u → ReprIs X.prog X.w u t) : RV X k H as d x t :=
  fun H1 _ u r base hb _ _ A _ E s _ _ _ _ I q => h u r base hb A E s _ fun tk => q H1 _ (Same.refl H1) (I.tok tk)
theorem RV.non {X : Cx} {k : Nat} {H : Hp} {as : List Addr} {d : Nat} : RV X k H as d .non "None" := .is fun u r => by
  cases (show u = Value.none from r)
  exact ReprIs.none
theorem RV.bl {X : Cx} {k : Nat} {H : Hp} {as : List Addr} {d : Nat} (b : Bool) : RV X k H as d (.bl b) (if b then "True" else "False") := .is fun u r => by
  cases (show u = Value.bool b from r)
  exact ReprIs.bool b
theorem RV.int {X : Cx} {k : Nat} {H : Hp} {as : List Addr} {d : Nat} {i : Int} (hi : i.natAbs.log2 < 1920) : RV X k H as d (.int i) (toString i) := .is fun u r => by
  obtain ⟨t, q⟩ := (show ∃ t, u = Value.int i t from r)
  cases q
  exact ReprIs.int t hi
theorem RV.str {X : Cx} {k : Nat} {H : Hp} {as : List Addr} {d : Nat} {y : Str} (hy : (reprText y).length ≤ sizeLine) : RV X k H as d (.str y) (reprText y) := .is fun u r => by
  obtain ⟨t, q⟩ := (show ∃ t, u = Value.str y t from r)
  cases q
  exact ReprIs.str y t hy
/-- a tuple of leaves -/
theorem RV.tup {X : Cx} {k : Nat} {H : Hp} {a : Addr} {xs : List V} {ts : List Str} {d : Nat} (e : H a = some (.tup xs)) (hl : ts.length = xs.length) (h : ∀ (i : Nat) (x : V) (t : Str), xs[i]? = some x → ts[i]? = some t → ∀ u, RelV x u → ReprIs X.prog X.w u t) :
    RV X k H [a] (d + 1) (.ref a) (tupleText ts) := by
  intro H1 e1 u r base hb σ pins A g E s Q hg hc R I q
  cases (show u = Value.ref a from r)
  obtain ⟨_, its, rv, o, h1, h2, n, h3⟩ := (show ObjOk X.prog X.w H1 s.heap a (.tup xs) from I.hok a _ (e1 _ _ e))
  have all : ∀ (ys : List V) (us : List Value) (zs : List Str), Vals ys us → zs.length = ys.length → (∀ (i : Nat) (x : V) (t : Str), ys[i]? = some x → zs[i]? = some t → ∀ u, RelV x u → ReprIs X.prog X.w u t) → ReprAllK X.prog X.w [] s.heap d us zs := by
    intro ys us zs r
    induction r generalizing zs with
    | nil =>
      intro hz _
      cases zs with
      | nil => exact .nil
      | cons _ _ => cases hz
    | cons r0 _ ih =>
      intro hz hh
      cases zs with
      | nil => cases hz
      | cons z zs => exact .cons (.of_is (hh 0 _ z rfl rfl _ r0) _ _ _) (ih zs (Nat.succ.inj hz) fun i x t e1 e2 => hh (i + 1) x t (by simpa using e1) (by simpa using e2))
  have K := ReprK.tuple (prog := X.prog) (w := X.w) (h₀ := s.heap) (as := []) (d := d) h1 h2 h3 (by simp) (all xs its ts rv hl h)
  exact K base hb A g E s Q hg hc (by have := R.un; omega) (fun _ _ z => z) fun h' tk kp => q H1 _ (Same.refl H1) (I.kept kp)
/-! ### the pins of a state -/
section
variable {X : Cx} {pins : List (Addr × Obj)} {σ : L2.St} {H : Hp} {s : Shared}
/-- a new object, pinned -/
theorem inv_pinNew {o : Obj} (I : Inv X pins σ H s) (hf : o.isFreed = false) (hd : ∀ v, o.data ≠ .cell v) : Inv X ((s.heap.objs.size, o) :: pins) σ H { s with heap := s.heap.push o } := by
  have J : Inv X pins σ H { s with heap := s.heap.push o } := I.kept (t' := s.toks) fun b u e => Heap.get?_push_of_some _ e
  refine J.pins_of fun p hp => ?_
  rcases List.mem_cons.mp hp with e | e
  · rw [e]
    exact ⟨Heap.get?_push_size _ hf, I.hok.fresh (Nat.le_refl _), Nat.ne_of_gt I.lt, I.nofs (Nat.le_refl _), hd⟩
  · exact J.pin p (List.mem_append_right _ e)
theorem inv_unpin {p : Addr × Obj} (I : Inv X (p :: pins) σ H s) : Inv X pins σ H s := I.pins_of fun q hq => I.pin q (List.mem_append_right _ (List.mem_cons_of_mem _ hq))
/-- a pinned object of ours turns -/
theorem inv_repin {P : Addr} {o o' : Obj} {h' : Heap} {t' : Nat} (I : Inv X ((P, o) :: pins) σ H s) (np : ∀ p ∈ X.pn ++ pins, p.1 ≠ P) (big : X.s_0.heap.objs.size ≤ P) (hd : ∀ v, o'.data ≠ .cell v) (hP : h'.get? P = some o') (k : ∀ b u, b ≠ P → s.heap.get? b = some u → h'.get? b = some u) :
    Inv X ((P, o') :: pins) σ H { s with heap := h', toks := t' } := by
  obtain ⟨e, n, ne, nf, d⟩ := I.pin (P, o) (List.mem_append_right _ List.mem_cons_self)
  have nc : ∀ x c, X.env.cells.lookup x = some c → c ≠ P := fun x c ec z => by
    obtain ⟨v, oc, ho, hv⟩ := I.cell x c ec
    rw [z, e] at ho
    cases ho
    exact d v hv
  have J : Inv X pins σ H { s with heap := h', toks := t' } := (inv_unpin I).turned (it := P) k n ne (.inr big) nc np
  refine J.pins_of fun p hp => ?_
  rcases List.mem_cons.mp hp with q | q
  · rw [q]
    exact ⟨hP, n, ne, nf, hd⟩
  · exact J.pin p (List.mem_append_right _ q)
end
/-- the list of the texts so far -/
abbrev parts (acc : Array Value) (c : Nat) : Obj := { cls := .type "list", dict := none, data := .seq acc c, slots := #[] }
theorem rm_loop {X : Cx} {k d : Nat} {A : Around} (R : Rm X k (d + 1) A) (args : Args) : Rm X k d (A.under (.builtin "list.__repr__.loop" args)) := by
  have e1 : (A.under (.builtin "list.__repr__.loop" args)).depth = A.depth + 1 := by
    have z : (Code.builtin "list.__repr__.loop" args).isGuard = true := isGuard_list_loop args
    first | rfl | simp [Around.under, Code.weight, Code.isCreation, Code.isCaller, Code.frames, Code.isFrame, z]
  have e2 := units_under_list_loop A args
  refine ⟨R.hd, by have := R.dp; omega, by have := R.un; omega, ?_⟩
  first | exact R.fr | (simpa [Around.under, Code.envs, Code.isFrame, pushEnvs] using R.fr)
theorem list_loop {X : Cx} {k d : Nat} {H : Hp} {as : List Addr} {a P : Addr} {xs : List V} {ts : List Str} {base : Nat} {g : List Code} {A : Around} {R : Result → Shared → Prop} {σ : L2.St} {pins : List (Addr × Obj)}
    (e : H a = some (.lst xs)) (hl : ts.length = xs.length) (hT : ∀ (i : Nat) (x : V) (t : Str), xs[i]? = some x → ts[i]? = some t → RV X k H as d x t) (hg : A.guards = some g) (hc : ∀ b ∈ as, Clear g b) (na : a ∉ as) (rm : Rm X k (d + 1) A)
    (big : X.s_0.heap.objs.size ≤ P) (np : ∀ p ∈ X.pn ++ pins, p.1 ≠ P) (hsz : base + (listText ts).length ≤ sizeLine) :
    ∀ (n i : Nat) (s : Shared) (H1 : Hp) (acc : Array Value) (c : Nat) (done : List (Str × Tok)), xs.length - i = n → i ≤ xs.length → Same H H1 → Inv X ((P, parts acc c) :: pins) σ H1 s → acc.toList = strValues done → done.map (·.1) = ts.take i →
    (∀ H2 s' u, Same H1 H2 → Inv X pins σ H2 s' → R (.ok (.ret (.str (listText ts) u))) s') →
    codeAny (model X.prog X.w) A (.builtin "list.__repr__.loop" ⟨[.ref a, rawInt i, .ref P, rawInt ((base + piled (ts.take i) : Nat) : Int)], []⟩) R s := by
  have whole : (listText ts).length = (textFrom 0 "[" ts).length + 1 := by
    show (textFrom 0 "[" ts ++ "]").length = _
    rw [strLen_append]
    rfl
  have low := textFrom_len ts 0 "["
  have fits : ∀ t ∈ ts, t.length ≤ sizeLine := fun t ht => by
    have q := low.2.1 t ht
    omega
  have few : xs.length ≤ sizeLine := by
    have q := low.1
    rw [if_neg (Nat.lt_irrefl 0)] at q
    omega
  have pl := piled_le_listText ts
  intro n
  induction n with
  | zero =>
    intro i s H1 acc c done hn hi e1 I hacc hdone hR
    have hin : i = xs.length := by omega
    obtain ⟨_, its, m, rv, ho⟩ := (show ObjOk X.prog X.w H1 s.heap a (.lst xs) from I.hok a _ (e1 _ _ e))
    have hP := (I.pin (P, parts acc c) (List.mem_append_right _ List.mem_cons_self)).1
    refine codeAny_builtin F.entry_list_repr_loop ?_
    show wpAny _ _ (Builtin.«list.__repr__.loop» ⟨[.ref a, .int i 0, .ref P, .int ((base + piled (ts.take i) : Nat) : Int) 0], []⟩) _ _ s
    rw [repr_loop_tree]
    refine wpAny_bind (wpAny_listItems ho rfl ?_)
    have stop : its.toArray[(i : Int).toNat]? = none := by simp [hin, rv.length]
    simp only [stop]
    unfold reprEnd
    refine wpAny_bind (wpAny_listItems hP rfl ?_)
    rw [hacc, repr_fold]
    refine wpAny_bind (wpAny_pure ?_)
    have all : done.map (·.1) = ts := by rw [hdone, hin, ← hl, List.take_length]
    rw [all]
    refine wpAny_bind (wpAny_mkStr (wpAny_pure ?_) (by show (listText ts).length ≤ sizeLine; omega))
    exact hR H1 _ _ (Same.refl H1) ((inv_unpin I).tok _)
  | succ n ih =>
    intro i s H1 acc c done hn hi e1 I hacc hdone hR
    have hlt : i < xs.length := by omega
    have hlt2 : i < ts.length := by omega
    obtain ⟨_, its, m, rv, ho⟩ := (show ObjOk X.prog X.w H1 s.heap a (.lst xs) from I.hok a _ (e1 _ _ e))
    have hx : xs[i]? = some xs[i] := List.getElem?_eq_getElem hlt
    have ht : ts[i]? = some ts[i] := List.getElem?_eq_getElem hlt2
    obtain ⟨u, hu, ru⟩ := rv.get hx
    have p1 := piled_take_succ ht
    have p2 := piled_take_le ts (i + 1)
    refine codeAny_builtin F.entry_list_repr_loop ?_
    show wpAny _ _ (Builtin.«list.__repr__.loop» ⟨[.ref a, .int i 0, .ref P, .int ((base + piled (ts.take i) : Nat) : Int) 0], []⟩) _ _ s
    rw [repr_loop_tree]
    refine wpAny_bind (wpAny_listItems ho rfl ?_)
    have go : its.toArray[(i : Int).toNat]? = some u := by
      rw [Int.toNat_natCast]
      simpa using hu
    simp only [go]
    rw [Int.toNat_natCast]
    refine wpAny_bind (wpAny_holding (hT i _ _ hx ht H1 e1 u ru (base + piled (ts.take i) + 1) (by omega) σ _ _ _ _ s _ (guards_under_guard (isGuard_list_loop _) hg) (fun b hb => (hc b hb).cons (a := a) fun z => na (z ▸ hb)) (rm_loop rm _) I fun H2 s2 e2 I2 => ?_))
    refine wpAny_bind (wpAny_mkStr ?_ (fits _ (List.mem_of_getElem? ht)))
    refine wpAny_bind ?_
    show wpAny _ _ (updateSeq P _) _ _ _
    have small : acc.size ≤ sizeLine := by
      have z1 : acc.toList.length = acc.size := by simp
      have z2 : (strValues done).length = done.length := by simp [strValues]
      have z3 : done.length = (ts.take i).length := by rw [← hdone, List.length_map]
      have z4 : (ts.take i).length ≤ i := by
        rw [List.length_take]
        omega
      rw [hacc] at z1
      omega
    have I3 := I2.tok (s2.toks + 1)
    have hP := (I3.pin (P, parts acc c) (List.mem_append_right _ List.mem_cons_self)).1
    refine wpAny_updateSeq hP rfl (wpAny_pure ⟨F.quiet_list_repr_loop _, ?_⟩) small
    have j1 : ((i : Int) + 1) = ((i + 1 : Nat) : Int) := by omega
    have j2 : base + piled (ts.take i) + (ts[i].length + 2) = base + piled (ts.take (i + 1)) := by omega
    rw [j1, j2]
    refine ih (i + 1) _ H2 (acc.push (.str ts[i] s2.toks)) _ (done ++ [(ts[i], s2.toks)]) (by omega) hlt (e1.trans e2) (inv_repin I3 np big (fun v z => nomatch z) (Heap.get?_update_self _ hP rfl) fun b u hb q => (Heap.get?_update_other _ _ (fun z : P = b => hb z.symm)).trans q) (by simp [hacc, strValues]) (by rw [List.map_append, hdone, List.take_add_one, ht]; rfl) fun H3 s3 u3 e3 I4 => ?_
    exact hR H3 s3 u3 (e2.trans e3) I4
theorem list_at {X : Cx} {k d : Nat} {H H1 : Hp} {as : List Addr} {a : Addr} {x0 : V} {xs : List V} {ts : List Str} {base : Nat} {g : List Code} {A : Around} {R : Result → Shared → Prop} {σ : L2.St} {pins : List (Addr × Obj)} {s : Shared}
    (e : H a = some (.lst (x0 :: xs))) (hl : ts.length = (x0 :: xs).length) (hT : ∀ (i : Nat) (x : V) (t : Str), (x0 :: xs)[i]? = some x → ts[i]? = some t → RV X k H as d x t) (hg : A.guards = some g) (hc : ∀ b ∈ a :: as, Clear g b) (na : a ∉ as) (rm : Rm X k (d + 1) A)
    (hsz : base + (listText ts).length ≤ sizeLine) (e1 : Same H H1) (I : Inv X pins σ H1 s) (hR : ∀ H2 s' u, Same H1 H2 → Inv X pins σ H2 s' → R (.ok (.ret (.str (listText ts) u))) s') :
    wpAny (model X.prog X.w) A.in1 (Builtin.listReprAt base ⟨[.ref a], []⟩) (fun fin s' => match fin with | .done f => R (.ok f) s' | .again c' => c'.quiet = true ∧ codeAny (model X.prog X.w) A c' R s') (fun e s' => R (.error e) s') s := by
  have ca : Clear g a := hc a (.head _)
  obtain ⟨_, its, m, rv, ho⟩ := (show ObjOk X.prog X.w H1 s.heap a (.lst (x0 :: xs)) from I.hok a _ (e1 _ _ e))
  cases rv with
  | @cons _ u0 _ us r0 rr =>
    refine wpAny_list_repr_head (A := A.in1) hg (fun v rest kw hm => listSameRef_of_ne (ca _ _ _ _ hm)) ho rfl ?_
    refine wpAny_bind (m := newList []) (wpAny_newObj_type ?_)
    refine wpAny_pure ⟨F.quiet_list_repr_loop _, ?_⟩
    have I2 : Inv X ((s.heap.objs.size, parts #[] 0) :: pins) σ H1 { s with heap := s.heap.push (parts #[] 0) } := inv_pinNew I rfl (fun v z => nomatch z)
    refine list_loop (P := s.heap.objs.size) e hl hT hg (fun b hb => hc b (.tail _ hb)) na rm I.sz (fun p hp z => ?_) hsz _ 0 _ H1 #[] 0 [] rfl (Nat.zero_le _) e1 I2 rfl rfl hR
    have q := (I.pin p hp).1
    rw [z] at q
    exact absurd (Heap.lt_size q) (Nat.lt_irrefl _)
/-- a list whose items can be shown -/
theorem RV.list {X : Cx} {k d : Nat} {H : Hp} {as : List Addr} {a : Addr} {x0 : V} {xs : List V} {ts : List Str} (e : H a = some (.lst (x0 :: xs))) (hl : ts.length = (x0 :: xs).length)
    (hT : ∀ (i : Nat) (x : V) (t : Str), (x0 :: xs)[i]? = some x → ts[i]? = some t → RV X k H as d x t) (na : a ∉ as) : RV X k H (a :: as) (d + 1) (.ref a) (listText ts) := by
  intro H1 e1 u r base hb σ pins A g E s Q hg hc rm I q
  cases (show u = Value.ref a from r)
  obtain ⟨_, its, m, rv, ho⟩ := (show ObjOk X.prog X.w H1 s.heap a (.lst (x0 :: xs)) from I.hok a _ (e1 _ _ e))
  have ty : s.TypeIs (.ref a) "list" := ⟨_, ho, rfl⟩
  refine wpAny_pyReprUnder_ref (by omega) (wpAny_pyReprObjUnder_twin (twin := "list.__repr__.under") ty F.slot_list_repr.toG rfl (by have := rm.un; omega) ?_)
  refine call_twin_plain F.plain_list_repr_under F.entry_list_repr_under F.check_list_repr_under ty F.slot_list_repr.toG (F.args_list_repr_1 _) ?_
  exact list_at (R := callEnd (fun v s' => (∃ x u, v = .str x u) ∧ ∃ x u, v = .str x u ∧ Q x s') E) e hl hT hg hc na rm hb e1 I fun H2 s' u e2 J => ⟨⟨_, _, rfl⟩, _, _, rfl, q H2 s' e2 J⟩
/-- repr of a list, asked for by name -/
def rReprL (X : Cx) (k : Nat) : List V → Hp → VK → Prop := fun vs H Q => ∃ (a : Addr) (x0 : V) (xs : List V) (ts : List Str) (as : List Addr) (d : Nat), vs = [.ref a] ∧ H a = some (.lst (x0 :: xs)) ∧ ts.length = (x0 :: xs).length ∧ a ∉ as ∧ d ≤ 40 ∧ (listText ts).length ≤ sizeLine ∧
  (∀ (i : Nat) (x : V) (t : Str), (x0 :: xs)[i]? = some x → ts[i]? = some t → RV X k H as d x t) ∧ ∀ H2, Same H H2 → Q (.str (listText ts)) H2
theorem call_reprL {X : Cx} {k : Nat} (gd : X.A.guards = some []) (hr : Room (k + 40) X.A) : CallR X (.builtin "repr") (rReprL X k) := by
  intro pins s σ H xs us Q I r h
  obtain ⟨a, x0, xs, ts, as, d, rfl, e, hl, na, hd, hz, hT, q⟩ := h
  obtain ⟨u1, rfl, r1⟩ := vals1 r
  cases (show u1 = Value.ref a from r1)
  obtain ⟨_, its, m, rv, ho⟩ := (show ObjOk X.prog X.w H s.heap a (.lst (x0 :: xs)) from I.hok a _ e)
  have ty : s.TypeIs (.ref a) "list" := ⟨_, ho, rfl⟩
  have un := hr.un
  have dp := hr.dp
  refine call_repr_slot (by omega) ty F.slot_list_repr.toG ?_
  refine wpAny_call (codeAny_call_builtin F.slot_list_repr.plain F.entry_list_repr (F.slot_list_repr.check _ _ _ _ _ _ _ _ ty (F.args_list_repr_1 _) ?_))
  have rm : Rm X k (d + 1) X.A.in1 := ⟨hr.hd, by show X.A.depth + 3 * k + 5 + 2 * (d + 1) < _; omega, by show X.A.units + 1 + 16 * k + 200 + 2 * (d + 1) < _; omega, I.ok.frames⟩
  exact list_at (A := X.A.in1) (base := 0) (R := callEnd (fun r s1 => ∃ x t, r = .str x t ∧ EP X pins σ Q r s1) _) e hl hT gd (fun b _ => Clear.nil b) na rm (by omega) (Same.refl H) I
    fun H2 s' u e2 J => ⟨_, _, rfl, .str (listText ts), H2, J, ⟨u, rfl⟩, q H2 e2⟩
open PySem.W in
theorem byOwn {prog : Program} {w : World} {K : PySem.W.Frag} {A : Around} {E : Value → Shared → Prop} {s : Shared} {x C f : Addr} {ox : Obj} {od : Option Obj} {last : Value → List Value → Sem Value} {name : Str} {Q : Option Value → Shared → Prop}
    (X : K.In s.heap) (I : PySem.W.InstAt s.heap x ox C od) (hs : findIn K (.ref C) name = some (some (.ref f))) (hf : typeIn K (.ref f) = some (.type "function")) (h : wpAny (model prog w) A (last (.ref f) [.ref x]) (fun v => Q (some v)) E s) :
    wpAny (model prog w) A (callSpecialIfBoundBy? last (.ref x) name) Q E s := by
  simp only [callSpecialIfBoundBy?, bindSpecialIfBound?]
  refine wpAny_holding (wpAny_bind (wpAny_bind (wpAny_bind (I.type.here ((looks_findIn X hs).here ?_)))))
  refine wpAny_bind (wpAny_askSetting (wpAny_ite ?_))
  have fin : wpAny (model prog w) A (last (.ref f) [.ref x] >>= fun v => pure (some v)) Q E s := wpAny_bind (wpAny_mono h (fun v s' z => wpAny_pure z) fun _ _ z => z)
  split
  · exact wpAny_bind ((bind_fn X _ hf).here (wpAny_pure fin))
  · exact wpAny_tryCatch (wpAny_bind ((bind_fn X _ hf).here (wpAny_pure fin)))
/-- an own instance that shows itself by its __repr__ -/
theorem RV.inst {X : Cx} {k : Nat} {H : Hp} {a C dx f : Addr} {fs : List (Str × V)} {fd : FuncData} {ps : List Str} {sp : Sp} {t : Str} (e : H a = some (.ins C dx fs)) (hs : PySem.W.findIn X.K (.ref C) "__repr__" = some (some (.ref f))) (hf : PySem.W.typeIn X.K (.ref f) = some (.type "function"))
    (F : FnOk X.prog X.w X.K X.mg X.base CX0 k f fd ps sp) (hb : Binds X.K fd ps []) (h : ∀ H1, Same H H1 → ∀ (Q : VK) (E : XK), (∀ H2, Same H1 H2 → Q (.str t) H2) → sp [.ref a] H1 Q E) : RV X k H [] 0 (.ref a) t := by
  intro H1 e1 u r base hz σ pins A g E s Q hg hc rm I q
  cases (show u = Value.ref a from r)
  obtain ⟨mA, O, _⟩ := ins_get I.hok (e1 _ _ e)
  obtain ⟨od, J, _⟩ := O.look
  have kx := I.kIn
  refine wpAny_pyReprUnder_ref (by omega) ?_
  unfold pyReprObjUnder pyReprObjBy
  refine wpAny_bind (wpAny_cRoomFor (by have := rm.un; omega) ?_)
  refine wpAny_bind (wpAny_bind (J.type.here ((PySem.W.looks_findIn kx hs).here ?_)))
  show wpAny _ _ (if (some (Value.ref f)).isNone = true then _ else _) _ _ _
  rw [if_neg (by simp)]
  refine wpAny_bind (byOwn kx J hs hf ?_)
  show wpAny _ _ (call (.ref f) [.ref a]) _ _ _
  have h1 := h H1 e1 (fun v H2 => v = .str t ∧ Same H1 H2) (fun _ _ _ => False) fun H2 z => ⟨rfl, z⟩
  have hl : ([Value.ref a] ++ []).length = ps.length := by
    have z := F.len _ _ _ _ h1
    exact z
  have bd := hb s [.ref a] kx hl
  have env : Env0 X.prog X.w X.K X.mg X.base A X.stack s H1 := ⟨rm.fr, I.env0.mod, I.env0.bs, I.env0.bsz, I.env0.funs, I.env0.frf, I.env0.hok, I.env0.bare⟩
  refine wpAny_call (codeAny_mono (F.run A X.stack s H1 ⟨[.ref a], []⟩ [.ref a] [.ref a] _ _ ⟨rm.hd, by have := rm.dp; omega, by have := rm.un; omega⟩ env bd (.cons rfl .nil) h1) fun r s' hq => ?_)
  cases r with
  | error er => exact hq.elim
  | ok fl =>
    cases fl with
    | next => exact False.elim hq
    | brk => exact False.elim hq
    | cont => exact False.elim hq
    | ret v =>
      obtain ⟨y, H2, I2, rv, ev, e2⟩ := I.after hq
      subst ev
      obtain ⟨tk, z⟩ := (show ∃ tk, v = Value.str t tk from rv)
      subst z
      exact wpAny_bind (wpAny_isInstance (T := "str") (b := true) rfl isSubtype_str_str (wpAny_pure ⟨_, _, rfl, q H2 s' e2 I2⟩))
end My
set_option Elab.async false
set_option maxRecDepth 100000
set_option maxHeartbeats 4000000
namespace My
open PySem L2
/-! ### comprehensions over a list -/
theorem wipe1 (σ : L2.St) (i : Nat) (x : Option V) : wipe ((wipe σ [i]).set i x) [i] = wipe σ [i] := by
  show ((σ.set i none).set i x).set i none = σ.set i none
  rw [List.set_set, List.set_set]
/-- [e for x in v], from the value v on: x in slot i -/
def LcAt (K : PySem.W.Frag) (te : TE) (i : Nat) (σ : L2.St) (Q : VK) (v : V) (H1 : Hp) : Prop := ∃ a, v = .ref a ∧ (∃ xs, SqL K H1 a xs) ∧ ∀ D, H1 D = none → ∃ W : Nat → Nat → Hp → Prop, (∃ m, W 0 m (upd H1 D (.lst []))) ∧ ∀ j m H, W j m H →
  ((Itl K a).stop j H ∧ Q (.ref D) H) ∨ ((Itl K a).go j H ∧ ∃ Nx : Hp → Prop, (∀ H', Nx H' → ∃ m', m' < m ∧ W (j + 1) m' H') ∧ ∀ x H', (Itl K a).yld j H x H' → gName i x (wipe σ [i]) H' fun σ2 H2 => wipe σ2 [i] = wipe σ [i] ∧ tYes σ2 H2 fun b H3 =>
    if b = true then te σ2 H3 fun y H4 => ∃ acc, H4 D = some (.lst acc) ∧ acc.length < sizeLine ∧ Nx (upd H4 D (.lst (acc ++ [y]))) else Nx H3)
section
variable {K : PySem.W.Frag} {H0 H : Hp} {O : List Addr} {L : List (Addr × HO)} {Q : VK} {σ : L2.St} {te tl : TE} {i : Nat} {p : Addr} {xs : List V}
theorem g_lc (h : tl σ H fun v H1 => LcAt K te i σ Q v H1) : tLc (iList K tl) (gName i) tYes te [i] σ H Q := h
/-- the items one by one, each by a function of its own -/
theorem g_lcM (f : V → V) (hs : Hs H0 H O L) (m : (p, .lst xs) ∈ L) (hl : xs.length ≤ 40000) (he : ∀ (j : Nat) (x : V) (H1 : Hp), xs[j]? = some x → Same H H1 → ∀ R : VK, (∀ H2, Same H1 H2 → R (f x) H2) → te ((wipe σ [i]).set i (some x)) H1 R)
    (k : ∀ D H1, H D = none → Hs H0 H1 O ((D, .lst (xs.map f)) :: L) → Q (.ref D) H1) : LcAt K te i σ Q (.ref p) H := by
  have e := hs.mem m
  refine ⟨p, rfl, ⟨xs, SqL.of e⟩, fun D hD => lc_list (xs := xs) (fun j H1 => Same H H1 ∧ H1 D = some (.lst ((xs.take j).map f))) ⟨fun b o q => by rw [upd_ne (ne_of_none q hD)]; exact q, upd_same⟩ (fun j H1 _ q => SqL.of (q.1 _ _ e)) (fun j x H1 hx q => ?_) (fun H1 q => ?_)⟩
  · obtain ⟨s1, d1⟩ := q
    refine ⟨wipe1 σ i _, ?_⟩
    unfold tYes
    refine iteT (he j x H1 hx s1 _ fun H2 s2 => ⟨_, s2 _ _ d1, ?_, fun b o z => ?_, ?_⟩)
    · rw [List.length_map]
      exact Nat.lt_of_le_of_lt (Nat.le_trans (List.length_take_le' _ _) hl) (by decide)
    · rw [upd_ne (ne_of_none z hD)]
      exact s2 _ _ (s1 _ _ z)
    · rw [upd_same, List.take_add_one, hx, List.map_append]
      rfl
  · obtain ⟨s1, d1⟩ := q
    rw [List.take_length] at d1
    exact k D H1 hD (hs.add s1 hD d1)
/-- the items unrolled: what is to be shown from the list acc on -/
def Run (K : PySem.W.Frag) (te : TE) (i : Nat) (σ : L2.St) (Q : VK) (p : Addr) (all : List V) (D : Addr) : List V → Hp → Prop
  | [], H => SqL K H p all ∧ Q (.ref D) H
  | x :: xs, H => SqL K H p all ∧ te ((wipe σ [i]).set i (some x)) H fun y H4 => ∃ acc, H4 D = some (.lst acc) ∧ acc.length < sizeLine ∧ Run K te i σ Q p all D xs (upd H4 D (.lst (acc ++ [y])))
theorem Run.sq {D : Addr} : ∀ {ys : List V} {H : Hp}, Run K te i σ Q p xs D ys H → SqL K H p xs
  | [], _, h => h.1
  | _ :: _, _, h => h.1
theorem g_lcU (hs : Hs H0 H O L) (m : (p, .lst xs) ∈ L) (k : ∀ D H1, H D = none → Hs H0 H1 O ((D, .lst []) :: L) → Run K te i σ Q p xs D xs H1) : LcAt K te i σ Q (.ref p) H := by
  have e := hs.mem m
  refine ⟨p, rfl, ⟨xs, SqL.of e⟩, fun D hD => lc_list (xs := xs) (fun j H1 => Run K te i σ Q p xs D (xs.drop j) H1) (k D _ hD (hs.new hD)) (fun j H1 _ q => Run.sq q) (fun j x H1 hx q => ?_) (fun H1 q => ?_)⟩
  · obtain ⟨hj, ex⟩ := List.getElem?_eq_some_iff.mp hx
    rw [List.drop_eq_getElem_cons hj, ex] at q
    refine ⟨wipe1 σ i _, ?_⟩
    unfold tYes
    exact iteT q.2
  · rw [List.drop_length] at q
    exact q.2
/-- a turn of the unrolled one -/
theorem g_run {x : V} {xs ys : List V} {D : Addr} (hs : Hs H0 H O L) (m : (p, .lst xs) ∈ L) (h : te ((wipe σ [i]).set i (some x)) H fun y H4 => ∃ acc, H4 D = some (.lst acc) ∧ acc.length < sizeLine ∧ Run K te i σ Q p xs D ys (upd H4 D (.lst (acc ++ [y])))) : Run K te i σ Q p xs D (x :: ys) H := ⟨SqL.of (hs.mem m), h⟩
theorem g_run0 {xs : List V} {D : Addr} (hs : Hs H0 H O L) (m : (p, .lst xs) ∈ L) (h : Q (.ref D) H) : Run K te i σ Q p xs D [] H := ⟨SqL.of (hs.mem m), h⟩
theorem g_acc {R : Hp → Prop} {acc : List V} {D : Addr} {y : V} {L' : List (Addr × HO)} (hs : Hs H0 H O L) (m : Put D (.lst acc) (.lst (acc ++ [y])) L L') (hl : acc.length ≤ 100000) (h : ∀ H1, Hs H0 H1 O L' → R H1) : ∃ a, H D = some (.lst a) ∧ a.length < sizeLine ∧ R (upd H D (.lst (a ++ [y]))) := by
  obtain ⟨k, e1, _⟩ := m.at
  exact ⟨acc, hs.get k e1, Nat.lt_of_le_of_lt hl (by decide), h _ (hs.putM m)⟩
end
end My
set_option Elab.async false
set_option maxRecDepth 100000
set_option maxHeartbeats 8000000
namespace My
open PySem PySem.Spec PyProof.Rows L2
/-- at a: an exception of the class at C, whose one field holds v -/
def ExAt (H : Hp) (f : Str) (v : V) (u : V) (C : Addr) : Prop := ∃ a d, u = .ref a ∧ H a = some (exo a C (some d)) ∧ H d = some (exd d [(f, v)])
def spMk (Cs : List Addr) (f : Str) : Sp := fun vs H Q _ => ∃ v, vs = [v] ∧ ∀ p us H', H p = none → Same H H' → H' p = some (.lst us) → Paired (ExAt H' f v) us Cs → Q (.ref p) H'
def Ex1 (P : Program) (w : World) (K : PySem.W.Frag) (mg : Str → Option Value) (base : Heap) (x f : Str) (C : Addr) : Prop := ∃ fI B newId initId bmB fd, XCls P w K mg base x C fI B newId initId bmB ["self", f] (spI1 C f) fd ∧ KBn K fd ["self", f] 1 [f] (fun us ws => us ++ ws) (fun vs zs => vs ++ zs) ∧ PySem.W.findIn K (.ref C) f = some none
structure BltX (mg : Str → Option Value) : Prop where
  isi : mg "isinstance" = none
  ValueError : mg "ValueError" = none
  LookupError : mg "LookupError" = none
  ArithmeticError : mg "ArithmeticError" = none
theorem prd {α β : Type} {F : α → β → Prop} {a : α} {as : List α} {bs : List β} (h : Paired F (a :: as) bs) : ∃ b bs', bs = b :: bs' ∧ F a b ∧ Paired F as bs' := by
  cases h with
  | cons h t => exact ⟨_, _, rfl, h, t⟩
theorem prd0 {α β : Type} {F : α → β → Prop} {bs : List β} (h : Paired F [] bs) : bs = [] := by
  cases h
  rfl
/-- at a stands an exception of the class at C, with a dict or without -/
structure IsE (K : PySem.W.Frag) (H : Hp) (a C : Addr) : Prop where
  O : ∃ newId bmB, OxC K C newId bmB
  J : OxI K C
  at_ : ∃ d, H a = some (exo a C d) ∧ (d = none ∨ ∃ dx fs, d = some dx ∧ H dx = some (exd dx fs))
theorem IsE.same {K : PySem.W.Frag} {H H' : Hp} {a C : Addr} (h : IsE K H a C) (e : Same H H') : IsE K H' a C := by
  obtain ⟨O, J, d, h1, h2⟩ := h
  refine ⟨O, J, d, e _ _ h1, ?_⟩
  rcases h2 with h2 | ⟨dx, fs, e1, e2⟩
  · exact .inl h2
  · exact .inr ⟨dx, fs, e1, e _ _ e2⟩
theorem g_isX {K : PySem.W.Frag} {H0 H : Hp} {L : List (Addr × HO)} {Q : VK} {a C : Addr} {c : V} {u : Value} {b : Bool} (cv : ClsV c u) (G : OxG K) (hE : IsE K H0 a C) (hs : Hs H0 H [] L) (k : PySem.W.kitOne K (.ref C) u = some b) (h : Q (.bl b) H) : rIsX K [.ref a, c] H Q := by
  obtain ⟨⟨newId, bmB, O⟩, J, d, h1, h2⟩ := hE.same hs.kept
  exact ⟨a, C, d, newId, bmB, c, u, b, rfl, O, J, G, cv, h1, h2, k, h⟩
theorem pG {X : Cx} {x : Str} {C : Addr} {p : Pos} (m : X.mg x = some (.ref C)) (hg : Gl X x := by rfl) (hdb : (x == ("__debug__" : Str)) = false := by decide) : PE X (.Name x p) (tC (.ref C)) := pe_glob (v := .ref C) hg m rfl hdb
theorem g_bmL {K : PySem.W.Frag} {H0 H : Hp} {O : List Addr} {L : List (Addr × HO)} {p : Addr} {xs : List V} {R : Prop} (hs : Hs H0 H O L) (m : (p, .lst xs) ∈ L) (h : R) : tyV K "list" (.ref p) H ∧ R := ⟨Or.inl ⟨rfl, _, SqL.of (hs.mem m)⟩, h⟩
theorem g_bm {K : PySem.W.Frag} {T : String} {r : V → List V → Hp → VK → Prop} {to : TE} {t : TA} {σ : L2.St} {H : Hp} {Q : VK} (h : to σ H fun x H1 => tyV K T x H1 ∧ t σ H1 fun xs H2 => r x xs H2 Q) : tBM K T r to t σ H Q := h
theorem pIs {X : Cx} {a b : Expr} {ta tb : TE} {p pos : Pos} (T : BltX X.mg) (ha : PE X a ta) (hb : PE X b tb) (hg : Gl X "isinstance" := by rfl) (hs : starEach [a, b] X.env = (false, eval a X.env) :: starEach [b] X.env := by rfl) (hs2 : starEach [b] X.env = (false, eval b X.env) :: starEach [] X.env := by rfl)
    (hpl : (backTo pos (starEach [b] X.env)).any (·.1) = false := by rfl) : PE X (.Call (.Name "isinstance" p) [a, b] [] pos) (tCB (rIsX X.K) (tCons ta (tCons tb tNil))) :=
  pe_callB call_isX hg T.isi PyProof.Rows.boot_isinstance (pa_cons ha (pa_cons hb pa_nil hs2) hs) (he := hs) (hpl := hpl)
def rCntB (K : PySem.W.Frag) : V → List V → Hp → VK → Prop := fun x xs H Q => ∃ (p : Addr) (bs : List Bool) (k : Bool), x = .ref p ∧ xs = [.bl k] ∧ SqL K H p (bs.map V.bl) ∧ Q (.int (bs.count k : Nat)) H
theorem valsB : ∀ {bs : List Bool} {us : List Value}, Vals (bs.map V.bl) us → us = bs.map Value.bool
  | [], _, .nil => rfl
  | b :: bs, _, .cons r t => by
    cases (show _ = Value.bool b from r)
    rw [valsB t]
    rfl
theorem readsB (h : Heap) : ∀ bs : List Bool, ReadsAll h (bs.map Value.bool) (bs.map PyData.bool) []
  | [] => .nil
  | b :: bs => .cons (.bool b) (readsB h bs)
theorem countB (k : Bool) : ∀ bs : List Bool, countIn (.bool k) (bs.map PyData.bool) = ((bs.count k : Nat) : Int)
  | [] => rfl
  | b :: bs => by
    rw [List.map_cons, countIn, countB k bs, List.count_cons]
    cases b <;> cases k <;> simp [same] <;> omega
theorem mt_cntB {X : Cx} : MtR X "list.count" (rCntB X.K) := by
  intro pins s σ H x xs v us Q I rx rxs h
  obtain ⟨p, bs, k, rfl, rfl, hs, q⟩ := h
  cases rx
  obtain ⟨u, rfl, ru⟩ := rxs.one
  cases (show u = Value.bool k from ru)
  obtain ⟨its, rv, ⟨o, n, ho, hc, hdn, hd⟩, hlen⟩ := I.list hs
  have e := valsB rv
  subst e
  refine count_list_bools (vs := bs.map Value.bool) ⟨o, ho, hc, n, hd⟩ (readsB s.heap bs) (by simp [Shape.has]) ?_
  rw [countB]
  exact ⟨.int (bs.count k : Nat), H, I.tok _, ⟨s.toks, rfl⟩, q⟩
theorem g_cntB {K : PySem.W.Frag} {H0 H : Hp} {O : List Addr} {L : List (Addr × HO)} {p : Addr} {xs : List V} {bs : List Bool} {k : Bool} {Q : VK} (hs : Hs H0 H O L) (m : (p, .lst xs) ∈ L) (e : xs = bs.map V.bl) (h : Q (.int (bs.count k : Nat)) H) : rCntB K (.ref p) [.bl k] H Q :=
  ⟨p, bs, k, rfl, rfl, SqL.of (by rw [← e]; exact hs.mem m), h⟩
/-- e.f, from the value of e on -/
def XatAt (K : PySem.W.Frag) (f : Str) (x : V) (H1 : Hp) (Q : VK) : Prop := ∃ (a C d : Addr) (fs : List (Str × V)) (v : V) (newId : String) (bmB : List Value), x = .ref a ∧ OxC K C newId bmB ∧ PySem.W.findIn K (.ref C) f = some none ∧
  H1 a = some (exo a C (some d)) ∧ H1 d = some (exd d fs) ∧ fs.lookup f = some v ∧ Q v H1
section
variable {K : PySem.W.Frag} {H0 H : Hp} {O : List Addr} {L : List (Addr × HO)} {Q : VK} {σ : L2.St}
theorem g_xat {f : Str} {te : TE} (h : te σ H fun x H1 => XatAt K f x H1 Q) : tXat K f te σ H Q := h
theorem g_xatH {f : Str} {a C d : Addr} {fs : List (Str × V)} {v : V} {newId : String} {bmB : List Value} (hs : Hs H0 H O L) (m1 : (a, exo a C (some d)) ∈ L) (m2 : (d, exd d fs) ∈ L) (ox : OxC K C newId bmB) (no : PySem.W.findIn K (.ref C) f = some none) (l : fs.lookup f = some v) (h : Q v H) : XatAt K f (.ref a) H Q :=
  ⟨a, C, d, fs, v, newId, bmB, rfl, ox, no, hs.mem m1, hs.mem m2, l, h⟩
theorem g_rep {l : Addr} {k : Int} {xs : List V} (hs : Hs H0 H O L) (m : (l, .lst xs) ∈ L) (h1 : -(2 ^ 63) ≤ k) (h2 : k < 2 ^ 63) (hz : xs.length * k.toNat ≤ 100000) (h : ∀ p H1, H p = none → Hs H0 H1 O ((p, .lst (List.replicate k.toNat xs).flatten) :: L) → Q (.ref p) H1) : rRep (.ref l) (.int k) H Q :=
  ⟨l, k, xs, rfl, rfl, hs.mem m, h1, h2, Nat.le_trans hz (by decide), fun p hp => h p _ hp (hs.new hp)⟩
theorem g_bm2 {T : String} {r : V → List V → Hp → VK → Prop} {to : TE} {t : TA} (h : to σ H fun x H1 => tyV K T x H1 ∧ t σ H1 fun xs H2 => r x xs H2 Q) : tBM K T r to t σ H Q := h
theorem g_tyL {p : Addr} {xs : List V} {R : Prop} (hs : Hs H0 H O L) (m : (p, .lst xs) ∈ L) (h : R) : tyV K "list" (.ref p) H ∧ R := ⟨Or.inl ⟨rfl, _, SqL.of (hs.mem m)⟩, h⟩
theorem g_app {l : Addr} {xs : List V} {y : V} {L' : List (Addr × HO)} (hs : Hs H0 H O L) (m : Put l (.lst xs) (.lst (xs ++ [y])) L L') (hl : xs.length ≤ 100000) (h : ∀ H1, Hs H0 H1 O L' → Q .non H1) : rAppend (.ref l) [y] H Q := by
  obtain ⟨k, e1, _⟩ := m.at
  exact ⟨l, xs, y, rfl, rfl, hs.get k e1, Nat.lt_of_le_of_lt hl (by decide), h _ (hs.putM m)⟩
end
/-- repr of v is t wherever H's objects stand, in whatever def of this text one is -/
structure Shown (P : Program) (w : World) (K : PySem.W.Frag) (mg : Str → Option Value) (base : Heap) (H : Hp) (as : List Addr) (v : V) (t : Str) : Prop where
  small : t.length ≤ 3000
  there : ∀ b ∈ as, H b ≠ none
  rv : ∀ X : Cx, X.prog = P → X.w = w → X.K = K → X.mg = mg → X.base = base → RV X 8 H as 2 v t
theorem Shown.same {P : Program} {w : World} {K : PySem.W.Frag} {mg : Str → Option Value} {base : Heap} {H H' : Hp} {as : List Addr} {v : V} {t : Str} (h : Shown P w K mg base H as v t) (e : Same H H') : Shown P w K mg base H' as v t :=
  ⟨h.small, (fun b hb q => by
    have n := h.there b hb
    cases z : H b with
    | none => exact n z
    | some o =>
      rw [e b o z] at q
      cases q), fun X h1 h2 h3 h4 h5 => (h.rv X h1 h2 h3 h4 h5).mono e (fun b hb => hb) (Nat.le_refl 2)⟩
/-- an exception of the class at C stands at u, with a dict or without -/
def ExIs (H : Hp) (u : V) (C : Addr) : Prop := ∃ a d, u = .ref a ∧ H a = some (exo a C d) ∧ (d = none ∨ ∃ dx fs, d = some dx ∧ H dx = some (exd dx fs))
def Ex0 (K : PySem.W.Frag) (mg : Str → Option Value) (x : Str) (C : Addr) : Prop := ∃ B newId initId bmB, ExcBaseFacts B newId initId bmB ∧ PySem.W.excIn K C bmB newId = true ∧ OxC K C newId bmB ∧ mg x = some (.ref C)
theorem Shown.more {P : Program} {w : World} {K : PySem.W.Frag} {mg : Str → Option Value} {base : Heap} {H : Hp} {as bs : List Addr} {v : V} {t : Str} (h : Shown P w K mg base H as v t) (hb : ∀ b ∈ bs, H b ≠ none) (sub : ∀ a ∈ as, a ∈ bs) : Shown P w K mg base H bs v t :=
  ⟨h.small, hb, fun X h1 h2 h3 h4 h5 => (h.rv X h1 h2 h3 h4 h5).mono (Same.refl H) sub (Nat.le_refl 2)⟩
theorem listText_le (ts : List Str) : (listText ts).length ≤ piled ts + 2 := by
  have whole : (listText ts).length = (textFrom 0 "[" ts).length + 1 := by
    show (textFrom 0 "[" ts ++ "]").length = _
    rw [strLen_append]
    rfl
  cases ts with
  | nil =>
    rw [whole]
    decide
  | cons t r =>
    have q := textFrom_length_pos r 1 (("[" : Str) ++ (if (0 : Nat) > 0 then ", " else "" : String) ++ t) (Nat.succ_pos 0)
    have e : ((("[" : Str) ++ (if (0 : Nat) > 0 then ", " else "" : String) ++ t)).length = 1 + t.length := by
      rw [strLen_append, strLen_append]
      rfl
    have z : (textFrom 0 "[" (t :: r)).length = (textFrom 1 (("[" : Str) ++ (if (0 : Nat) > 0 then ", " else "" : String) ++ t) r).length := rfl
    rw [whole, z, q, e, piled_cons]
    omega
theorem piled_le {ts : List Str} {n : Nat} (h : ∀ t ∈ ts, t.length ≤ n) : piled ts ≤ ts.length * (n + 2) := by
  induction ts with
  | nil => exact Nat.zero_le _
  | cons t r ih =>
    have q := ih fun u hu => h u (List.mem_cons_of_mem _ hu)
    have z := h t List.mem_cons_self
    rw [piled_cons, List.length_cons, Nat.succ_mul]
    omega
theorem pairedGet {α β : Type} {F : α → β → Prop} : ∀ {as : List α} {bs : List β} {i : Nat} {a : α} {b : β}, Paired F as bs → as[i]? = some a → bs[i]? = some b → F a b
  | _, _, 0, _, _, .cons h _, e1, e2 => by
    simp at e1 e2
    subst e1 e2
    exact h
  | _, _, i + 1, _, _, .cons _ t, e1, e2 => pairedGet (i := i) t (by simpa using e1) (by simpa using e2)
  | _, _, _, _, _, .nil, e1, _ => by simp at e1
/-- rows of shown things, each row a list of its own -/
inductive Rows (S : V → Str → Prop) (L : List (Addr × HO)) : List V → List (List Str) → Prop where
  | nil : Rows S L [] []
  | cons {l : Addr} {y : V} {ys us : List V} {ts : List Str} {tss : List (List Str)} (m : (l, .lst (y :: ys)) ∈ L) (h : Paired S (y :: ys) ts) (hn : ts.length ≤ 30) (r : Rows S L us tss) : Rows S L (.ref l :: us) (ts :: tss)
def rowsText (tss : List (List Str)) : Str := listText (tss.map listText)
theorem Rows.len {S : V → Str → Prop} {L : List (Addr × HO)} : ∀ {us : List V} {tss : List (List Str)}, Rows S L us tss → tss.length = us.length
  | _, _, .nil => rfl
  | _, _, .cons _ _ _ r => congrArg Nat.succ r.len
theorem Rows.get {S : V → Str → Prop} {L : List (Addr × HO)} : ∀ {us : List V} {tss : List (List Str)} {i : Nat} {u : V} {t : Str}, Rows S L us tss → us[i]? = some u → (tss.map listText)[i]? = some t →
    ∃ l y ys ts, u = .ref l ∧ (l, .lst (y :: ys)) ∈ L ∧ Paired S (y :: ys) ts ∧ ts.length ≤ 30 ∧ t = listText ts
  | _, _, 0, _, _, .cons m h hn _, e1, e2 => by
    simp at e1 e2
    exact ⟨_, _, _, _, e1.symm, m, h, hn, e2.symm⟩
  | _, _, i + 1, _, _, .cons _ _ _ r, e1, e2 => r.get (i := i) (by simpa using e1) (by simpa using e2)
  | _, _, _, _, _, .nil, e1, _ => by simp at e1
/-- the list of what is known, but for p -/
inductive Cut (p : Addr) (o : HO) : List (Addr × HO) → List (Addr × HO) → Prop where
  | head {L : List (Addr × HO)} : Cut p o ((p, o) :: L) L
  | tail {x : Addr × HO} {L L' : List (Addr × HO)} (h : Cut p o L L') : Cut p o (x :: L) (x :: L')
theorem Cut.mem {p : Addr} {o : HO} : ∀ {L L' : List (Addr × HO)}, Cut p o L L' → (p, o) ∈ L
  | _, _, .head => List.mem_cons_self
  | _, _, .tail h => List.mem_cons_of_mem _ h.mem
theorem Cut.sub {p : Addr} {o : HO} : ∀ {L L' : List (Addr × HO)}, Cut p o L L' → ∀ x ∈ L', x ∈ L
  | _, _, .head, _, m => List.mem_cons_of_mem _ m
  | _, _, .tail h, _, m => (List.mem_cons.mp m).elim (fun e => e ▸ List.mem_cons_self) fun m => List.mem_cons_of_mem _ (h.sub _ m)
theorem Cut.notin {p : Addr} {o : HO} : ∀ {L L' : List (Addr × HO)}, Cut p o L L' → (L.map (·.1)).Nodup → p ∉ L'.map (·.1)
  | _, _, .head, nd => (List.nodup_cons.mp nd).1
  | _, _, .tail h, nd => fun m => by
    have q := List.nodup_cons.mp nd
    rcases List.mem_cons.mp m with e | e
    · exact q.1 (e ▸ List.mem_map.mpr ⟨_, h.mem, rfl⟩)
    · exact h.notin q.2 e
theorem g_ne {H : Hp} {Q : VK} {t : Str} (h : Q (.bl (!decide (V.str t = V.str t))) H) : rNe (.str t) (.str t) H Q := ⟨rfl, h⟩
/-- repr of rows of shown things -/
theorem reprRows {P : Program} {w : World} {K : PySem.W.Frag} {mg : Str → Option Value} {base : Heap} {X : Cx} {H0 H : Hp} {L0 L : List (Addr × HO)} {Q : VK} {p : Addr} {u : V} {us : List V} {tss : List (List Str)} {as : List Addr} (hs : Hs H0 H [] L0) (hc : Cut p (.lst (u :: us)) L0 L) (R : Rows (Shown P w K mg base H0 as) L (u :: us) tss)
    (hn : us.length ≤ 5) (has : ∀ b ∈ as, H0 b ≠ none) (h1 : X.prog = P) (h2 : X.w = w) (h3 : X.K = K) (h4 : X.mg = mg) (h5 : X.base = base) (h : ∀ H1, Same H H1 → Q (.str (rowsText tss)) H1) : rReprL X 8 [.ref p] H Q := by
  have hp : H0 p = none := hs.nw _ hc.mem fun z => nomatch z
  have pn : p ∉ L.map (·.1) := hc.notin hs.nd
  have kp := hs.kept
  -- the rows' addresses
  have small : ∀ t ∈ tss.map listText, t.length ≤ 100000 := by
    intro t ht
    obtain ⟨i, hi, e⟩ := List.getElem_of_mem ht
    have e2 : (tss.map listText)[i]? = some t := by rw [List.getElem?_eq_getElem hi, e]
    have hi2 : i < (u :: us).length := by
      rw [List.length_map, R.len] at hi
      exact hi
    obtain ⟨l, y, ys, ts, eu, m, pr, n30, et⟩ := R.get (List.getElem?_eq_getElem hi2) e2
    rw [et]
    have q1 := listText_le ts
    have q2 : piled ts ≤ ts.length * (3000 + 2) := piled_le fun t' ht' => by
      obtain ⟨j, hj, ej⟩ := List.getElem_of_mem ht'
      have lj : j < (y :: ys).length := by
        rw [pr.length]
        exact hj
      have s := pairedGet pr (List.getElem?_eq_getElem lj) (by rw [List.getElem?_eq_getElem hj, ej])
      exact s.small
    have q3 : ts.length * (3000 + 2) ≤ 30 * (3000 + 2) := Nat.mul_le_mul_right _ n30
    omega
  have top := listText_le (tss.map listText)
  have top2 := piled_le small
  have top3 : (tss.map listText).length ≤ 6 := by
    rw [List.length_map, R.len]
    show us.length + 1 ≤ 6
    omega
  have top4 : (tss.map listText).length * (100000 + 2) ≤ 6 * (100000 + 2) := Nat.mul_le_mul_right _ top3
  refine ⟨p, u, us, tss.map listText, (u :: us).filterMap (fun v => match v with | .ref l => some l | _ => none) ++ as, 3, rfl, hs.on _ hc.mem, by rw [List.length_map, R.len], fun z => ?_, by decide, Nat.le_trans (show (listText (tss.map listText)).length ≤ 1000000 by omega) (by decide), fun i x t hx ht => ?_, h⟩
  · rcases List.mem_append.mp z with z | z
    · obtain ⟨v, hv, e⟩ := List.mem_filterMap.mp z
      obtain ⟨i, hi, ei⟩ := List.getElem_of_mem hv
      have hi2 : i < (tss.map listText).length := by
        rw [List.length_map, R.len]
        exact hi
      obtain ⟨l, y, ys, ts, eu, m, _⟩ := R.get (by rw [List.getElem?_eq_getElem hi, ei]) (List.getElem?_eq_getElem hi2)
      rw [eu] at e
      obtain rfl : l = p := Option.some.inj e
      exact pn (List.mem_map.mpr ⟨_, m, rfl⟩)
    · exact has p z hp
  · obtain ⟨l, y, ys, ts, eu, m, pr, n30, et⟩ := R.get hx ht
    subst eu et
    have hl : H l = some (.lst (y :: ys)) := hs.mem (hc.sub _ m)
    have l0 : H0 l = none := hs.nw _ (hc.sub _ m) fun z => nomatch z
    have rv : RV X 8 H (l :: as) (2 + 1) (.ref l) (listText ts) := RV.list hl pr.length.symm (fun j x2 t2 e1 e2 => ((pairedGet pr e1 e2).rv X h1 h2 h3 h4 h5).mono kp (fun b hb => hb) (Nat.le_refl 2)) fun z => has l z l0
    refine rv.mono (Same.refl H) (fun b hb => ?_) (Nat.le_refl 3)
    rcases List.mem_cons.mp hb with e | e
    · rw [e]
      exact List.mem_append_left _ (List.mem_filterMap.mpr ⟨_, List.mem_of_getElem? hx, rfl⟩)
    · exact List.mem_append_right _ e
/-- the tuple (name, count) stands at v -/
def PairAt (H : Hp) (v : V) (p : Str × Int) : Prop := ∃ u, v = .ref u ∧ H u = some (.tup [.str p.1, .int p.2])
/-- a tuple that is known as the object that it is -/
def TupZ (H : Hp) (t : Addr) (ts : List V) : Prop := ∃ o : Obj, H t = some (.frz o (.tup ts)) ∧ o.dict = Option.none
theorem TupZ.seq {K : PySem.W.Frag} {H : Hp} {t : Addr} {ts : List V} (h : TupZ H t ts) : SqT K H t ts := let ⟨o, e, _⟩ := h; .inl (.inr ⟨o, e⟩)
theorem TupZ.same {H H' : Hp} {t : Addr} {ts : List V} (h : TupZ H t ts) (e : Same H H') : TupZ H' t ts := let ⟨o, z, n⟩ := h; ⟨o, e _ _ z, n⟩
/-- a load with these pairs stands at a -/
def LoadAt (C : Addr) (H : Hp) (a : Addr) (ps : List (Str × Int)) : Prop := ∃ dx t d ts, H a = some (.ins C dx [("_pairs", .ref t), ("_counts", .ref d)]) ∧ TupZ H t ts ∧ Paired (PairAt H) ts ps ∧ H d = some (.dK (ps.map fun p => (Sum.inr p.1, .int p.2)))
def OffP (p : Addr) (H H' : Hp) : Prop := ∀ b o, H b = some o → b ≠ p → H' b = some o
theorem PairAt.off {p : Addr} {H H' : Hp} {v : V} {q : Str × Int} {xs : List V} (h : PairAt H v q) (hp : H p = some (.lst xs)) (o : OffP p H H') : PairAt H' v q := by
  obtain ⟨u, rfl, e⟩ := h
  refine ⟨u, rfl, o _ _ e fun z => ?_⟩
  rw [z, hp] at e
  cases e
theorem pairedMono {α β : Type} {F G : α → β → Prop} (h : ∀ a b, F a b → G a b) : ∀ {as : List α} {bs : List β}, Paired F as bs → Paired G as bs
  | _, _, .nil => .nil
  | _, _, .cons x t => .cons (h _ _ x) (pairedMono h t)
theorem LoadAt.off {C a p : Addr} {H H' : Hp} {ps : List (Str × Int)} {xs : List V} (h : LoadAt C H a ps) (hp : H p = some (.lst xs)) (o : OffP p H H') : LoadAt C H' a ps := by
  obtain ⟨dx, t, d, ts, e1, ⟨ob, e2, nn⟩, pr, e3⟩ := h
  refine ⟨dx, t, d, ts, o _ _ e1 fun z => ?_, ⟨ob, o _ _ e2 fun z => ?_, nn⟩, pairedMono (fun v q h => h.off hp o) pr, o _ _ e3 fun z => ?_⟩
  · rw [z, hp] at e1
    cases e1
  · rw [z, hp] at e2
    cases e2
  · rw [z, hp] at e3
    cases e3
/-- the rest is one tuple: what the maker of a load says -/
def spInit (C : Addr) (OkP : List (Str × Int) → Prop) (Srt : List (Str × Int) → List (Str × Int) → Prop) : Sp := fun vs H Q _ => ∃ x dx q rest ps, vs = [.ref x, .ref q] ∧ H x = some (.ins C dx []) ∧ H dx = some (.own x) ∧ H q = some (.tup rest) ∧ Paired (PairAt H) rest ps ∧ OkP ps ∧
  ∀ H' o qs, Hs H H' [x] [(x, o)] → Srt ps qs → LoadAt C H' x qs → Q .non H'
def spStar1 (sp : Sp) : Sp := fun vs H Q E => ∃ ws rest, vs = ws ++ rest ∧ ws.length = ["self"].length ∧ rest.length ≤ sizeLine ∧ ∀ p, H p = Option.none → sp (ws ++ [V.ref p]) (upd H p (.tup rest)) Q E
section
variable {K : PySem.W.Frag} {H0 H : Hp} {O : List Addr} {L : List (Addr × HO)} {Q : VK} {σ : L2.St} {te tl : TE} {i : Nat} {p : Addr} {xs : List V}
theorem g_tcall {sp : Sp} {dvs : List V} {E : XK} {t : TA} (h : t σ H fun vs H1 => sp (vs ++ dvs) H1 Q E) : tCall sp dvs E t σ H Q := h
theorem g_mkR {C : Addr} {sp : Sp} {E : XK} {t : TA} (h : t σ H fun vs H1 => ∀ x dx, H1 x = Option.none → H1 dx = Option.none → dx ≠ x →
  sp (V.ref x :: vs) (upd (upd H1 dx (.own x)) x (.ins C dx [])) (fun v H2 => v = .non ∧ Q (.ref x) H2) E) : StX.tMakeR C sp E t σ H Q := h
theorem g_tb {R : Bool → Hp → Prop} (h : te σ H fun x H' => ∃ k, x = .bl k ∧ R k H') : tB te σ H R := h
theorem g_un {r : V → Hp → VK → Prop} {ta : TE} (h : ta σ H fun x H1 => r x H1 Q) : tUn r ta σ H Q := h
theorem g_rU {g : Int → V} {n : Int} (h : Q (g n) H) : rU g (.int n) H Q := ⟨n, rfl, h⟩
theorem g_catD {l b : Addr} {xs zs : List V} (hs : Hs H0 H O L) (e1 : H l = some (.lst xs)) (e2 : H b = some (.lst zs)) (hz : xs.length + zs.length ≤ 100000) (h : ∀ p H1, H p = none → Hs H0 H1 O ((p, .lst (xs ++ zs)) :: L) → Q (.ref p) H1) : rCat (.ref l) (.ref b) H Q :=
  ⟨l, b, xs, zs, rfl, rfl, e1, e2, Nat.le_trans hz (by decide), fun p hp => h p _ hp (hs.new hp)⟩
theorem g_lcD (f : V → V) (hs : Hs H0 H O L) (e : H p = some (.lst xs)) (hl : xs.length ≤ 40000) (he : ∀ (j : Nat) (x : V) (H1 : Hp), xs[j]? = some x → Same H H1 → ∀ R : VK, (∀ H2, Same H1 H2 → R (f x) H2) → te ((wipe σ [i]).set i (some x)) H1 R)
    (k : ∀ D H1, H D = none → Hs H0 H1 O ((D, .lst (xs.map f)) :: L) → Q (.ref D) H1) : LcAt K te i σ Q (.ref p) H := by
  refine ⟨p, rfl, ⟨xs, SqL.of e⟩, fun D hD => lc_list (xs := xs) (fun j H1 => Same H H1 ∧ H1 D = some (.lst ((xs.take j).map f))) ⟨fun b o q => by rw [upd_ne (ne_of_none q hD)]; exact q, upd_same⟩ (fun j H1 _ q => SqL.of (q.1 _ _ e)) (fun j x H1 hx q => ?_) (fun H1 q => ?_)⟩
  · obtain ⟨s1, d1⟩ := q
    refine ⟨wipe1 σ i _, ?_⟩
    unfold tYes
    refine iteT (he j x H1 hx s1 _ fun H2 s2 => ⟨_, s2 _ _ d1, ?_, fun b o z => ?_, ?_⟩)
    · rw [List.length_map]
      exact Nat.lt_of_le_of_lt (Nat.le_trans (List.length_take_le' _ _) hl) (by decide)
    · rw [upd_ne (ne_of_none z hD)]
      exact s2 _ _ (s1 _ _ z)
    · rw [upd_same, List.take_add_one, hx, List.map_append]
      rfl
  · obtain ⟨s1, d1⟩ := q
    rw [List.take_length] at d1
    exact k D H1 hD (hs.add s1 hD d1)
theorem pairedAt {α β : Type} {F : α → β → Prop} : ∀ {as : List α} {bs : List β} {j : Nat} {a : α}, Paired F as bs → as[j]? = some a → ∃ b ∈ bs, F a b
  | _, _, 0, _, .cons h _, e => by
    simp at e
    subst e
    exact ⟨_, List.mem_cons_self, h⟩
  | _, _, j + 1, _, .cons _ t, e => by
    obtain ⟨b, m, h⟩ := pairedAt (j := j) t (by simpa using e)
    exact ⟨b, List.mem_cons_of_mem _ m, h⟩
  | _, _, _, _, .nil, e => by simp at e
theorem pairedApp {α β : Type} {F : α → β → Prop} : ∀ {as cs : List α} {bs ds : List β}, Paired F as bs → Paired F cs ds → Paired F (as ++ cs) (bs ++ ds)
  | _, _, _, _, .nil, q => q
  | _, _, _, _, .cons h t, q => .cons h (pairedApp t q)
theorem ExAt.is {H : Hp} {f : Str} {v u : V} {C : Addr} (h : ExAt H f v u C) : ExIs H u C := by
  obtain ⟨a, d, e, h1, h2⟩ := h
  exact ⟨a, some d, e, h1, .inr ⟨d, _, rfl, h2⟩⟩
theorem ExAt.same {H H' : Hp} {f : Str} {v u : V} {C : Addr} (h : ExAt H f v u C) (s : Same H H') : ExAt H' f v u C := by
  obtain ⟨a, d, e, h1, h2⟩ := h
  exact ⟨a, d, e, s _ _ h1, s _ _ h2⟩
theorem ExIs.same {H H' : Hp} {u : V} {C : Addr} (h : ExIs H u C) (s : Same H H') : ExIs H' u C := by
  obtain ⟨a, d, e, h1, h2⟩ := h
  refine ⟨a, d, e, s _ _ h1, ?_⟩
  rcases h2 with z | ⟨dx, fs, z, q⟩
  · exact .inl z
  · exact .inr ⟨dx, fs, z, s _ _ q⟩
theorem attrAll {us : List V} {Cs : List Addr} {f : Str} {v : V} (pr : Paired (ExAt H f v) us Cs) (ox : ∀ C ∈ Cs, ∃ newId bmB, OxC K C newId bmB) (no : ∀ C ∈ Cs, PySem.W.findIn K (.ref C) f = some none) {j : Nat} {x : V} (hx : us[j]? = some x) {H1 : Hp} (e : Same H H1) {R : VK} (k : R v H1) : XatAt K f x H1 R := by
  obtain ⟨C, hC, a, d, rfl, h1, h2⟩ := pairedAt pr hx
  obtain ⟨newId, bmB, O⟩ := ox C hC
  exact ⟨a, C, d, [(f, v)], v, newId, bmB, rfl, O, no C hC, e _ _ h1, e _ _ h2, by simp [List.lookup], k⟩
theorem isE_of {u : V} {C : Addr} (h : ExIs H u C) (ox : (∃ newId bmB, OxC K C newId bmB) ∧ OxI K C) : ∃ a, u = .ref a ∧ IsE K H a C := by
  obtain ⟨a, d, e, h1, h2⟩ := h
  exact ⟨a, e, ox.1, ox.2, d, h1, h2⟩
theorem g_all {us : List V} {D : Addr} (hs : Hs H0 H O L) (m : (D, .lst (us.map fun _ => V.bl true)) ∈ L) (q : Q (.bl true) H) : rAll K [.ref D] H Q := by
  refine ⟨D, us.map fun _ => true, rfl, ?_, ?_⟩
  · rw [List.map_map]
    exact SqL.of (hs.mem m)
  · have e : (us.map fun _ => true).all id = true := by simp
    rw [e]
    exact q
theorem dpB : ∀ bs : List Bool, DpAll K H (bs.map V.bl) (bs.map PyData.bool)
  | [] => .nil
  | b :: bs => .cons (.bl b) (dpB bs)
theorem dpI : ∀ bs : List Int, DpAll K H (bs.map V.int) (bs.map PyData.int)
  | [] => .nil
  | b :: bs => .cons (.int b) (dpI bs)
theorem g_eqB {a b : Addr} (bs : List Bool) (h1 : H a = some (.lst (bs.map V.bl))) (h2 : H b = some (.lst (bs.map V.bl))) (s : SeqAt.shaped (.list (bs.map PyData.bool)) = true) (e : PyData.eqv (.list (bs.map PyData.bool)) (.list (bs.map PyData.bool)) = true) (q : Q (.bl true) H) : rEqD K (.ref a) (.ref b) H Q :=
  ⟨_, _, Dp.lst (SqL.of h1) (dpB bs), Dp.lst (SqL.of h2) (dpB bs), s, s, by rw [e]; exact q⟩
theorem g_neI {a b : Addr} (bs : List Int) (h1 : H a = some (.lst (bs.map V.int))) (h2 : H b = some (.lst (bs.map V.int))) (s : SeqAt.shaped (.list (bs.map PyData.int)) = true) (e : PyData.eqv (.list (bs.map PyData.int)) (.list (bs.map PyData.int)) = true) (q : Q (.bl false) H) : rNeD K (.ref a) (.ref b) H Q :=
  ⟨_, _, Dp.lst (SqL.of h1) (dpI bs), Dp.lst (SqL.of h2) (dpI bs), s, s, by rw [e]; exact q⟩
theorem g_neIM {a b : Addr} (bs : List Int) (hs : Hs H0 H O L) (m1 : (a, .lst (bs.map V.int)) ∈ L) (m2 : (b, .lst (bs.map V.int)) ∈ L) (s : SeqAt.shaped (.list (bs.map PyData.int)) = true) (e : PyData.eqv (.list (bs.map PyData.int)) (.list (bs.map PyData.int)) = true) (q : Q (.bl false) H) : rNeD K (.ref a) (.ref b) H Q :=
  g_neI bs (hs.mem m1) (hs.mem m2) s e q
theorem g_neInt {i j : Int} (h : Q (.bl (!decide (V.int i = V.int j))) H) : rNe (.int i) (.int j) H Q := ⟨rfl, h⟩
theorem same_map {us : List V} {v : V} {n : Nat} (h : us.length = n) : us.map (fun _ => v) = List.replicate n v := by
  rw [← h]
  exact List.map_const' ..
theorem pairRep {F : V → Str → Prop} {v : V} {t : Str} (h : F v t) : ∀ n, Paired F (List.replicate n v) (List.replicate n t)
  | 0 => .nil
  | n + 1 => .cons h (pairRep h n)
theorem g_ixN {d : Int} {v : V} (hs : Hs H0 H O L) (m : (p, .lst xs) ∈ L) (d0 : 0 ≤ d) (hv : xs[d.toNat]? = some v) (h : Q v H) : rIxL K (.ref p) (.int d) H Q :=
  ⟨p, xs, d, v, rfl, rfl, SqL.of (hs.mem m), (by
    have e : d = ((d.toNat : Nat) : Int) := by omega
    rw [e]
    exact atI_nat hv), h⟩
theorem Hs.offp {q : Addr} (h : Hs H0 H [q] L) : OffP q H0 H := fun b o e n => h.fr b o e fun m => by
  obtain ⟨x, hx, z⟩ := List.mem_map.mp m
  have y := h.nw x hx (fun w => n (by rw [← z]; exact List.mem_singleton.mp w))
  rw [z, e] at y
  cases y
section
variable {P : Program} {w : World} {mg : Str → Option Value} {base : Heap} {as : List Addr}
theorem shNon : Shown P w K mg base H [] .non "None" := ⟨by decide, (fun _ z => nomatch z), fun _ _ _ _ _ _ => RV.non⟩
theorem shBl (b : Bool) : Shown P w K mg base H [] (.bl b) (if b then "True" else "False") := ⟨by cases b <;> decide, (fun _ z => nomatch z), fun _ _ _ _ _ _ => RV.bl b⟩
theorem shInt {i : Int} (h1 : ((toString i : String) : Str).length ≤ 3000) (h : i.natAbs.log2 < 1920) : Shown P w K mg base H [] (.int i) (toString i : String) := ⟨h1, (fun _ z => nomatch z), fun _ _ _ _ _ _ => RV.int h⟩
theorem shStr {y : Str} (h1 : (reprText y).length ≤ 3000) : Shown P w K mg base H [] (.str y) (reprText y) := ⟨h1, (fun _ z => nomatch z), fun _ _ _ _ _ _ => RV.str (Nat.le_trans h1 (by decide))⟩
theorem shTup {a : Addr} {xs : List V} {ts : List Str} (e : H a = some (.tup xs)) (hl : ts.length = xs.length) (h : ∀ (i : Nat) (x : V) (t : Str), xs[i]? = some x → ts[i]? = some t → ∀ u, RelV x u → ReprIs P w u t) (h1 : (tupleText ts).length ≤ 3000) : Shown P w K mg base H [a] (.ref a) (tupleText ts) :=
  ⟨h1, (fun b hb q => by rw [List.mem_singleton.mp hb, e] at q; cases q), fun X e1 e2 _ _ _ => (RV.tup (d := 1) e hl (fun i x t h3 h4 u r => by rw [e1, e2]; exact h i x t h3 h4 u r)).mono (Same.refl H) (fun b hb => hb) (Nat.le_refl 2)⟩
theorem shList1 {a : Addr} {i : Int} (e : H a = some (.lst [.int i])) (h1 : (listText [((toString i : String) : Str)]).length ≤ 3000) (h : i.natAbs.log2 < 1920) : Shown P w K mg base H [a] (.ref a) (listText [((toString i : String) : Str)]) :=
  ⟨h1, (fun b hb q => by rw [List.mem_singleton.mp hb, e] at q; cases q), fun X _ _ _ _ _ => (RV.list (d := 0) (as := []) e rfl (fun j x t h3 h4 => by
    match j with
    | 0 =>
      simp at h3 h4
      subst h3 h4
      exact RV.int h
    | j + 1 => simp at h3) (fun z => nomatch z)).mono (Same.refl H) (fun b hb => hb) (by decide)⟩
end
end
def rMax2 : List V → Hp → VK → Prop := fun xs H Q => ∃ i j, xs = [.int i, .int j] ∧ Q (.int (if j > i then j else i)) H
def rMin2 : List V → Hp → VK → Prop := fun xs H Q => ∃ i j, xs = [.int i, .int j] ∧ Q (.int (if j < i then j else i)) H
section
variable {K : PySem.W.Frag} {H0 H : Hp} {Q : VK} {σ : L2.St} {te : TE} {ta : TA} {i : Nat}
/-- [e for i in range(n)], from the number n on -/
def LrAt (te : TE) (i : Nat) (σ : L2.St) (Q : VK) (vs : List V) (H1 : Hp) : Prop := ∃ j : Int, vs = [.int j] ∧ -(2 ^ 62) ≤ j ∧ j < 2 ^ 62 ∧ ∀ D, H1 D = none → ∃ W : Nat → Nat → Hp → Prop, (∃ m, W 0 m (upd H1 D (.lst []))) ∧ ∀ k m H, W k m H →
  ((Itr 0 j.toNat).stop k H ∧ Q (.ref D) H) ∨ ((Itr 0 j.toNat).go k H ∧ ∃ Nx : Hp → Prop, (∀ H', Nx H' → ∃ m', m' < m ∧ W (k + 1) m' H') ∧ ∀ x H', (Itr 0 j.toNat).yld k H x H' → gName i x (wipe σ [i]) H' fun σ2 H2 => wipe σ2 [i] = wipe σ [i] ∧ tYes σ2 H2 fun b H3 =>
    if b = true then te σ2 H3 fun y H4 => ∃ acc, H4 D = some (.lst acc) ∧ acc.length < sizeLine ∧ Nx (upd H4 D (.lst (acc ++ [y]))) else Nx H3)
theorem g_lr (h : ta σ H fun vs H1 => LrAt te i σ Q vs H1) : tLc (iRng1 ta) (gName i) tYes te [i] σ H Q := h
/-- every turn the same value; what is tracked ahead stays -/
theorem g_lrM {n : Nat} (v : V) (hn : n ≤ 100000) (he : ∀ (j : Nat) (H1 : Hp), j < n → Same H H1 → ∀ R : VK, (∀ H2, Same H1 H2 → R v H2) → te ((wipe σ [i]).set i (some (.int j))) H1 R)
    (k : ∀ D H1, Same H H1 → H1 D = some (.lst (List.replicate n v)) → Q (.ref D) H1) : LrAt te i σ Q [.int n] H := by
  refine ⟨(n : Int), rfl, by omega, by omega, fun D hD => ?_⟩
  have e : ((n : Int)).toNat = n := by omega
  rw [e]
  refine lc_range (fun j H1 => Same H H1 ∧ H1 D = some (.lst (List.replicate j v))) ⟨fun b o q => by rw [upd_ne (ne_of_none q hD)]; exact q, upd_same⟩ (fun j H1 hj q => ?_) (fun H1 q => k D H1 q.1 q.2)
  obtain ⟨s1, d1⟩ := q
  refine ⟨wipe1 σ i _, ?_⟩
  unfold tYes
  rw [show (0 : Int) + ((j : Nat) : Int) = ((j : Nat) : Int) by omega]
  refine iteT (he j H1 hj s1 _ fun H2 s2 => ⟨_, s2 _ _ d1, ?_, fun b o z => ?_, ?_⟩)
  · rw [List.length_replicate]
    exact Nat.lt_of_le_of_lt (Nat.le_trans (Nat.le_of_lt hj) hn) (by decide)
  · rw [upd_ne (ne_of_none z hD)]
    exact s2 _ _ (s1 _ _ z)
  · rw [upd_same, List.replicate_succ']
theorem g_allR {n : Nat} {D : Addr} (e : H D = some (.lst (List.replicate n (V.bl true)))) (q : Q (.bl true) H) : rAll K [.ref D] H Q := by
  refine ⟨D, List.replicate n true, rfl, ?_, ?_⟩
  · rw [List.map_replicate]
    exact SqL.of e
  · have z : (List.replicate n true).all id = true := by simp
    rw [z]
    exact q
end
end My
set_option Elab.async false
set_option maxRecDepth 100000
set_option maxHeartbeats 4000000
namespace My
open PySem L2

/-- what a source of numbers looks like: what is left of a cell, a seed, a step -/
structure SrcAt (H : Hp) (p : Addr) (A S c : Int) : Prop where
  at_ : H p = some (.lst [.int A, .int S, .int c])
  a0 : 0 ≤ A
  s0 : 0 ≤ S
  s1 : S < 2147483587
  c0 : 0 ≤ c
def spSource (K : PySem.W.Frag) : Sp := fun vs H Q _ => ∃ (a : Addr) (ns : List Int) (t : Int), vs = [.ref a, .int t] ∧ SqL K H a (ns.map V.int) ∧ ns.length ≤ 63 ∧ 0 ≤ t ∧ t ≤ 5 ∧
  ∀ (p : Addr) (H' : Hp) (A S : Int), H p = none → Same H H' → SrcAt H' p A S 0 → Q (.ref p) H'
def spPull : Sp := fun vs H Q _ => ∃ (p : Addr) (w A S c : Int), vs = [.ref p, .int w] ∧ 0 < w ∧ w.natAbs.log2 < 9000 ∧ SrcAt H p A S c ∧
  ∀ (d A' S' c' : Int) (H' : Hp), 0 ≤ d → d < w → Hs H H' [p] [(p, .lst [.int A', .int S', .int c'])] → SrcAt H' p A' S' c' → Q (.int d) H'
/-- the names of built-ins that the text leaves as they are -/
structure Blt (mg : Str → Option Value) : Prop where
  len : mg "len" = none
  int : mg "int" = none
  abs : mg "abs" = none
local macro_rules | `(tactic| walk_at "cond") => `(tactic| first
  | exact Or.inr ⟨by decide, by decide⟩ | exact Or.inl ⟨by decide, by decide⟩ | exact ⟨by decide, by decide, by decide⟩ | exact ⟨by decide, by decide⟩
  | (refine Or.inl ⟨?_, ?_⟩ <;> omega) | (refine Or.inr ⟨?_, ?_⟩ <;> omega)
  | (show (0 : Int) < _; omega))
local macro_rules | `(tactic| walk_at "mem") => `(tactic| first | exact List.Mem.head _ | exact List.Mem.tail _ (List.Mem.head _) | exact Put.head | (refine List.Mem.tail _ ?_; walk_at "mem") | (refine Put.tail ?_; walk_at "mem"))
local macro_rules | `(tactic| walk_at "st") => `(tactic| first
  | with_reducible refine g_seq ?_ | with_reducible refine g_asg ?_ | with_reducible refine g_name ?_ | ((with_reducible show tVar _ _ _ _); refine g_var rfl ?_) | with_reducible refine g_c ?_
  | with_reducible refine g_op ?_ | with_reducible refine g_test ?_ | with_reducible refine g_bl ?_
  | with_reducible refine g_cb ?_ | with_reducible refine g_cons ?_ | with_reducible refine g_nil ?_ | with_reducible refine g_tif ?_ | with_reducible refine g_ifs ?_ | with_reducible refine g_ret ?_
  | with_reducible refine g_drop ?_ | with_reducible refine g_next ?_
  | with_reducible refine g_i0 ?_ | ((with_reducible show rI _ _ _ _ _ _); refine g_i (by walk_at "cond") ?_) | with_reducible refine g_int ?_ | with_reducible refine g_abs ?_ | with_reducible refine g_or ?_
  | with_reducible refine g_and ?_ | with_reducible refine g_not ?_ | with_reducible refine g_lst ?_ | with_reducible refine g_tup ?_
  | with_reducible refine iteT ?_ | with_reducible refine iteF ?_ | with_reducible refine g_par ?_ | with_reducible refine g_two ?_ | with_reducible refine g_sub ?_
  | ((with_reducible show rIxL _ (V.ref _) (V.int _) _ _); refine g_ixM (by assumption) (by walk_at "mem") rfl rfl ?_)
  | ((with_reducible show rSetL (V.ref _) (V.int _) _ _ _); refine g_setM (by assumption) rfl (by walk_at "mem") fun _ _ => ?_))
section
variable {P : Program} {w : World} {K : PySem.W.Frag} {mg : Str → Option Value} {base : Heap}
theorem scSource : FnScope ["_law_cells", "_law_turn", "_law_cell", "_law_seed", "_law_each", "_law_low"] ["_law_cells", "_law_turn"] (defScope sSource) := ⟨rfl, rfl, rfl, by decide +kernel, rfl, by decide +kernel, by decide +kernel⟩
theorem ok_source {f : Addr} {fd : FuncData} (F : Fun K "_law_source" "_law_source" sSource f fd) (T : Blt mg) : FnOk P w K mg base CX0 1 f fd ["_law_cells", "_law_turn"] (spSource K) := by
  refine F.ok scSource (fun vs H Q E h => ?_) (fun cdv A outer s H vs Q E hr h => ?_)
  · obtain ⟨a, ns, t, rfl, _⟩ := h
    rfl
  · obtain ⟨a, ns, t, rfl, hS, hlen, t0, t5, k⟩ := h
    refine ⟨_, C8.pss_cut (ps_set (i := 2) scSource.nd rfl (Or.inl rfl) (pe_ifExp (pt_cmpR op_lt (pv 1) (pLen T.len (pv 0)) (nomark _)) (pInt T.int (pe_ix ix_list (pv 0) (pv 1) (fun _ _ => rfl))) pe_int))
      (pss_cons (ps_set (i := 3) scSource.nd rfl (Or.inl rfl) (pe_op op_add pe_int (pe_op op_mul pe_int (pv 1))))
      (pss_cons (ps_for PassesOwn.never rfl (pi_list (pv 0)) (pg_name (i := 4) scSource.nd rfl (Or.inl rfl))
        (pss_cons (ps_set (i := 5) scSource.nd rfl (Or.inl rfl) (pe_op op_mod (pInt T.int (pv 4)) pe_int))
        (pss_one (ps_set (i := 3) scSource.nd rfl (Or.inl rfl) (pe_op op_mod (pInt T.int (pe_op op_add (pe_op op_add (pe_op op_mul (pv 3) pe_int) (pe_op op_mul (pv 5) pe_int)) (pv 1))) pe_int)))))
      (C8.pss_cut (ps_if (pt_cmpR op_lt (pv 1) (pLen T.len (pv 0)) (nomark _))
        (pss_cons (ps_set (i := 5) scSource.nd rfl (Or.inl rfl) (pe_op op_mod (pInt T.int (pv 2)) pe_int))
        (pss_one (ps_set (i := 3) scSource.nd rfl (Or.inl rfl) (pe_op op_mod (pInt T.int (pe_op op_add (pv 3) (pe_op op_mul (pv 5) pe_int))) pe_int)))) pss_nil)
      (pss_one (ps_ret (pe_lst (pa_cons (pe_ifExp (PW.pt (pw_or (pt_cmpR op_lt (pv 2) pe_int (nomark _)) (pw_or1 (pt_cmpR op_ge (pv 2) (pe_op op_pow pe_int pe_int) (nomark _))))) (pAbs T.abs (pv 2)) pe_int)
        (pa_cons (pv 3) (pa_cons pe_int pa_nil))))))))), ?_⟩
    have n0 : (0 : Int) < 2147483587 := by decide
    have lm : (ns.map V.int).length = ns.length := List.length_map _
    refine ⟨fun σ' H' => ∃ z : Int, σ' = [some (.ref a), some (.int t), some (.int z), none, none, none] ∧ H' = H, ?_, ?_⟩
    · repeat walk_at "st"
      refine g_len (.inl hS) ?_
      repeat walk_at "st"
      refine g_ite (fun c => ?_) (fun c => ?_)
      · have ht : t.toNat < ns.length := by rw [lm] at c; omega
        repeat walk_at "st"
        refine g_ixL (v := .int ns[t.toNat]) hS ?_ ?_
        · have q : atI (ns.map V.int) ((t.toNat : Nat) : Int) = some (.int ns[t.toNat]) := atI_nat (by rw [List.getElem?_map, List.getElem?_eq_getElem ht] <;> rfl)
          have e : t = ((t.toNat : Nat) : Int) := by omega
          rw [← e] at q
          exact q
        repeat walk_at "st"
        exact ⟨_, rfl, rfl⟩
      · repeat walk_at "st"
        exact ⟨_, rfl, rfl⟩
    · rintro σ' H' ⟨z, rfl, rfl⟩
      repeat walk_at "st"
      refine ⟨_, rfl, a, rfl, ⟨_, hS⟩, for_list (K := K) (a := a) (xs := ns.map V.int) (fun i σ H2 => ∃ (S : Int) (v1 v2 : Option V), σ = [some (.ref a), some (.int t), some (.int z), some (.int S), v1, v2] ∧ H2 = H' ∧ 0 ≤ S ∧ S < 2147483587)
        ⟨_, none, none, rfl, rfl, by omega, by omega⟩ (fun i σ H2 _ ⟨_, _, _, _, e, _⟩ => by rw [e]; exact hS) ?_ ?_⟩
      · rintro i y σ H2 hi ⟨S, v1, v2, rfl, rfl, s0, s1⟩
        obtain ⟨n, rfl⟩ : ∃ n, y = V.int n := by
          rw [List.getElem?_map] at hi
          cases e : ns[i]? with
          | none =>
            rw [e] at hi
            cases hi
          | some n =>
            rw [e] at hi
            exact ⟨n, (Option.some.inj hi).symm⟩
        repeat walk_at "st"
        exact ⟨_, _, _, rfl, rfl, Int.emod_nonneg _ (by decide), Int.emod_lt_of_pos _ n0⟩
      · rintro σ H2 ⟨S, v1, v2, rfl, rfl, s0, s1⟩
        refine ⟨fun σ' H' => ∃ (S : Int) (v1 v2 : Option V), σ' = [some (.ref a), some (.int t), some (.int z), some (.int S), v1, v2] ∧ H' = H2 ∧ 0 ≤ S ∧ S < 2147483587, ?_, ?_⟩
        · repeat walk_at "st"
          refine g_len (.inl hS) ?_
          repeat walk_at "st"
          refine g_ite (fun c => ?_) (fun c => ?_)
          · repeat walk_at "st"
            exact ⟨_, _, _, rfl, rfl, Int.emod_nonneg _ (by decide), Int.emod_lt_of_pos _ n0⟩
          · repeat walk_at "st"
            exact ⟨_, _, _, rfl, rfl, s0, s1⟩
        · rintro σ' H' ⟨S, v1, v2, rfl, rfl, s0, s1⟩
          have fin : ∀ A : Int, 0 ≤ A → NewO .lst [V.int A, V.int S, V.int 0] H' Q := fun A hA =>
            ⟨(by show 3 ≤ sizeLine; decide), fun p hp => k p _ A S hp (Hs.start0.new hp).kept ⟨upd_same, hA, s0, s1, Int.le_refl 0⟩⟩
          repeat walk_at "st"
          refine g_ite (fun c => ?_) (fun c => ?_)
          · repeat walk_at "st"
            exact fin _ (by omega)
          · repeat walk_at "st"
            refine g_ite (fun c2 => ?_) (fun c2 => ?_)
            · repeat walk_at "st"
              exact fin _ (by omega)
            · repeat walk_at "st"
              exact fin 0 (Int.le_refl 0)
theorem scPull : FnScope ["_law_source_here", "_law_width", "_law_digit", "_law_seed", "_law_step"] ["_law_source_here", "_law_width"] (defScope sPull) := ⟨rfl, rfl, rfl, by decide +kernel, rfl, by decide +kernel, by decide +kernel⟩
theorem ok_pull {f : Addr} {fd : FuncData} (F : Fun K "_law_pull" "_law_pull" sPull f fd) (T : Blt mg) : FnOk P w K mg base CX0 1 f fd ["_law_source_here", "_law_width"] spPull := by
  refine F.ok scPull (fun vs H Q E h => ?_) (fun cdv A outer s H vs Q E hr h => ?_)
  · obtain ⟨a, ns, t, _, _, rfl, _⟩ := h
    rfl
  · obtain ⟨p, w, A, S, c, rfl, w0, w1, hs, k⟩ := h
    refine ⟨_, pss_cons (ps_asg (pe_op op_add (pe_ix ix_list (pv 0) pe_int (fun _ _ => rfl)) pe_int) (pg_sub (pv 0) pe_int set_list))
      (pss_cons (ps_if (pt_cmpR op_gt (pe_ix ix_list (pv 0) pe_int (fun _ _ => rfl)) pe_int (nomark _))
        (pss_cons (ps_set (i := 2) scPull.nd rfl (Or.inl rfl) (pe_op op_mod (pInt T.int (pe_ix ix_list (pv 0) pe_int (fun _ _ => rfl))) (pv 1)))
        (pss_cons (ps_asg (pe_op op_fdivW (pInt T.int (pe_ix ix_list (pv 0) pe_int (fun _ _ => rfl))) (pv 1)) (pg_sub (pv 0) pe_int set_list))
        (pss_one (ps_ret (pv 2))))) pss_nil)
      (pss_cons (ps_par rfl scPull.nd (i := 3) (j := 4) rfl rfl (by decide) rfl rfl (pa_cons (pInt T.int (pe_ix ix_list (pv 0) pe_int (fun _ _ => rfl))) (pa_cons (pInt T.int (pe_ix ix_list (pv 0) pe_int (fun _ _ => rfl))) pa_nil)) (by rfl))
      (pss_cons (ps_set (i := 3) scPull.nd rfl (Or.inl rfl) (pe_op op_mod (pInt T.int (pe_op op_add (pe_op op_add (pe_op op_mul (pv 3) (pe_op op_add (pe_op op_add (pv 3) pe_int) (pv 4))) (pe_op op_mul pe_int (pv 4))) pe_int)) pe_int))
      (pss_cons (ps_asg (pv 3) (pg_sub (pv 0) pe_int set_list))
      (pss_one (ps_ret (pe_op op_mod (pInt T.int (pe_op op_fdiv (pv 3) pe_int)) (pv 1)))))))), ?_⟩
    obtain ⟨e0, a0, s0, s1, c0⟩ := hs
    have h0 := Hs.start e0
    repeat walk_at "st"
    refine g_ite (fun cc => ?_) (fun cc => ?_)
    · repeat walk_at "st"
      refine g_i ⟨w0, w1⟩ ?_
      repeat walk_at "st"
      rename_i H2 h2
      exact k _ _ _ _ _ (Int.emod_nonneg _ (by omega)) (Int.emod_lt_of_pos _ w0) h2 ⟨h2.on _ List.mem_cons_self, Int.ediv_nonneg a0 (by omega), s0, s1, by omega⟩
    · repeat walk_at "st"
      rename_i H2 h2
      exact k _ _ _ _ _ (Int.emod_nonneg _ (by omega)) (Int.emod_lt_of_pos _ w0) h2 ⟨h2.on _ List.mem_cons_self, a0, Int.emod_nonneg _ (by decide), Int.emod_lt_of_pos _ (by decide), by omega⟩
end
end My
set_option Elab.async false
set_option maxRecDepth 100000
set_option maxHeartbeats 4000000
namespace My
open PySem PySem.Spec PyProof.Rows L2
theorem scI_NotALoad : FnScope ["self", "value"] ["self", "value"] (defScope s_NotALoad___init__) := ⟨rfl, rfl, rfl, by decide +kernel, rfl, by decide +kernel, by decide +kernel⟩
theorem okI_NotALoad {P : Program} {w : World} {K : PySem.W.Frag} {mg : Str → Option Value} {base : Heap} {f C : Addr} {fd : FuncData} {newId : String} {bmB : List Value} (F : Fun K "__init__" "NotALoad.__init__" s_NotALoad___init__ f fd) (T : Tail bmB) (O : OxC K C newId bmB)
    (no : PySem.W.findIn K (.ref C) "value" = some none) : FnOk P w K mg base CX0 1 f fd ["self", "value"] (spI1 C "value") := by
  refine F.ok scI_NotALoad (fun vs H Q E h => ?_) (fun cdv A outer s H vs Q E hr h => ?_)
  · obtain ⟨a, v, rfl, _⟩ := h
    rfl
  · obtain ⟨a, v, rfl, ha, k⟩ := h
    exact ⟨_, pss_one (ps_xst (pv 0) (pv 1)), v, rfl, .ref a, rfl, a, C, newId, bmB, rfl, T, O, no, .inl ⟨ha, k⟩⟩
theorem bdI_NotALoad {K : PySem.W.Frag} {f : Addr} {fd : FuncData} (F : Fun K "__init__" "NotALoad.__init__" s_NotALoad___init__ f fd) : Binds K fd ["self", "value"] [] := F.binds fun _ _ _ _ _ _ us hl => match us, hl with | [_, _], _ => rfl
theorem scI_InvalidName : FnScope ["self", "value"] ["self", "value"] (defScope s_InvalidName___init__) := ⟨rfl, rfl, rfl, by decide +kernel, rfl, by decide +kernel, by decide +kernel⟩
theorem okI_InvalidName {P : Program} {w : World} {K : PySem.W.Frag} {mg : Str → Option Value} {base : Heap} {f C : Addr} {fd : FuncData} {newId : String} {bmB : List Value} (F : Fun K "__init__" "InvalidName.__init__" s_InvalidName___init__ f fd) (T : Tail bmB) (O : OxC K C newId bmB)
    (no : PySem.W.findIn K (.ref C) "value" = some none) : FnOk P w K mg base CX0 1 f fd ["self", "value"] (spI1 C "value") := by
  refine F.ok scI_InvalidName (fun vs H Q E h => ?_) (fun cdv A outer s H vs Q E hr h => ?_)
  · obtain ⟨a, v, rfl, _⟩ := h
    rfl
  · obtain ⟨a, v, rfl, ha, k⟩ := h
    exact ⟨_, pss_one (ps_xst (pv 0) (pv 1)), v, rfl, .ref a, rfl, a, C, newId, bmB, rfl, T, O, no, .inl ⟨ha, k⟩⟩
theorem bdI_InvalidName {K : PySem.W.Frag} {f : Addr} {fd : FuncData} (F : Fun K "__init__" "InvalidName.__init__" s_InvalidName___init__ f fd) : Binds K fd ["self", "value"] [] := F.binds fun _ _ _ _ _ _ us hl => match us, hl with | [_, _], _ => rfl
theorem scI_InvalidText : FnScope ["self", "value"] ["self", "value"] (defScope s_InvalidText___init__) := ⟨rfl, rfl, rfl, by decide +kernel, rfl, by decide +kernel, by decide +kernel⟩
theorem okI_InvalidText {P : Program} {w : World} {K : PySem.W.Frag} {mg : Str → Option Value} {base : Heap} {f C : Addr} {fd : FuncData} {newId : String} {bmB : List Value} (F : Fun K "__init__" "InvalidText.__init__" s_InvalidText___init__ f fd) (T : Tail bmB) (O : OxC K C newId bmB)
    (no : PySem.W.findIn K (.ref C) "value" = some none) : FnOk P w K mg base CX0 1 f fd ["self", "value"] (spI1 C "value") := by
  refine F.ok scI_InvalidText (fun vs H Q E h => ?_) (fun cdv A outer s H vs Q E hr h => ?_)
  · obtain ⟨a, v, rfl, _⟩ := h
    rfl
  · obtain ⟨a, v, rfl, ha, k⟩ := h
    exact ⟨_, pss_one (ps_xst (pv 0) (pv 1)), v, rfl, .ref a, rfl, a, C, newId, bmB, rfl, T, O, no, .inl ⟨ha, k⟩⟩
theorem bdI_InvalidText {K : PySem.W.Frag} {f : Addr} {fd : FuncData} (F : Fun K "__init__" "InvalidText.__init__" s_InvalidText___init__ f fd) : Binds K fd ["self", "value"] [] := F.binds fun _ _ _ _ _ _ us hl => match us, hl with | [_, _], _ => rfl
theorem scI_InvalidNumber : FnScope ["self", "value"] ["self", "value"] (defScope s_InvalidNumber___init__) := ⟨rfl, rfl, rfl, by decide +kernel, rfl, by decide +kernel, by decide +kernel⟩
theorem okI_InvalidNumber {P : Program} {w : World} {K : PySem.W.Frag} {mg : Str → Option Value} {base : Heap} {f C : Addr} {fd : FuncData} {newId : String} {bmB : List Value} (F : Fun K "__init__" "InvalidNumber.__init__" s_InvalidNumber___init__ f fd) (T : Tail bmB) (O : OxC K C newId bmB)
    (no : PySem.W.findIn K (.ref C) "value" = some none) : FnOk P w K mg base CX0 1 f fd ["self", "value"] (spI1 C "value") := by
  refine F.ok scI_InvalidNumber (fun vs H Q E h => ?_) (fun cdv A outer s H vs Q E hr h => ?_)
  · obtain ⟨a, v, rfl, _⟩ := h
    rfl
  · obtain ⟨a, v, rfl, ha, k⟩ := h
    exact ⟨_, pss_one (ps_xst (pv 0) (pv 1)), v, rfl, .ref a, rfl, a, C, newId, bmB, rfl, T, O, no, .inl ⟨ha, k⟩⟩
theorem bdI_InvalidNumber {K : PySem.W.Frag} {f : Addr} {fd : FuncData} (F : Fun K "__init__" "InvalidNumber.__init__" s_InvalidNumber___init__ f fd) : Binds K fd ["self", "value"] [] := F.binds fun _ _ _ _ _ _ us hl => match us, hl with | [_, _], _ => rfl
theorem scI_InvalidPairs : FnScope ["self", "index"] ["self", "index"] (defScope s_InvalidPairs___init__) := ⟨rfl, rfl, rfl, by decide +kernel, rfl, by decide +kernel, by decide +kernel⟩
theorem okI_InvalidPairs {P : Program} {w : World} {K : PySem.W.Frag} {mg : Str → Option Value} {base : Heap} {f C : Addr} {fd : FuncData} {newId : String} {bmB : List Value} (F : Fun K "__init__" "InvalidPairs.__init__" s_InvalidPairs___init__ f fd) (T : Tail bmB) (O : OxC K C newId bmB)
    (no : PySem.W.findIn K (.ref C) "index" = some none) : FnOk P w K mg base CX0 1 f fd ["self", "index"] (spI1 C "index") := by
  refine F.ok scI_InvalidPairs (fun vs H Q E h => ?_) (fun cdv A outer s H vs Q E hr h => ?_)
  · obtain ⟨a, v, rfl, _⟩ := h
    rfl
  · obtain ⟨a, v, rfl, ha, k⟩ := h
    exact ⟨_, pss_one (ps_xst (pv 0) (pv 1)), v, rfl, .ref a, rfl, a, C, newId, bmB, rfl, T, O, no, .inl ⟨ha, k⟩⟩
theorem bdI_InvalidPairs {K : PySem.W.Frag} {f : Addr} {fd : FuncData} (F : Fun K "__init__" "InvalidPairs.__init__" s_InvalidPairs___init__ f fd) : Binds K fd ["self", "index"] [] := F.binds fun _ _ _ _ _ _ us hl => match us, hl with | [_, _], _ => rfl
theorem scI_Lacking : FnScope ["self", "name"] ["self", "name"] (defScope s_Lacking___init__) := ⟨rfl, rfl, rfl, by decide +kernel, rfl, by decide +kernel, by decide +kernel⟩
theorem okI_Lacking {P : Program} {w : World} {K : PySem.W.Frag} {mg : Str → Option Value} {base : Heap} {f C : Addr} {fd : FuncData} {newId : String} {bmB : List Value} (F : Fun K "__init__" "Lacking.__init__" s_Lacking___init__ f fd) (T : Tail bmB) (O : OxC K C newId bmB)
    (no : PySem.W.findIn K (.ref C) "name" = some none) : FnOk P w K mg base CX0 1 f fd ["self", "name"] (spI1 C "name") := by
  refine F.ok scI_Lacking (fun vs H Q E h => ?_) (fun cdv A outer s H vs Q E hr h => ?_)
  · obtain ⟨a, v, rfl, _⟩ := h
    rfl
  · obtain ⟨a, v, rfl, ha, k⟩ := h
    exact ⟨_, pss_one (ps_xst (pv 0) (pv 1)), v, rfl, .ref a, rfl, a, C, newId, bmB, rfl, T, O, no, .inl ⟨ha, k⟩⟩
theorem bdI_Lacking {K : PySem.W.Frag} {f : Addr} {fd : FuncData} (F : Fun K "__init__" "Lacking.__init__" s_Lacking___init__ f fd) : Binds K fd ["self", "name"] [] := F.binds fun _ _ _ _ _ _ us hl => match us, hl with | [_, _], _ => rfl
end My
set_option Elab.async false
set_option maxRecDepth 100000
set_option maxHeartbeats 8000000
namespace My
open PySem PySem.Spec PyProof.Rows L2
/-- a def that is called by its name -/
structure Cal (P : Program) (w : World) (K : PySem.W.Frag) (mg : Str → Option Value) (base : Heap) (k : Nat) (x : Str) (ps : List Str) (sp : Sp) where
  f : Addr
  d : FuncData
  ok : FnOk P w K mg base CX0 k f d ps sp
  m : mg x = some (.ref f)
  kp : PySem.W.keepIn K (.ref f) = true
  b : Binds K d ps []
section
variable {X : Cx} {k : Nat} {x : Str} {p pos : Pos} {e : Expr} {es : List Expr} {ps : List Str} {sp : Sp} {t : TA} {ta tb : TE} {a b : Expr}
theorem pCal (C : Cal X.prog X.w X.K X.mg X.base k x ps sp) (hr : Room k X.A) (ha : PA X (e :: es) t) (hg : Gl X x := by rfl) (hdb : (x == ("__debug__" : Str)) = false := by decide) (he : starEach (e :: es) X.env = (false, eval e X.env) :: starEach es X.env := by rfl) (hpl : (backTo pos (starEach es X.env)).any (·.1) = false := by rfl) :
    PE X (.Call (.Name x p) (e :: es) [] pos) (tCall sp [] E0 t) := pe_call C.ok hr hg C.m C.kp C.b .nil pass0 ha hdb he hpl
theorem pIsi (z : X.mg "isinstance" = none) (ha : PE X a ta) (hb : PE X b tb) (hg : Gl X "isinstance" := by rfl) (hs : starEach [a, b] X.env = (false, eval a X.env) :: starEach [b] X.env := by rfl) (hs2 : starEach [b] X.env = (false, eval b X.env) :: starEach [] X.env := by rfl)
    (hpl : (backTo pos (starEach [b] X.env)).any (·.1) = false := by rfl) : PE X (.Call (.Name "isinstance" p) [a, b] [] pos) (tCB (rIsi X.K) (tCons ta (tCons tb tNil))) :=
  pe_callB call_isi hg z PyProof.Rows.boot_isinstance (pa_cons ha (pa_cons hb pa_nil hs2) hs) (he := hs) (hpl := hpl)
end
section
variable {K : PySem.W.Frag} {H0 H : Hp} {Q : VK} {σ : L2.St} {te ta tb tc : TE} {tt : TT}
theorem g_isi {x c : V} {t u : Value} {b : Bool} (cv : ClsV c u) (ty : TyX K H x t) (k : PySem.W.kitOne K t u = some b) (q : Q (.bl b) H) : rIsi K [x, c] H Q := ⟨x, c, t, u, b, rfl, cv, ty, k, q⟩
theorem g_andV (h : ta σ H fun x H1 => ∃ c, x = .bl c ∧ if c = true then tb σ H1 Q else Q (.bl false) H1) : tAndV ta tb σ H Q := h
theorem g_notV (h : ta σ H fun x H1 => ∃ c, x = .bl c ∧ Q (.bl (!c)) H1) : tNotV ta σ H Q := h
theorem g_chain {r r' : R2} (h : ta σ H fun x H1 => tb σ H1 fun y H2 => r x y H2 fun z H3 => ∃ k, z = .bl k ∧ (if k = true then tc σ H3 fun w' H4 => r' y w' H4 Q else Q (.bl false) H3)) : tChain r r' ta tb tc σ H Q := h
end
/-- [e for c in s], from the text s on -/
def LsAt (te : TE) (i : Nat) (σ : L2.St) (Q : VK) (v : V) (H1 : Hp) : Prop := ∃ x, v = .str x ∧ ∀ D, H1 D = none → ∃ W : Nat → Nat → Hp → Prop, (∃ m, W 0 m (upd H1 D (.lst []))) ∧ ∀ k m H, W k m H →
  ((Its x).stop k H ∧ Q (.ref D) H) ∨ ((Its x).go k H ∧ ∃ Nx : Hp → Prop, (∀ H', Nx H' → ∃ m', m' < m ∧ W (k + 1) m' H') ∧ ∀ x' H', (Its x).yld k H x' H' → gName i x' (wipe σ [i]) H' fun σ2 H2 => wipe σ2 [i] = wipe σ [i] ∧ tYes σ2 H2 fun b H3 =>
    if b = true then te σ2 H3 fun y H4 => ∃ acc, H4 D = some (.lst acc) ∧ acc.length < sizeLine ∧ Nx (upd H4 D (.lst (acc ++ [y]))) else Nx H3)
theorem g_ls {H : Hp} {Q : VK} {σ : L2.St} {te tl : TE} {i : Nat} (h : tl σ H fun v H1 => LsAt te i σ Q v H1) : tLc (iStr tl) (gName i) tYes te [i] σ H Q := h
theorem g_lsM {H : Hp} {Q : VK} {σ : L2.St} {te : TE} {i : Nat} {s : Str} (f : Nat → V) (hl : s.cps.size ≤ 40000) (he : ∀ (j : Nat) (c : Nat) (H1 : Hp), s.cps.toList[j]? = some c → Same H H1 → ∀ R : VK, (∀ H2, Same H1 H2 → R (f c) H2) → te ((wipe σ [i]).set i (some (.str ⟨#[c]⟩))) H1 R)
    (k : ∀ D H1, Same H H1 → H1 D = some (.lst (s.cps.toList.map f)) → Q (.ref D) H1) : LsAt te i σ Q (.str s) H := by
  refine ⟨s, rfl, fun D hD => lc_it walk_str (fun j H1 => Same H H1 ∧ H1 D = some (.lst ((s.cps.toList.take j).map f))) ⟨fun b o q => by rw [upd_ne (ne_of_none q hD)]; exact q, upd_same⟩ (fun _ _ _ _ => True.intro) (fun j x H1 H1' hj q y => ?_) (fun H1 q => ?_)⟩
  · obtain ⟨s1, d1⟩ := q
    obtain ⟨rfl, c, hc, rfl⟩ := y
    have hc : s.cps.toList[j]? = some c := by simpa using hc
    refine ⟨wipe1 σ i _, ?_⟩
    unfold tYes
    refine iteT (he j c H1' hc s1 _ fun H2 s2 => ⟨_, s2 _ _ d1, ?_, fun b o z => ?_, ?_⟩)
    · rw [List.length_map]
      exact Nat.lt_of_le_of_lt (Nat.le_trans (List.length_take_le' _ _) (by simpa using hl)) (by decide)
    · rw [upd_ne (ne_of_none z hD)]
      exact s2 _ _ (s1 _ _ z)
    · rw [upd_same, List.take_add_one, hc, List.map_append]
      rfl
  · obtain ⟨s1, d1⟩ := q
    rw [show s.cps.size = s.cps.toList.length by simp, List.take_length] at d1
    exact k D H1 s1 d1
theorem g_allF {K : PySem.W.Frag} {H : Hp} {Q : VK} {D : Addr} {bs : List Bool} (e : H D = some (.lst (bs.map V.bl))) (q : Q (.bl (bs.all id)) H) : rAll K [.ref D] H Q := ⟨D, bs, rfl, SqL.of e, q⟩
structure BltN (mg : Str → Option Value) : Prop where
  isi : mg "isinstance" = none
  int : mg "int" = none
  bool : mg "bool" = none
  str : mg "str" = none
  tuple : mg "tuple" = none
  len : mg "len" = none
  all : mg "all" = none
  LETTERS : ∃ t, mg "LETTERS" = some (.str "abcdefghijklmnopqrstuvwxyz" t)
  SIGNS : ∃ t, mg "SIGNS" = some (.str "abcdefghijklmnopqrstuvwxyz0123456789" t)
  MOST_SIGNS : ∃ t, mg "MOST_SIGNS" = some (.int 8 t)
local macro_rules | `(tactic| walk_at "cond") => `(tactic| first
  | exact Or.inr ⟨by decide, by decide⟩ | exact Or.inl ⟨by decide, by decide⟩ | exact ⟨by decide, by decide, by decide⟩ | exact ⟨by decide, by decide⟩
  | (refine Or.inl ⟨?_, ?_⟩ <;> omega) | (refine Or.inr ⟨?_, ?_⟩ <;> omega)
  | (show (0 : Int) < _; omega))
local macro_rules | `(tactic| walk_at "mem") => `(tactic| first | exact List.Mem.head _ | exact List.Mem.tail _ (List.Mem.head _) | exact Put.head | (refine List.Mem.tail _ ?_; walk_at "mem") | (apply Put.tail; walk_at "mem"))
local macro_rules | `(tactic| walk_at "st") => `(tactic| first
  | with_reducible refine g_seq ?_ | with_reducible refine g_asg ?_ | with_reducible refine g_name ?_ | ((with_reducible show tVar _ _ _ _); refine g_var rfl ?_) | with_reducible refine g_c ?_
  | with_reducible refine g_op ?_ | with_reducible refine g_test ?_ | with_reducible refine g_bl ?_
  | with_reducible refine g_cb ?_ | with_reducible refine g_cons ?_ | with_reducible refine g_nil ?_ | with_reducible refine g_tif ?_ | with_reducible refine g_ifs ?_ | with_reducible refine g_ret ?_
  | with_reducible refine g_drop ?_ | with_reducible refine g_next ?_
  | with_reducible refine g_i0 ?_ | ((with_reducible show rI _ _ _ _ _ _); refine g_i (by walk_at "cond") ?_) | with_reducible refine g_int ?_ | with_reducible refine g_abs ?_ | with_reducible refine g_or ?_
  | with_reducible refine g_and ?_ | with_reducible refine g_not ?_ | with_reducible refine g_lst ?_ | with_reducible refine g_tup ?_
  | with_reducible refine iteT ?_ | with_reducible refine iteF ?_ | with_reducible refine g_par ?_ | with_reducible refine g_two ?_ | with_reducible refine g_sub ?_
  | ((with_reducible show rIxL _ (V.ref _) (V.int _) _ _); refine g_ixM (by assumption) (by walk_at "mem") rfl rfl ?_)
  | ((with_reducible show rSetL (V.ref _) (V.int _) _ _ _); refine g_setM (by assumption) rfl (by walk_at "mem") fun _ _ => ?_)
  | with_reducible refine g_xmk ?_ | with_reducible refine g_xmkK ?_
  | ((with_reducible show XNew _ (spI1 _ _) _ _ _); refine g_x1 (by assumption) fun _ _ _ _ => ?_)
  | ((with_reducible show XNewK _ _ (spI1 _ _) _ _ _ _); refine g_x1k (by assumption) fun _ _ _ _ => ?_)
  | ((with_reducible show XNew _ (spI3 _ _ _ _) _ _ _); refine g_x3 (by assumption) fun _ _ _ _ => ?_)
  | ((with_reducible show tXmk0 _ _ _ _); refine g_xmk0 (by assumption) fun _ _ _ => ?_)
  | ((with_reducible show NewO _ _ _ _); refine g_newo (by assumption) (by first | decide | simp) fun _ _ _ _ => ?_)
  | ((with_reducible show rCat (V.ref _) (V.ref _) _ _); refine g_cat (by assumption) (by walk_at "mem") (by walk_at "mem") (by first | decide | simp) fun _ _ _ _ => ?_))

local macro_rules | `(tactic| walk_at "st") => `(tactic| first | with_reducible refine g_tcall ?_ | with_reducible refine g_tb ?_ | with_reducible refine g_andV ?_ | with_reducible refine g_notV ?_ | with_reducible refine g_chain ?_ | with_reducible refine g_un ?_ | with_reducible refine g_rU ?_)
section
variable {P : Program} {w : World} {K : PySem.W.Frag} {mg : Str → Option Value} {base : Heap}
/-- int, but no bool -/
def spNum (K : PySem.W.Frag) : Sp := fun vs H Q _ => ∃ v t b1 b2, vs = [v] ∧ TyX K H v t ∧ PySem.W.kitOne K t (.type "int") = some b1 ∧ (b1 = true → PySem.W.kitOne K t (.type "bool") = some b2) ∧ Q (.bl (b1 && !b2)) H
theorem scIsNumber : FnScope ["value"] ["value"] (defScope sIsNumber) := ⟨rfl, rfl, rfl, by decide +kernel, rfl, by decide +kernel, by decide +kernel⟩
theorem ok_isNumber {f : Addr} {fd : FuncData} (F : Fun K "is_number" "is_number" sIsNumber f fd) (T : BltN mg) : FnOk P w K mg base CX0 1 f fd ["value"] (spNum K) := by
  refine F.ok scIsNumber (fun vs H Q E h => ?_) (fun cdv A outer s H vs Q E hr h => ?_)
  · obtain ⟨v, _, _, _, rfl, _⟩ := h
    rfl
  · obtain ⟨v, t, b1, b2, rfl, ty, k1, k2, q⟩ := h
    refine ⟨_, pss_one (ps_ret (pe_and (pIsi T.isi (pv 0) (pe_bltn (v := .ty "int") rfl T.int PyProof.Rows.boot_int rfl)) (pe_one (pe_not (pIsi T.isi (pv 0) (pe_bltn (v := .ty "bool") rfl T.bool (by decide +kernel) rfl)))))), ?_⟩
    repeat walk_at "st"
    refine g_isi (.ty _) ty k1 ?_
    repeat walk_at "st"
    cases b1 with
    | false =>
      refine iteF ?_
      exact q
    | true =>
      refine iteT ?_
      repeat walk_at "st"
      refine g_isi (.ty _) ty (k2 rfl) ?_
      repeat walk_at "st"
      exact q
/-- for a number n: whether it is at least m; nothing else is -/
def spAtLeast (K : PySem.W.Frag) : Sp := fun vs H Q _ => ∃ v m, vs = [v, .int m] ∧ ((∃ n, v = .int n ∧ Q (.bl (decide (n ≥ m))) H) ∨ (∃ t b1 b2, TyX K H v t ∧ PySem.W.kitOne K t (.type "int") = some b1 ∧ (b1 = true → PySem.W.kitOne K t (.type "bool") = some b2) ∧ (b1 && !b2) = false ∧ Q (.bl false) H))
theorem scIsAtLeast : FnScope ["value", "least"] ["value", "least"] (defScope sIsAtLeast) := ⟨rfl, rfl, rfl, by decide +kernel, rfl, by decide +kernel, by decide +kernel⟩
theorem tyInt {H : Hp} {n : Int} : TyX K H (.int n) (.type "int") := .base (.int _)
theorem tyStr {H : Hp} {n : Str} : TyX K H (.str n) (.type "str") := .base (.str _)
theorem ok_isAtLeast {f : Addr} {fd : FuncData} (F : Fun K "is_at_least" "is_at_least" sIsAtLeast f fd) (C : Cal P w K mg base 1 "is_number" ["value"] (spNum K)) : FnOk P w K mg base CX0 2 f fd ["value", "least"] (spAtLeast K) := by
  refine F.ok scIsAtLeast (fun vs H Q E h => ?_) (fun cdv A outer s H vs Q E hr h => ?_)
  · obtain ⟨v, m, rfl, _⟩ := h
    rfl
  · obtain ⟨v, m, rfl, h⟩ := h
    refine ⟨_, pss_one (ps_ret (pe_and (pCal C hr (pa_cons (pv 0) pa_nil)) (pe_one (pe_cmpR op_ge (pv 0) (pv 1) (nomark _))))), ?_⟩
    repeat walk_at "st"
    rcases h with ⟨n, rfl, q⟩ | ⟨t, b1, b2, ty, k1, k2, e, q⟩
    · refine ⟨_, _, true, false, rfl, tyInt, kit_ty (by decide +kernel), fun _ => kit_ty (by decide +kernel), true, rfl, ?_⟩
      refine iteT ?_
      repeat walk_at "st"
      exact q
    · refine ⟨_, _, b1, b2, rfl, ty, k1, k2, b1 && !b2, rfl, ?_⟩
      rw [e]
      refine iteF ?_
      exact q
def firstIn (s z : Str) : Bool := match s.cps.toList with
  | [] => false
  | c :: _ => decide (c ∈ z.cps.toList)
def allIn (s z : Str) : Bool := s.cps.toList.all fun c => decide (c ∈ z.cps.toList)
/-- is the text a name? -/
def nameB (s : Str) : Bool := decide (1 ≤ s.length) && (decide (s.length ≤ 8) && (firstIn s "abcdefghijklmnopqrstuvwxyz" && allIn s "abcdefghijklmnopqrstuvwxyz0123456789"))
def spName (K : PySem.W.Frag) : Sp := fun vs H Q _ => ∃ v, vs = [v] ∧ ((∃ s, v = .str s ∧ s.length ≤ sizeLine ∧ ∀ H', Same H H' → Q (.bl (nameB s)) H') ∨ (∃ t, TyX K H v t ∧ PySem.W.kitOne K t (.type "str") = some false ∧ ∀ H', Same H H' → Q (.bl false) H'))
theorem scIsName : FnScope ["value", "sign"] ["value"] (defScope sIsName) := ⟨rfl, rfl, rfl, by decide +kernel, rfl, by decide +kernel, by decide +kernel⟩
theorem ok_isName {f : Addr} {fd : FuncData} (F : Fun K "is_name" "is_name" sIsName f fd) (T : BltN mg) : FnOk P w K mg base CX0 1 f fd ["value"] (spName K) := by
  obtain ⟨t1, l1⟩ := T.LETTERS
  obtain ⟨t2, l2⟩ := T.SIGNS
  obtain ⟨t3, l3⟩ := T.MOST_SIGNS
  refine F.ok scIsName (fun vs H Q E h => ?_) (fun cdv A outer s H vs Q E hr h => ?_)
  · obtain ⟨v, rfl, _⟩ := h
    rfl
  · obtain ⟨v, rfl, h⟩ := h
    refine ⟨_, pss_cons (ps_if (PW.pt (pw_or (pt_not (pt_val (pIsi T.isi (pv 0) (pe_bltn (v := .ty "str") rfl T.str (by decide +kernel) rfl)))) (pw_or1 (pt_not (pt_chain op_le op_le pe_int (pe_callB call_len_str (by rfl) T.len PySem.boot_len (pa_cons (pv 0) pa_nil)) (pe_glob (v := .int 8) rfl l3 ⟨_, rfl⟩)))))) (pss_one (ps_ret pe_bl)) pss_nil)
      (pss_one (ps_ret (pe_and (pe_cmpR op_in_sign (pe_ix ix_str (pv 0) pe_int (fun _ _ => rfl)) (pe_glob (v := .str "abcdefghijklmnopqrstuvwxyz") rfl l1 ⟨_, rfl⟩) (by rfl))
        (pe_one (pe_callB (cr_all rfl) (by rfl) T.all PyProof.Rows.boot_all (pa_cons (pe_lc (te := tOp (fun x y H Q => ∃ (c : Nat) (z : Str), x = .str ⟨#[c]⟩ ∧ y = .str z ∧ Q (.bl (decide (c ∈ z.cps.toList))) H) (tVar 1) (tC (.str "abcdefghijklmnopqrstuvwxyz0123456789"))) (own := [("sign", 1)]) (g := gName 1) rfl scIsName.nd (pi_str (pv 0))
          (blkOk_by (own := [("sign", 1)]) (N := ["value", "sign"]) (sc := defScope sIsName) (by decide +kernel)) (fun _ _ _ _ _ => pg_name (i := 1) scIsName.nd rfl (Or.inl rfl)) (fun _ _ _ _ _ => pts_nil)
          (fun _ _ _ _ _ => pe_cmpR op_in_sign (pv 1) (pe_glob (v := .str "abcdefghijklmnopqrstuvwxyz0123456789") rfl l2 ⟨_, rfl⟩) (by rfl))) pa_nil)))))), ?_⟩
    repeat walk_at "st"
    rcases h with ⟨z, rfl, hz, q⟩ | ⟨t, ty, k1, q⟩
    · refine g_isi (.ty _) tyStr (kit_ty (by decide +kernel) : PySem.W.kitOne K (.type "str") (.type "str") = some true) ?_
      refine g_bl (iteF ?_)
      repeat walk_at "st"
      refine ⟨z, rfl, hz, ?_⟩
      refine g_i0 (g_bl ?_)
      refine g_ite (fun c1 => ?_) (fun c1 => ?_)
      · refine g_c (g_i0 (g_bl ?_))
        by_cases c2 : (z.length : Int) ≤ 8
        · refine g_iteNF c2 ?_
          have l1 : 1 ≤ z.length := by omega
          have l2 : z.length ≤ 8 := by omega
          cases hc : z.cps.toList with
          | nil =>
            have : z.length = 0 := by
              show z.cps.size = 0
              rw [← Array.length_toList, hc]
              rfl
            omega
          | cons c rest =>
            have e : nameB z = (decide (c ∈ ("abcdefghijklmnopqrstuvwxyz" : Str).cps.toList) && allIn z "abcdefghijklmnopqrstuvwxyz0123456789") := by
              unfold nameB firstIn
              rw [hc, decide_eq_true l1, decide_eq_true l2]
              rfl
            repeat walk_at "st"
            refine ⟨z, 0, c, rfl, rfl, hz, by rw [hc]; exact atI_nat (j := 0) rfl, ?_⟩
            repeat walk_at "st"
            refine ⟨c, _, rfl, rfl, _, rfl, ?_⟩
            refine g_ite (fun c3 => ?_) (fun c3 => ?_)
            · refine g_cb (g_cons (g_ls (g_var rfl ?_)))
              refine g_lsM (fun c => .bl (decide (c ∈ ("abcdefghijklmnopqrstuvwxyz0123456789" : Str).cps.toList))) (Nat.le_trans l2 (by decide)) (fun j c H1 hc1 s1 R kR => ?_) fun D H1 s1 d1 => g_nil ?_
              · refine g_op (g_var rfl (g_c ⟨c, _, rfl, rfl, ?_⟩))
                exact kR H1 (Same.refl H1)
              · refine g_allF (bs := z.cps.toList.map fun c => decide (c ∈ ("abcdefghijklmnopqrstuvwxyz0123456789" : Str).cps.toList)) (by rw [List.map_map]; exact d1) ?_
                have e2 : ((z.cps.toList.map fun c => decide (c ∈ ("abcdefghijklmnopqrstuvwxyz0123456789" : Str).cps.toList)).all id) = nameB z := by
                  rw [e, decide_eq_true c3, Bool.true_and]
                  unfold allIn
                  rw [List.all_map]
                  rfl
                rw [e2]
                exact q H1 s1
            · rw [decide_eq_false c3, Bool.false_and] at e
              rw [← e]
              exact q H (Same.refl H)
        · refine g_iteNT c2 ?_
          repeat walk_at "st"
          have e : nameB z = false := by
            unfold nameB
            rw [decide_eq_false (show ¬ z.length ≤ 8 by omega)]
            simp
          rw [← e]
          exact q H (Same.refl H)
      · refine g_bl (iteT ?_)
        repeat walk_at "st"
        have e : nameB z = false := by
          unfold nameB
          rw [decide_eq_false (show ¬ 1 ≤ z.length by omega)]
          simp
        rw [← e]
        exact q H (Same.refl H)
    · refine g_isi (.ty _) ty k1 ?_
      refine g_bl (iteT (iteT ?_))
      repeat walk_at "st"
      exact q H (Same.refl H)
/-- the text itself, as Python's own -/
def spPlain : Sp := fun vs H Q _ => ∃ s : Str, vs = [.str s] ∧ s.length ≤ sizeLine ∧ Q (.str s) H
theorem scPlainName : FnScope ["name"] ["name"] (defScope sPlainName) := ⟨rfl, rfl, rfl, by decide +kernel, rfl, by decide +kernel, by decide +kernel⟩
theorem cutS_all (z : Str) : cutS z none none = z := by
  have e : (HT.sIx z.length z.length none - HT.sIx z.length 0 none) = z.cps.toList.length := by simp [HT.sIx, Str.length]
  unfold cutS
  rw [e]
  have e2 : HT.sIx z.length 0 none = 0 := by simp [HT.sIx]
  rw [e2, List.drop_zero, List.take_length]
theorem ok_plainName {f : Addr} {fd : FuncData} (F : Fun K "plain_name" "plain_name" sPlainName f fd) : FnOk P w K mg base CX0 1 f fd ["name"] spPlain := by
  refine F.ok scPlainName (fun vs H Q E h => ?_) (fun cdv A outer s H vs Q E hr h => ?_)
  · obtain ⟨v, rfl, _⟩ := h
    rfl
  · obtain ⟨z, rfl, hz, q⟩ := h
    refine ⟨_, pss_one (ps_ret (pe_slice sl_str (pv 0) po_none po_none)), ?_⟩
    refine g_ret ⟨_, rfl, z, rfl, hz, ?_⟩
    show Q (.str (cutS z none none)) H
    rw [cutS_all]
    exact q
end
end My
set_option Elab.async false
set_option maxRecDepth 100000
set_option maxHeartbeats 4000000
namespace My
open PySem PySem.Spec PyProof.Rows L2
/-! ### for i, x in enumerate(t), t a tuple -/
theorem meets_enum1 {v : Value} {o : Obj} {H : Heap → Prop} (B : Begins v o H) :
    Meets (Builtin.«enumerate.__new__» ⟨[.type "enumerate", v], []⟩) (fun _ R s => H s.heap ∧
      R (.ok (.ret (.ref (s.heap.push o).objs.size))) { s with heap := (s.heap.push o).push { cls := .type "enumerate", data := .fields #[.none, .bool false, .ref s.heap.objs.size, rawInt 0, .none, .none] } }) :=
  .of_wp fun prog w A R s h => by
    obtain ⟨hp, g, d, tk, os⟩ := s
    obtain ⟨h1, h⟩ := h
    have hsub := sub_enumerate
    have q1 : ∀ {A' : Around} {E : Value → Shared → Prop} {Q : Value → Shared → Prop}, Q (.ref hp.objs.size) ⟨hp.push o, g, d, tk, os⟩ → wpAny (model prog w) A' (pyIter v) Q E ⟨hp, g, d, tk, os⟩ :=
      fun q => B.iter prog w _ _ ⟨hp, g, d, tk, os⟩ _ h1 q
    wp_walk using q1
    refine wpAny_stack_any fun st => wpAny_pure ?_
    split
    · rename_i c _ _ _ _ _
      cases (c == Value.type "enumerate")
      · wp_walk using q1
        exact ⟨_, rfl, h⟩
      · wp_walk using q1
        exact ⟨_, rfl, h⟩
    · wp_walk using q1
      exact ⟨_, rfl, h⟩
section
variable {prog : Program} {w : World} {A : Around} {E : Value → Shared → Prop} {s : Shared}
theorem enum_begins1 {v : Value} {o : Obj} {H : Heap → Prop} {Q : Value → Shared → Prop} (B : Begins v o H) (h1 : H s.heap)
    (h : ∀ h', IsEnum h' (s.heap.objs.size + 1) s.heap.objs.size 0 .none → h'.get? s.heap.objs.size = some o → h'.objs.size = s.heap.objs.size + 2 →
      (∀ b o, s.heap.get? b = some o → h'.get? b = some o) → Q (.ref (s.heap.objs.size + 1)) { s with heap := h' }) :
    wpAny (model prog w) A (call (.type "enumerate") [v]) Q E s := by
  refine callType_new F.called_enumerate (by decide) (F.typeCall_enumerate_1 _) (F.newCall_enumerate_1 _) (fun obj => F.args_object_init_2 obj _) F.entry_enumerate_new
    (meets_enum1 B) ⟨h1, ?_⟩
  have hz : (s.heap.push o).objs.size = s.heap.objs.size + 1 := Heap.size_push ..
  show _ ∧ _
  rw [hz]
  have he : IsEnum ((s.heap.push o).push { cls := .type "enumerate", data := .fields #[.none, .bool false, .ref s.heap.objs.size, rawInt 0, .none, .none] }) (s.heap.objs.size + 1) s.heap.objs.size 0 .none := by
    have := Heap.get?_push_size (s.heap.push o) (o := { cls := .type "enumerate", data := .fields #[.none, .bool false, .ref s.heap.objs.size, rawInt 0, .none, .none] }) rfl
    rw [hz] at this
    exact this
  refine ⟨⟨_, he, rfl⟩, h _ he (Heap.get?_push_of_some _ (Heap.get?_push_size _ B.free)) (by rw [Heap.size_push, hz]) fun b o x => Heap.get?_push_of_some _ (Heap.get?_push_of_some _ x)⟩
end
/-- the tuple at a, each item in a new pair -/
def IteT (K : PySem.W.Frag) (a : Addr) : It :=
  ⟨fun i H => ∃ (xs : List V) (x : V), SqT K H a xs ∧ xs[i]? = some x, fun i H v H' => ∃ T x, v = .ref T ∧ H T = none ∧ H' = upd H T (.tup [.int (i : Nat), x]) ∧ ∀ xs, SqT K H a xs → xs[i]? = some x, fun i H => ∃ xs : List V, SqT K H a xs ∧ xs.length = i⟩
theorem isTup_of {h : Heap} {a : Addr} {its : Array Value} (t : IsTup h a its) : h.IsTuple a its := t
theorem turn_enumT {P : Program} {w : World} {K : PySem.W.Frag} {elts : List Expr} {kk : Nat} {tpos : Pos} (a e it : Addr) (hai : a ≠ it) :
    Turn P w K (.Tuple elts kk tpos) (IteT K a) [e, it] e (fun i h => (∃ old, IsEnum h e it ((i : Nat) : Int) old) ∧ h.IsTupleIter it a i ∧ e ≠ it ∧ a ≠ e) where
  mem := by simp
  obj := fun i h st b hb => by
    obtain ⟨⟨old, he⟩, ⟨o, ho, hc, hd⟩, _⟩ := st
    have e' : b = e ∨ b = it := by simpa using hb
    rcases e' with z | z
    · rw [z]; exact ⟨_, he, fun v q => nomatch q⟩
    · rw [z]; exact ⟨o, ho, fun v q => by rw [hd] at q; cases q⟩
  keep := fun i h h' st k => let ⟨⟨old, he⟩, hi, hne⟩ := st; ⟨⟨old, k e (by simp) _ he⟩, hi.at fun o q => k it (by simp) o q, hne⟩
  item := by
    intro X hP hw hK hc i pins s σ H E I hf st hg
    subst hP hw hK
    obtain ⟨⟨old, he⟩, hit, hne, hae⟩ := st
    obtain ⟨xs, x, hq, hx⟩ := hg
    obtain ⟨its, rv, p, hz⟩ := I.tuple hq
    obtain ⟨u, hu, ru⟩ := rv.get hx
    have hel : e < s.heap.objs.size := Heap.lt_size he
    have hil : it < s.heap.objs.size := by obtain ⟨_, q, _⟩ := hit; exact Heap.lt_size q
    have hlt : i < its.toArray.size := by
      have q := (List.getElem?_eq_some_iff.mp hu).1
      simpa using q
    refine wpAny_pyNext_enum_itemD (Draws.tuple (A := X.A.in1) (show X.A.in1.handled = Option.none from I.ok.hd hc) it a hai its.toArray) he ⟨hit, isTup_of p⟩ hlt hne (by
      intro z
      rcases List.mem_cons.mp z with z | z
      · exact hne z
      · exact hae (List.mem_singleton.mp z).symm) fun u2 h' tk hP ho hS hT hsz hk => ?_
    obtain ⟨hit', _⟩ := hS
    have hu2 : u2 = u := by
      have q : its[i]? = some u2 := by simpa using hP
      rw [hu] at q
      exact (Option.some.inj q).symm
    subst hu2
    refine ⟨_, rfl, wpAny_letOwnedTupleGo_enum (s := { s with heap := h', toks := tk + 1 }) ho fun h'' he' sb => ?_⟩
    have hT2 : h''.get? s.heap.objs.size = some { cls := .type "tuple", data := .seq #[.int i tk, u2] } := (sb.2 _ (Nat.ne_of_gt hel)).trans hT
    have new : ObjOk X.prog X.w (upd H s.heap.objs.size (.tup [.int (i : Nat), x])) h'' s.heap.objs.size (.tup [.int (i : Nat), x]) :=
      ⟨by show 2 ≤ sizeLine; decide, [.int i tk, u2], .cons ⟨_, rfl⟩ (.cons ru .nil), ⟨_, hT2, rfl, _, rfl⟩⟩
    have I1 : Inv X pins σ (upd H s.heap.objs.size (.tup [.int (i : Nat), x])) { s with heap := h'', toks := tk + 1 } :=
      I.turnedNew (ch := [e, it]) (fun b ob hb q => (sb.2 b (fun z => hb (by simp [z]))).trans (hk b ob (fun z => hb (by simp [z])) (fun z => hb (by simp [z])) q)) hf (Nat.le_refl _) new
    refine ⟨.ref s.heap.objs.size, _, I1, rfl, ⟨_, x, rfl, I.hok.fresh (Nat.le_refl _), rfl, fun ys hy => by rw [I.tuple_inj hy hq]; exact hx⟩, ⟨⟨u2, ?_⟩, hit'.at fun o q => (sb.2 it (Ne.symm hne)).trans q, hne, hae⟩, fun b hb => ?_⟩
    · have e1 : ((i + 1 : Nat) : Int) = (i : Int) + 1 := by omega
      rw [e1]; exact he'
    · have hb' : b < s.heap.objs.size := by
        have e' : b = e ∨ b = it := by simpa using hb
        rcases e' with z | z
        · rw [z]; exact hel
        · rw [z]; exact hil
      rw [upd_ne (Nat.ne_of_lt hb')]
      exact (hf b hb).1
  done := by
    intro X hP hw hK hc i pins s σ H E I hf st hg
    subst hP hw hK
    obtain ⟨⟨old, he⟩, hit, hne, hae⟩ := st
    obtain ⟨xs, hq, hx⟩ := hg
    obtain ⟨its, rv, p, hz⟩ := I.tuple hq
    obtain ⟨f0, f1, f2, f3, f4, f5⟩ := hf it (by simp)
    have hl := rv.length
    have ei : its.toArray.size = i := by
      rw [List.size_toArray]
      omega
    refine wpAny_pyNext_enum_endD (n := its.toArray.size) (Draws.tuple (A := X.A.in1) (show X.A.in1.handled = Option.none from I.ok.hd hc) it a hai its.toArray) he ⟨by rw [ei]; exact hit, isTup_of p⟩ fun h' eb => ⟨rfl, ?_⟩
    exact I.turned (t' := s.toks) (fun b o hb q => eb b o hb q) f0 f1 f3 f4 f5
  self := fun A i s Q E st h => let ⟨⟨_, he⟩, _⟩ := st; wpAny_pyIter_enum he h
def iEnumT (K : PySem.W.Frag) (ta : TA) : TI := fun σ H R => ta σ H fun vs H1 => ∃ a xs, vs = [.ref a] ∧ SqT K H1 a xs ∧ R (IteT K a) H1
theorem pi_enumT {X : Cx} {e : Expr} {ta : TA} {p pos tpos : Pos} {elts : List Expr} {kk : Nat} (hg : Gl X "enumerate") (hm : X.mg "enumerate" = none) (ha : PA X [e] ta) (hs : starEach [e] X.env = [(false, eval e X.env)] := by rfl) :
    PI X (.Tuple elts kk tpos) (.Call (.Name "enumerate" p) [e] [] pos) (iEnumT X.K ta) := by
  refine ⟨fun pins s σ H R I h => ?_⟩
  refine Call_ (ld_blt I hg hm boot_enumerate (PyProof.Rows.callWith_type1 (thn (ha.run pos pins s σ H _ I h) fun us s1 ⟨vs, H1, I1, r1, q1⟩ => ?_) hs rfl))
  obtain ⟨a, xs, ex, hq, q⟩ := q1
  subst ex
  cases r1 with
  | cons r rr =>
    cases rr
    cases r
    obtain ⟨its, rv, p', hz⟩ := I1.tuple hq
    have ha' : a < s1.heap.objs.size := by
      obtain ⟨o, z, _⟩ := isTup_of p'
      exact Heap.lt_size z
    refine enum_begins1 (begins_tuple a its.toArray) (isTup_of p') fun h' he hit hsz hk => wpAny_pyIter_enum he ?_
    have I2 : Inv X pins σ H1 { s1 with heap := h' } := I1.kept (t' := s1.toks) hk
    refine ⟨s1.heap.objs.size + 1, [s1.heap.objs.size + 1, s1.heap.objs.size], _, _, H1, rfl, I2, turn_enumT a (s1.heap.objs.size + 1) s1.heap.objs.size (Nat.ne_of_lt ha'), ⟨⟨.none, he⟩, ⟨_, hit, rfl, rfl⟩, Nat.succ_ne_self _, Nat.ne_of_lt (Nat.lt_succ_of_lt ha')⟩, fun b hb => ?_, q⟩
    have e' : b = s1.heap.objs.size + 1 ∨ b = s1.heap.objs.size := by simpa using hb
    have hle : s1.heap.objs.size ≤ b := by
      rcases e' with z | z
      · rw [z]; exact Nat.le_add_right _ _
      · rw [z]; exact Nat.le_refl _
    exact I1.fpOk hle (I1.hok.fresh hle)
end My
set_option Elab.async false
set_option maxRecDepth 100000
set_option maxHeartbeats 8000000
namespace My
open PySem PySem.Spec PyProof.Rows L2
theorem Same.seqT' {K : PySem.W.Frag} {H H' : Hp} {a : Addr} {xs : List V} (e : Same H H') (h : SqT K H a xs) : SqT K H' a xs := by
  rcases h with (h | ⟨o, h⟩) | h
  · exact .inl (.inl (e _ _ h))
  · exact .inl (.inr ⟨o, e _ _ h⟩)
  · exact .inr h
theorem tyTup {K : PySem.W.Frag} {H : Hp} {a : Addr} {xs : List V} (h : SqT K H a xs) : TyX K H (.ref a) (.type "tuple") := by
  rcases h with (h | ⟨o, h⟩) | ⟨o, its, n, h, c, _⟩
  · exact .base (.tup h)
  · exact .fTuple h
  · exact .kTuple h c
theorem tySame {K : PySem.W.Frag} {H H' : Hp} {v : V} {t : Value} (h : TyX K H v t) (e : Same H H') : TyX K H' v t := by
  cases h with
  | base b =>
    cases b with
    | non => exact .base .non
    | bl x => exact .base (.bl x)
    | int x => exact .base (.int x)
    | str x => exact .base (.str x)
    | flt x => exact .base (.flt x)
    | lst h => exact .base (.lst (e _ _ h))
    | frz h => exact .base (.frz (e _ _ h))
    | tup h => exact .base (.tup (e _ _ h))
    | dK h => exact .base (.dK (e _ _ h))
    | dT h => exact .base (.dT (e _ _ h))
    | ins h c1 c2 c3 c4 c5 => exact .base (.ins (e _ _ h) c1 c2 c3 c4 c5)
  | byt b => exact .byt b
  | set h => exact .set (e _ _ h)
  | kList a b => exact .kList a b
  | kTuple a b => exact .kTuple a b
  | kDict a b => exact .kDict a b
  | fTuple h => exact .fTuple (e _ _ h)
  | fDict h => exact .fDict (e _ _ h)
/-- a value as a name: which one, if it is one -/
inductive NameK (K : PySem.W.Frag) (H : Hp) : V → Option Str → Prop where
  | str {s : Str} (h : s.length ≤ sizeLine) : NameK K H (.str s) (if nameB s = true then some s else none)
  | other {v : V} {t : Value} (ty : TyX K H v t) (k : PySem.W.kitOne K t (.type "str") = some false) : NameK K H v none
/-- a value as a count of at least 1 -/
inductive CountK (K : PySem.W.Frag) (H : Hp) : V → Option Int → Prop where
  | int {n : Int} : CountK K H (.int n) (if 1 ≤ n then some n else none)
  | other {v : V} {t : Value} {b1 b2 : Bool} (ty : TyX K H v t) (k1 : PySem.W.kitOne K t (.type "int") = some b1) (k2 : b1 = true → PySem.W.kitOne K t (.type "bool") = some b2) (e : (b1 && !b2) = false) : CountK K H v none
def pairOf : Option Str → Option Int → Option (Str × Int)
  | some s, some n => some (s, n)
  | _, _ => none
/-- a value as a pair -/
inductive PairK (K : PySem.W.Frag) (H : Hp) : V → Option (Str × Int) → Prop where
  | no {v : V} {t : Value} (ty : TyX K H v t) (k : PySem.W.kitOne K t (.type "tuple") = some false) : PairK K H v none
  | len {u : Addr} {xs : List V} (q : SqT K H u xs) (n : xs.length ≠ 2) : PairK K H (.ref u) none
  | two {u : Addr} {a b : V} {x : Option Str} {y : Option Int} (q : SqT K H u [a, b]) (h1 : NameK K H a x) (h2 : CountK K H b y) : PairK K H (.ref u) (pairOf x y)
theorem NameK.same {K : PySem.W.Frag} {H H' : Hp} {v : V} {r : Option Str} (h : NameK K H v r) (e : Same H H') : NameK K H' v r := by
  cases h with
  | str h => exact .str h
  | other ty k => exact .other (tySame ty e) k
theorem CountK.same {K : PySem.W.Frag} {H H' : Hp} {v : V} {r : Option Int} (h : CountK K H v r) (e : Same H H') : CountK K H' v r := by
  cases h with
  | int => exact .int
  | other ty k1 k2 z => exact .other (tySame ty e) k1 k2 z
theorem PairK.same {K : PySem.W.Frag} {H H' : Hp} {v : V} {r : Option (Str × Int)} (h : PairK K H v r) (e : Same H H') : PairK K H' v r := by
  cases h with
  | no ty k => exact .no (tySame ty e) k
  | len q n => exact .len (Same.seqT' e q) n
  | two q h1 h2 => exact .two (Same.seqT' e q) (h1.same e) (h2.same e)
/-- the text of a pair that is one -/
theorem PairK.some' {K : PySem.W.Frag} {H : Hp} {v : V} {s : Str} {n : Int} (h : PairK K H v (some (s, n))) : ∃ u, v = .ref u ∧ SqT K H u [.str s, .int n] ∧ nameB s = true ∧ 1 ≤ n ∧ s.length ≤ sizeLine := by
  generalize e : some (s, n) = r at h
  cases h with
  | no ty k => cases e
  | len q n => cases e
  | two q h1 h2 =>
    cases h1 with
    | other ty k =>
      simp [pairOf] at e
    | @str z hz =>
      cases h2 with
      | other ty k1 k2 z =>
        split at e <;> simp [pairOf] at e
      | @int m =>
        by_cases c1 : nameB z = true
        · by_cases c2 : 1 ≤ m
          · rw [if_pos c1, if_pos c2] at e
            cases e
            exact ⟨_, rfl, q, c1, c2, hz⟩
          · rw [if_pos c1, if_neg c2] at e
            cases e
        · rw [if_neg c1] at e
          cases e
theorem PairAt.k {K : PySem.W.Frag} {H : Hp} {v : V} {p : Str × Int} (h : PairAt H v p) (h1 : nameB p.1 = true) (h2 : 1 ≤ p.2) (h3 : p.1.length ≤ sizeLine) : PairK K H v (some p) := by
  obtain ⟨u, rfl, e⟩ := h
  have q := PairK.two (K := K) (H := H) (SqT.of e) (.str h3) .int
  rw [if_pos h1, if_pos h2] at q
  exact q
theorem walk_enumT {K : PySem.W.Frag} {a : Addr} {xs : List V} : Walk (IteT K a) xs.length (fun H => SqT K H a xs) (YPair (fun i => some (.int (i : Nat))) (fun i => xs[i]?)) := by
  refine ⟨fun i _ hi q => ⟨xs, xs[i], q, by simp [hi]⟩, fun _ q => ⟨xs, q, rfl⟩, fun i H v H' _ q y => ?_⟩
  obtain ⟨T, x, h1, h2, h3, h4⟩ := y
  exact ⟨T, .int (i : Nat), x, h1, h2, h3, rfl, h4 xs q⟩
local macro_rules | `(tactic| walk_at "cond") => `(tactic| first
  | exact Or.inr ⟨by decide, by decide⟩ | exact Or.inl ⟨by decide, by decide⟩ | exact ⟨by decide, by decide, by decide⟩ | exact ⟨by decide, by decide⟩
  | (refine Or.inl ⟨?_, ?_⟩ <;> omega) | (refine Or.inr ⟨?_, ?_⟩ <;> omega)
  | (show (0 : Int) < _; omega))
local macro_rules | `(tactic| walk_at "mem") => `(tactic| first | exact List.Mem.head _ | exact List.Mem.tail _ (List.Mem.head _) | exact Put.head | (refine List.Mem.tail _ ?_; walk_at "mem") | (apply Put.tail; walk_at "mem"))
local macro_rules | `(tactic| walk_at "st") => `(tactic| first
  | with_reducible refine g_seq ?_ | with_reducible refine g_asg ?_ | with_reducible refine g_name ?_ | ((with_reducible show tVar _ _ _ _); refine g_var rfl ?_) | with_reducible refine g_c ?_
  | with_reducible refine g_op ?_ | with_reducible refine g_test ?_ | with_reducible refine g_bl ?_
  | with_reducible refine g_cb ?_ | with_reducible refine g_cons ?_ | with_reducible refine g_nil ?_ | with_reducible refine g_tif ?_ | with_reducible refine g_ifs ?_ | with_reducible refine g_ret ?_
  | with_reducible refine g_drop ?_ | with_reducible refine g_next ?_
  | with_reducible refine g_i0 ?_ | ((with_reducible show rI _ _ _ _ _ _); refine g_i (by walk_at "cond") ?_) | with_reducible refine g_int ?_ | with_reducible refine g_abs ?_ | with_reducible refine g_or ?_
  | with_reducible refine g_and ?_ | with_reducible refine g_not ?_ | with_reducible refine g_lst ?_ | with_reducible refine g_tup ?_
  | with_reducible refine iteT ?_ | with_reducible refine iteF ?_ | with_reducible refine g_par ?_ | with_reducible refine g_two ?_ | with_reducible refine g_sub ?_
  | ((with_reducible show rIxL _ (V.ref _) (V.int _) _ _); refine g_ixM (by assumption) (by walk_at "mem") rfl rfl ?_)
  | ((with_reducible show rSetL (V.ref _) (V.int _) _ _ _); refine g_setM (by assumption) rfl (by walk_at "mem") fun _ _ => ?_)
  | with_reducible refine g_xmk ?_ | with_reducible refine g_xmkK ?_
  | ((with_reducible show XNew _ (spI1 _ _) _ _ _); refine g_x1 (by assumption) fun _ _ _ _ => ?_)
  | ((with_reducible show XNewK _ _ (spI1 _ _) _ _ _ _); refine g_x1k (by assumption) fun _ _ _ _ => ?_)
  | ((with_reducible show XNew _ (spI3 _ _ _ _) _ _ _); refine g_x3 (by assumption) fun _ _ _ _ => ?_)
  | ((with_reducible show tXmk0 _ _ _ _); refine g_xmk0 (by assumption) fun _ _ _ => ?_)
  | ((with_reducible show NewO _ _ _ _); refine g_newo (by assumption) (by first | decide | simp) fun _ _ _ _ => ?_)
  | ((with_reducible show rCat (V.ref _) (V.ref _) _ _); refine g_cat (by assumption) (by walk_at "mem") (by walk_at "mem") (by first | decide | simp) fun _ _ _ _ => ?_))

local macro_rules | `(tactic| walk_at "st") => `(tactic| first | with_reducible refine g_tcall ?_ | with_reducible refine g_tb ?_ | with_reducible refine g_andV ?_ | with_reducible refine g_notV ?_ | with_reducible refine g_chain ?_ | with_reducible refine g_un ?_ | with_reducible refine g_rU ?_)
section
variable {P : Program} {w : World} {K : PySem.W.Frag} {mg : Str → Option Value} {base : Heap}
theorem name_of {H : Hp} {Q : VK} {E : XK} {v : V} {x : Option Str} (h : NameK K H v x) (q : ∀ H', Same H H' → Q (.bl x.isSome) H') : spName K [v] H Q E := by
  cases h with
  | @str s hz =>
    refine ⟨_, rfl, .inl ⟨s, rfl, hz, fun H' e => ?_⟩⟩
    have z := q H' e
    by_cases c : nameB s = true
    · rw [if_pos c] at z
      rw [c]
      exact z
    · rw [if_neg c] at z
      rw [Bool.not_eq_true] at c
      rw [c]
      exact z
  | other ty k => exact ⟨_, rfl, .inr ⟨_, ty, k, q⟩⟩
theorem count_of {H : Hp} {Q : VK} {E : XK} {v : V} {y : Option Int} (h : CountK K H v y) (q : Q (.bl y.isSome) H) : spAtLeast K [v, .int 1] H Q E := by
  cases h with
  | @int n =>
    refine ⟨_, 1, rfl, .inl ⟨n, rfl, ?_⟩⟩
    by_cases c : 1 ≤ n
    · rw [if_pos c] at q
      rw [decide_eq_true (show n ≥ 1 from c)]
      exact q
    · rw [if_neg c] at q
      rw [decide_eq_false (show ¬ n ≥ 1 from c)]
      exact q
  | other ty k1 k2 e => exact ⟨_, 1, rfl, .inr ⟨_, _, _, ty, k1, k2, e, q⟩⟩
def spPair (K : PySem.W.Frag) : Sp := fun vs H Q _ => ∃ v r, vs = [v] ∧ PairK K H v r ∧ ∀ H', Same H H' → Q (.bl r.isSome) H'
theorem scIsPair : FnScope ["value"] ["value"] (defScope sIsPair) := ⟨rfl, rfl, rfl, by decide +kernel, rfl, by decide +kernel, by decide +kernel⟩
theorem g_lenT {H : Hp} {Q : VK} {p : Addr} {ys : List V} (e : SqT K H p ys) (h : Q (.int ys.length) H) : rLen K [.ref p] H Q := ⟨p, ys, rfl, .inr e, h⟩
theorem g_ixTN {H : Hp} {Q : VK} {p : Addr} {xs : List V} {i : Int} {v : V} (e : SqT K H p xs) (a : atI xs i = some v) (h : Q v H) : rIxT K (.ref p) (.int i) H Q := ⟨p, xs, i, v, rfl, rfl, e, a, h⟩
theorem ok_isPair {f : Addr} {fd : FuncData} (F : Fun K "is_pair" "is_pair" sIsPair f fd) (T : BltN mg) (C1 : Cal P w K mg base 1 "is_name" ["value"] (spName K)) (C2 : Cal P w K mg base 2 "is_at_least" ["value", "least"] (spAtLeast K)) :
    FnOk P w K mg base CX0 3 f fd ["value"] (spPair K) := by
  refine F.ok scIsPair (fun vs H Q E h => ?_) (fun cdv A outer s H vs Q E hr h => ?_)
  · obtain ⟨v, _, rfl, _⟩ := h
    rfl
  · obtain ⟨v, r, rfl, h, q⟩ := h
    have hr1 := hr.mono (by decide : 1 ≤ 2)
    refine ⟨_, pss_cons (ps_if (PW.pt (pw_or (pt_not (pt_val (pIsi T.isi (pv 0) (pe_bltn (v := .ty "tuple") rfl T.tuple (by decide +kernel) rfl)))) (pw_or1 (pt_cmpR op_ne (pLen T.len (pv 0)) pe_int (nomark _))))) (pss_one (ps_ret pe_bl)) pss_nil)
      (pss_one (ps_ret (pe_and (pCal C1 hr1 (pa_cons (pe_ix ix_tup (pv 0) pe_int (fun _ _ => rfl)) pa_nil)) (pe_one (pCal C2 hr (pa_cons (pe_ix ix_tup (pv 0) pe_int (fun _ _ => rfl)) (pa_cons pe_int pa_nil))))))), ?_⟩
    repeat walk_at "st"
    cases h with
    | no ty k =>
      refine g_isi (.ty _) ty k (g_bl (iteT (iteT ?_)))
      repeat walk_at "st"
      exact q H (Same.refl H)
    | @len u xs hq n =>
      refine g_isi (.ty _) (tyTup hq) (kit_ty (by decide +kernel) : PySem.W.kitOne K (.type "tuple") (.type "tuple") = some true) (g_bl (iteF ?_))
      repeat walk_at "st"
      refine g_lenT hq ?_
      repeat walk_at "st"
      refine g_neInt (g_bl ?_)
      refine g_iteNT (fun z => n (by
        have y := V.int.inj z
        omega)) ?_
      repeat walk_at "st"
      exact q H (Same.refl H)
    | @two u a b x y hq h1 h2 =>
      refine g_isi (.ty _) (tyTup hq) (kit_ty (by decide +kernel) : PySem.W.kitOne K (.type "tuple") (.type "tuple") = some true) (g_bl (iteF ?_))
      repeat walk_at "st"
      refine g_lenT hq ?_
      repeat walk_at "st"
      refine g_neInt (g_bl ?_)
      refine g_iteNF rfl ?_
      repeat walk_at "st"
      refine g_ixTN hq (atI_nat (j := 0) rfl) ?_
      repeat walk_at "st"
      refine name_of h1 fun H' e => ⟨_, rfl, ?_⟩
      cases x with
      | none =>
        refine iteF ?_
        exact q H' e
      | some z =>
        refine iteT ?_
        repeat walk_at "st"
        refine g_ixTN (Same.seqT' e hq) (atI_nat (j := 1) rfl) ?_
        repeat walk_at "st"
        refine count_of (h2.same e) ?_
        have q := q H' e
        cases y <;> exact q
/-- the index of the first one that is no pair or has a name of one ahead (or of those seen) -/
def wrongFrom : Nat → List Str → List (Option (Str × Int)) → Option Nat
  | _, _, [] => none
  | i, _, none :: _ => some i
  | i, seen, some p :: r => if p.1 ∈ seen then some i else wrongFrom (i + 1) (seen ++ [p.1]) r
theorem g_din {H : Hp} {Q : VK} {σ : L2.St} {ty td : TE} (h : ty σ H fun y H1 => td σ H1 fun x H2 => ∃ a o, x = .ref a ∧ DGet H2 a y o ∧ Q (.bl o.isSome) H2) : tDIn ty td σ H Q := h
theorem g_dput {H : Hp} {σ : L2.St} {D : Ends} {ty td tv : TE} (h : tv σ H fun v H1 => td σ H1 fun x H2 => ty σ H2 fun y H3 => ∃ a H4, x = .ref a ∧ DPut H3 a y v H4 ∧ D.nx σ H4) : sDPut td ty tv D σ H := h
def spWrong (K : PySem.W.Frag) : Sp := fun vs H Q _ => ∃ t xs rs, vs = [.ref t] ∧ SqT K H t xs ∧ Paired (PairK K H) xs rs ∧ xs.length ≤ 1000 ∧ ∀ H', Same H H' → Q (match wrongFrom 0 [] rs with | none => .non | some i => .int (i : Nat)) H'
theorem scWrong : FnScope ["pairs", "seen", "at", "pair"] ["pairs"] (defScope sWrong) := ⟨rfl, rfl, rfl, by decide +kernel, rfl, by decide +kernel, by decide +kernel⟩
theorem valV_seen (seen : List Str) (s : Str) : (valV (seen.map fun z => ((Sum.inr z : Key), V.bl true)) (Sum.inr s)).isSome = decide (s ∈ seen) := by
  induction seen with
  | nil => rfl
  | cons z r ih =>
    unfold valV at ih ⊢
    rw [List.map_cons, List.find?_cons]
    by_cases h : z = s
    · subst h
      simp
    · have e : decide (((Sum.inr z : Key), V.bl true).1 = Sum.inr s) = false := by
        simp [h]
      rw [e]
      simp only [ih]
      simp [h, Ne.symm h]
theorem putK_seen {seen : List Str} {s : Str} (h : s ∉ seen) : putK (seen.map fun z => ((Sum.inr z : Key), V.bl true)) (Sum.inr s) (.bl true) = (seen ++ [s]).map fun z => ((Sum.inr z : Key), V.bl true) := by
  unfold putK
  rw [if_neg, List.map_append]
  · rfl
  · simp only [List.any_eq_true, not_exists, not_and, decide_eq_true_eq]
    intro x hx e
    obtain ⟨z, hz, rfl⟩ := List.mem_map.mp hx
    cases e
    exact h hz
theorem ok_wrong {f : Addr} {fd : FuncData} (F : Fun K "wrong_pair_at" "wrong_pair_at" sWrong f fd) (mEn : mg "enumerate" = none) (C : Cal P w K mg base 3 "is_pair" ["value"] (spPair K)) : FnOk P w K mg base CX0 4 f fd ["pairs"] (spWrong K) := by
  refine F.ok scWrong (fun vs H Q E h => ?_) (fun cdv A outer s H vs Q E hr h => ?_)
  · obtain ⟨v, _, _, rfl, _⟩ := h
    rfl
  · obtain ⟨t, xs, rs, rfl, hS, pr, hl, q⟩ := h
    have hu := hu_of hr
    refine ⟨_, pss_cons (ps_set (i := 1) scWrong.nd rfl (Or.inl rfl) pe_dnewK)
      (pss_cons (ps_for PassesOwn.never rfl (pi_enumT (by rfl) mEn (pa_cons (pv 0) pa_nil)) (pg_tup rfl (pgs_cons (pg_name (i := 2) scWrong.nd rfl (Or.inl rfl)) (pgs_cons (pg_name (i := 3) scWrong.nd rfl (Or.inl rfl)) pgs_nil)))
        (pss_cons (ps_if (PW.pt (pw_or (pt_not (pt_val (pCal C hr (pa_cons (pv 3) pa_nil)))) (pw_or1 (pt_cmp (pc_din hu (pe_ix ix_tup (pv 3) pe_int (fun _ _ => rfl)) (pv 1)))))) (pss_one (ps_ret (pv 2))) pss_nil)
        (pss_one (ps_dput hu (pv 1) (pe_ix ix_tup (pv 3) pe_int (fun _ _ => rfl)) pe_bl rfl))))
      (pss_one (ps_ret pe_non))), ?_⟩
    refine g_seq (g_asg fun d hd => ?_)
    repeat walk_at "st"
    refine ⟨_, rfl, t, xs, rfl, Same.seqT' (fun b o z => by rw [upd_ne (ne_of_none z hd)]; exact z) hS, ?_⟩
    refine for_it walk_enumT (fun i σ H1 => ∃ v2 v3 seen, σ = [some (.ref t), some (.ref d), v2, v3] ∧ Same H H1 ∧ H1 d = some (.dK (seen.map fun z => ((Sum.inr z : Key), V.bl true))) ∧ seen.length = i ∧ wrongFrom i seen (rs.drop i) = wrongFrom 0 [] rs)
      ⟨none, none, [], rfl, (fun b o z => by rw [upd_ne (ne_of_none z hd)]; exact z), upd_same, rfl, rfl⟩ (fun i σ H1 _ ⟨_, _, _, _, s1, _⟩ => Same.seqT' s1 hS) ?_ ?_
    · rintro i x σ H1 H1' hi ⟨v2, v3, seen, rfl, s1, d1, ln, wf⟩ ⟨T, x0, y0, rfl, hT, rfl, e1, e2⟩
      cases e1
      have hir : i < rs.length := by
        rw [← pr.length]
        exact hi
      have er : rs.drop i = rs[i] :: rs.drop (i + 1) := List.drop_eq_getElem_cons hir
      have pk : PairK K H y0 rs[i] := pairedGet pr e2 (List.getElem?_eq_getElem hir)
      rw [er] at wf
      generalize rs[i] = r at pk wf
      generalize hH2 : upd H1 T (.tup [.int (i : Nat), y0]) = H2
      have s2 : Same H1 H2 := fun b o z => by
        rw [← hH2, upd_ne (ne_of_none z hT)]
        exact z
      have d2 := s2 _ _ d1
      have hT2 : H2 T = some (.tup [.int (i : Nat), y0]) := by
        rw [← hH2]
        exact upd_same
      refine ⟨T, _, rfl, SqT.of hT2, rfl, _, _, rfl, g_name ⟨_, _, rfl, g_name ⟨rfl, ?_⟩⟩⟩
      repeat walk_at "st"
      refine ⟨y0, r, rfl, pk.same (s1.trans s2), fun H3 e3 => ?_⟩
      have d3 := e3 _ _ d2
      have s3 := (s1.trans s2).trans e3
      refine g_bl ?_
      cases r with
      | none =>
        refine iteT (iteT ?_)
        repeat walk_at "st"
        have z := q H3 s3
        rw [← wf] at z
        exact z
      | some p =>
        obtain ⟨s, n⟩ := p
        obtain ⟨u, rfl, hq, nb, n1, _⟩ := pk.some'
        refine iteF ?_
        repeat walk_at "st"
        refine g_din ?_
        repeat walk_at "st"
        refine g_ixTN (Same.seqT' s3 hq) (atI_nat (j := 0) rfl) ?_
        repeat walk_at "st"
        refine ⟨d, _, rfl, DGet.k (k := Sum.inr s) d3, ?_⟩
        refine g_bl ?_
        rw [valV_seen]
        refine g_ite (fun c => ?_) (fun c => ?_)
        · repeat walk_at "st"
          have z := q H3 s3
          rw [← wf] at z
          unfold wrongFrom at z
          rw [if_pos c] at z
          exact z
        · repeat walk_at "st"
          refine g_dput (g_c (g_var rfl (g_op (g_var rfl (g_c (g_ixTN (Same.seqT' s3 hq) (atI_nat (j := 0) rfl) ?_))))))
          refine ⟨d, _, rfl, DPut.k (k := Sum.inr s) d3 (small1000 (by rw [List.length_map]; omega)), ?_⟩
          rw [putK_seen c]
          refine ⟨_, _, seen ++ [s], rfl, fun b o z => ?_, upd_same, by rw [List.length_append, ln]; rfl, ?_⟩
          · rw [upd_ne (ne_of_none z hd)]
            exact s3 _ _ z
          · rw [← wf]
            conv => rhs; unfold wrongFrom
            rw [if_neg c]
    · rintro σ H1 ⟨v2, v3, seen, rfl, s1, d1, ln, wf⟩
      dsimp only
      refine g_ret (g_c ?_)
      rw [pr.length, List.drop_length] at wf
      have z := q H1 s1
      rw [← wf] at z
      exact z
end
end My
set_option Elab.async false
set_option maxRecDepth 100000
set_option maxHeartbeats 8000000
namespace My
open PySem PySem.Spec PyProof.Rows L2
theorem perm_lift {α β : Type} (f : α → β) {ys zs : List β} (h : ys.Perm zs) : ∀ ps : List α, zs = ps.map f → ∃ qs : List α, qs.Perm ps ∧ qs.map f = ys := by
  induction h with
  | nil =>
    intro ps e
    have : ps = [] := List.map_eq_nil_iff.mp e.symm
    subst this
    exact ⟨[], .nil, rfl⟩
  | cons x _ ih =>
    intro ps e
    cases ps with
    | nil => cases e
    | cons p ps =>
      rw [List.map_cons] at e
      obtain ⟨rfl, e'⟩ := List.cons.inj e
      obtain ⟨qs, h1, h2⟩ := ih ps e'
      exact ⟨p :: qs, h1.cons p, by rw [List.map_cons, h2]⟩
  | swap x y l =>
    intro ps e
    cases ps with
    | nil => cases e
    | cons p ps =>
      rw [List.map_cons] at e
      obtain ⟨rfl, e2⟩ := List.cons.inj e
      clear e
      cases ps with
      | nil => cases e2
      | cons p2 ps =>
        rw [List.map_cons] at e2
        obtain ⟨rfl, e3⟩ := List.cons.inj e2
        exact ⟨p2 :: p :: ps, .swap _ _ _, by rw [List.map_cons, List.map_cons, e3]⟩
  | trans _ _ ih1 ih2 =>
    intro ps e
    obtain ⟨qs, h1, h2⟩ := ih2 ps e
    obtain ⟨rs, h3, h4⟩ := ih1 qs h2.symm
    exact ⟨rs, h3.trans h1, h4⟩
/-- the dict of pairs -/
def kvOf (ps : List (Str × Int)) : List (Key × V) := ps.map fun p => (Sum.inr p.1, .int p.2)
theorem kvOf_get : ∀ {ps : List (Str × Int)} {p : Str × Int}, (ps.map (·.1)).Nodup → p ∈ ps → valV (kvOf ps) (Sum.inr p.1) = some (.int p.2)
  | q :: ps, p, nd, h => by
    rw [List.map_cons, List.nodup_cons] at nd
    unfold valV kvOf
    rw [List.map_cons, List.find?_cons]
    rcases List.mem_cons.mp h with rfl | h
    · simp
    · have ne : q.1 ≠ p.1 := fun e => nd.1 (e ▸ List.mem_map.mpr ⟨p, h, rfl⟩)
      have e : decide (((Sum.inr q.1 : Key), V.int q.2).1 = Sum.inr p.1) = false := by simp [ne]
      rw [e]
      exact kvOf_get nd.2 h
theorem kvOf_put {ps : List (Str × Int)} {s : Str} {n : Int} (h : s ∉ ps.map (·.1)) : putK (kvOf ps) (Sum.inr s) (.int n) = kvOf (ps ++ [(s, n)]) := by
  unfold putK kvOf
  rw [if_neg, List.map_append]
  · rfl
  · simp only [List.any_eq_true, not_exists, not_and, decide_eq_true_eq]
    intro x hx e
    obtain ⟨z, hz, rfl⟩ := List.mem_map.mp hx
    cases e
    exact h (List.mem_map.mpr ⟨z, hz, rfl⟩)
theorem PairAt.same {H H' : Hp} {v : V} {q : Str × Int} (h : PairAt H v q) (e : Same H H') : PairAt H' v q := by
  obtain ⟨u, rfl, z⟩ := h
  exact ⟨u, rfl, e _ _ z⟩
/-- qs are the pairs ps by name -/
structure Ordered (ps qs : List (Str × Int)) : Prop where
  perm : qs.Perm ps
  sorted : sortedS (qs.map (·.1)) = true
theorem g_dget {H : Hp} {Q : VK} {σ : L2.St} {ty td : TE} (h : td σ H fun x H1 => ty σ H1 fun y H2 => ∃ a v, x = .ref a ∧ DGet H2 a y (some v) ∧ Q v H2) : tDGet td ty σ H Q := h
structure BltS (mg : Str → Option Value) : Prop where
  sorted : mg "sorted" = none
  str : mg "str" = none
  tuple : mg "tuple" = none
  int : mg "int" = none
local macro_rules | `(tactic| walk_at "cond") => `(tactic| first
  | exact Or.inr ⟨by decide, by decide⟩ | exact Or.inl ⟨by decide, by decide⟩ | exact ⟨by decide, by decide, by decide⟩ | exact ⟨by decide, by decide⟩
  | (refine Or.inl ⟨?_, ?_⟩ <;> omega) | (refine Or.inr ⟨?_, ?_⟩ <;> omega)
  | (show (0 : Int) < _; omega))
local macro_rules | `(tactic| walk_at "mem") => `(tactic| first | exact List.Mem.head _ | exact List.Mem.tail _ (List.Mem.head _) | exact Put.head | (refine List.Mem.tail _ ?_; walk_at "mem") | (apply Put.tail; walk_at "mem"))
local macro_rules | `(tactic| walk_at "st") => `(tactic| first
  | with_reducible refine g_seq ?_ | with_reducible refine g_asg ?_ | with_reducible refine g_name ?_ | ((with_reducible show tVar _ _ _ _); refine g_var rfl ?_) | with_reducible refine g_c ?_
  | with_reducible refine g_op ?_ | with_reducible refine g_test ?_ | with_reducible refine g_bl ?_
  | with_reducible refine g_cb ?_ | with_reducible refine g_cons ?_ | with_reducible refine g_nil ?_ | with_reducible refine g_tif ?_ | with_reducible refine g_ifs ?_ | with_reducible refine g_ret ?_
  | with_reducible refine g_drop ?_ | with_reducible refine g_next ?_
  | with_reducible refine g_i0 ?_ | ((with_reducible show rI _ _ _ _ _ _); refine g_i (by walk_at "cond") ?_) | with_reducible refine g_int ?_ | with_reducible refine g_abs ?_ | with_reducible refine g_or ?_
  | with_reducible refine g_and ?_ | with_reducible refine g_not ?_ | with_reducible refine g_lst ?_ | with_reducible refine g_tup ?_
  | with_reducible refine iteT ?_ | with_reducible refine iteF ?_ | with_reducible refine g_par ?_ | with_reducible refine g_two ?_ | with_reducible refine g_sub ?_
  | ((with_reducible show rIxL _ (V.ref _) (V.int _) _ _); refine g_ixM (by assumption) (by walk_at "mem") rfl rfl ?_)
  | ((with_reducible show rSetL (V.ref _) (V.int _) _ _ _); refine g_setM (by assumption) rfl (by walk_at "mem") fun _ _ => ?_)
  | with_reducible refine g_xmk ?_ | with_reducible refine g_xmkK ?_
  | ((with_reducible show XNew _ (spI1 _ _) _ _ _); refine g_x1 (by assumption) fun _ _ _ _ => ?_)
  | ((with_reducible show XNewK _ _ (spI1 _ _) _ _ _ _); refine g_x1k (by assumption) fun _ _ _ _ => ?_)
  | ((with_reducible show XNew _ (spI3 _ _ _ _) _ _ _); refine g_x3 (by assumption) fun _ _ _ _ => ?_)
  | ((with_reducible show tXmk0 _ _ _ _); refine g_xmk0 (by assumption) fun _ _ _ => ?_)
  | ((with_reducible show NewO _ _ _ _); refine g_newo (by assumption) (by first | decide | simp) fun _ _ _ _ => ?_)
  | ((with_reducible show rCat (V.ref _) (V.ref _) _ _); refine g_cat (by assumption) (by walk_at "mem") (by walk_at "mem") (by first | decide | simp) fun _ _ _ _ => ?_))

local macro_rules | `(tactic| walk_at "st") => `(tactic| first | with_reducible refine g_tcall ?_ | with_reducible refine g_tb ?_ | with_reducible refine g_andV ?_ | with_reducible refine g_notV ?_ | with_reducible refine g_chain ?_ | with_reducible refine g_un ?_ | with_reducible refine g_rU ?_)
section
variable {P : Program} {w : World} {K : PySem.W.Frag} {mg : Str → Option Value} {base : Heap}
def rStrS : List V → Hp → VK → Prop := fun xs H Q => ∃ a, xs = [.str a] ∧ Q (.str a) H
def rTupZ (K : PySem.W.Frag) : List V → Hp → VK → Prop := fun xs H Q => ∃ p ys, xs = [.ref p] ∧ SqL K H p ys ∧ ∀ l o, H l = Option.none → o.dict = Option.none → Q (.ref l) (upd H l (.frz o (.tup ys)))
theorem call_tupZ {X : Cx} : CallR X (.type "tuple") (rTupZ X.K) := by
  intro pins s σ H xs us Q I r h
  obtain ⟨p, ys, rfl, hq, q⟩ := h
  obtain ⟨u, rfl, rx⟩ := vals1 r
  cases rx
  obtain ⟨its, r', pl, hz⟩ := I.list hq
  have hlen := r'.length
  refine call_tuple_list pl.isList (fun h' kp => ?_) (by simp only [List.size_toArray] <;> omega)
  have I1 : Inv X pins σ H { s with heap := h' } := I.kept (t' := s.toks) kp
  have I2 : Inv X pins σ (upd H h'.objs.size (.frz { cls := .type "tuple", data := .seq its.toArray } (.tup ys))) { s with heap := h'.push { cls := .type "tuple", data := .seq its.toArray } } :=
    I1.laid (t' := s.toks) (fun b o e => Heap.get?_push_of_some _ e) (Nat.le_refl _) (show ObjOk X.prog X.w _ _ _ (.frz { cls := .type "tuple", data := .seq its.toArray } (.tup ys)) from ⟨Heap.get?_push_size _ rfl, hz, its, r', IsTup.new _ _⟩)
  exact ⟨.ref h'.objs.size, _, I2, rfl, q _ _ (I1.hok.fresh (Nat.le_refl _)) rfl⟩
def spByName (K : PySem.W.Frag) : Sp := fun vs H Q _ => ∃ (d : Addr) (ps : List (Str × Int)), vs = [.ref d] ∧ H d = some (.dK (kvOf ps)) ∧ (ps.map (·.1)).Nodup ∧ ps.length < 64 ∧
  ∀ H' p ts qs, H p = none → Same H H' → TupZ H' p ts → Ordered ps qs → Paired (PairAt H') ts qs → Q (.ref p) H'
theorem scByName : FnScope ["counts", "names", "name"] ["counts"] (defScope sByName) := ⟨rfl, rfl, rfl, by decide +kernel, rfl, by decide +kernel, by decide +kernel⟩
theorem ok_byName {f : Addr} {fd : FuncData} (F : Fun K "by_name" "by_name" sByName f fd) (T : BltS mg) : FnOk P w K mg base CX0 1 f fd ["counts"] (spByName K) := by
  refine F.ok scByName (fun vs H Q E h => ?_) (fun cdv A outer s H vs Q E hr h => ?_)
  · obtain ⟨d, _, rfl, _⟩ := h
    rfl
  · obtain ⟨d, ps, rfl, hd, nd, l64, q⟩ := h
    have hu := hu_of hr
    refine ⟨_, pss_cons (ps_set (i := 1) scByName.nd rfl (Or.inl rfl) (pe_callB cr_sortedS (by rfl) T.sorted PyProof.Rows.boot_sorted (pa_cons (pe_lock (pe_lc (te := tCB rStrS (tCons (tVar 2) tNil)) (own := [("name", 2)]) (g := gName 2) rfl scByName.nd (pi_keys (pv 0))
        (blkOk_by (own := [("name", 2)]) (N := ["counts", "names", "name"]) (sc := defScope sByName) (by decide +kernel)) (fun _ _ _ _ _ => pg_name (i := 2) scByName.nd rfl (Or.inl rfl)) (fun _ _ _ _ _ => pts_nil)
        (fun _ _ _ _ _ => pe_callTy (r := rStrS) SkE.call_str_str (by rfl) T.str PyProof.Rows.boot_str (pa_cons (pv 2) pa_nil)))) pa_nil)))
      (pss_one (ps_ret (pe_callTy (r := rTupZ K) call_tupZ (by rfl) T.tuple PyProof.Rows.boot_tuple (pa_cons (pe_lc (te := tTup (tCons (tVar 2) (tCons (tDGet (tVar 0) (tVar 2)) tNil))) (own := [("name", 2)]) (g := gName 2) rfl scByName.nd (pi_list (pv 1))
        (blkOk_by (own := [("name", 2)]) (N := ["counts", "names", "name"]) (sc := defScope sByName) (by decide +kernel)) (fun _ _ _ _ _ => pg_name (i := 2) scByName.nd rfl (Or.inl rfl)) (fun _ _ _ _ _ => pts_nil)
        (fun _ _ _ _ _ => pe_tup (pa_cons (pv 2) (pa_cons (pe_dget hu (pv 0) (pv 2) (fun _ _ => rfl)) pa_nil)))) pa_nil)))), ?_⟩
    refine g_seq (g_asg (g_cb (g_cons ?_)))
    refine ⟨d, _, hd, True.intro, fun od => ?_⟩
    generalize hf : upd H d (.frz od (.dK (kvOf ps))) = Hf
    have ef : Hf d = some (.frz od (.dK (kvOf ps))) := by
      rw [← hf]
      exact upd_same
    have lk : (kvOf ps).length = ps.length := List.length_map _
    refine ⟨_, rfl, d, od, rfl, .inl ⟨_, ef, fun D hD => lc_it walk_keys (fun j H1 => Same Hf H1 ∧ H1 D = some (.lst ((ps.take j).map fun p => V.str p.1))) ⟨fun b o z => by rw [upd_ne (ne_of_none z hD)]; exact z, upd_same⟩ (fun j H1 _ q => q.1 _ _ ef) ?_ ?_⟩⟩
    · rintro j x H1 H1' hj ⟨s1, d1⟩ ⟨rfl, k, v, ek, rfl⟩
      have hj2 : j < ps.length := by
        rw [← lk]
        exact hj
      have ep : ps[j]? = some ps[j] := List.getElem?_eq_getElem hj2
      have ek2 : (Sum.inr ps[j].1, V.int ps[j].2) = (k, v) := by
        have z : (kvOf ps)[j]? = some (Sum.inr ps[j].1, V.int ps[j].2) := by
          unfold kvOf
          rw [List.getElem?_map, ep]
          rfl
        rw [z] at ek
        exact Option.some.inj ek
      cases ek2
      refine g_name ⟨wipe1 _ 2 _, ?_⟩
      unfold tYes
      refine iteT ?_
      refine g_cb (g_cons (g_var rfl (g_nil ⟨_, rfl, ?_⟩)))
      refine ⟨_, d1, ?_, fun b o z => ?_, ?_⟩
      · rw [List.length_map]
        exact Nat.lt_of_le_of_lt (Nat.le_trans (List.length_take_le' _ _) (Nat.le_of_lt l64)) (by decide)
      · rw [upd_ne (ne_of_none z hD)]
        exact s1 _ _ z
      · rw [upd_same, List.take_add_one, ep, List.map_append]
        rfl
    · rintro H1 ⟨s1, d1⟩
      rw [lk, List.take_length] at d1
      refine ⟨s1 _ _ ef, g_nil ?_⟩
      have dD : D ≠ d := fun z => by
        rw [z, ef] at hD
        cases hD
      generalize h2 : upd H1 d (.dK (kvOf ps)) = H2
      have s2 : Same H H2 := fun b o z => by
        rw [← h2]
        by_cases c : b = d
        · rw [c] at z ⊢
          rw [upd_same, ← z, hd]
        · rw [upd_ne c]
          exact s1 _ _ (by rw [← hf, upd_ne c]; exact z)
      have e2 : H2 d = some (.dK (kvOf ps)) := by
        rw [← h2]
        exact upd_same
      have eD : H2 D = some (.lst ((ps.map (·.1)).map V.str)) := by
        rw [← h2, upd_ne dD, d1, List.map_map]
        rfl
      refine ⟨D, ps.map (·.1), rfl, SqL.of eD, by rw [List.length_map]; exact l64, fun ys p perm srt np => ?_⟩
      obtain ⟨qs, pq, eq⟩ := perm_lift (·.1) perm ps rfl
      have h3 : Hs H2 (upd H2 p (.lst (ys.map V.str))) [] [(p, .lst (ys.map V.str))] := Hs.start0.new np
      generalize upd H2 p (.lst (ys.map V.str)) = H3 at h3
      have f2 := h3.kept _ _ e2
      have eP : H3 p = some (.lst (ys.map V.str)) := h3.mem List.mem_cons_self
      have s3 : Same H H3 := s2.trans h3.kept
      have lq : qs.length = ys.length := by
        rw [← eq, List.length_map]
      have lp := pq.length_eq
      have mq : ∀ z ∈ qs, z ∈ ps := fun z hz => pq.mem_iff.mp hz
      refine g_name (g_ret (g_cb (g_cons (g_lc (g_var rfl ?_)))))
      refine ⟨p, rfl, ⟨_, SqL.of eP⟩, fun D2 hD2 => lc_list (xs := ys.map V.str) (fun j H1 => Same H3 H1 ∧ ∃ ts, H1 D2 = some (.lst ts) ∧ Paired (PairAt H1) ts (qs.take j) ∧ ts.length = j)
        ⟨fun b o z => by rw [upd_ne (ne_of_none z hD2)]; exact z, [], upd_same, .nil, rfl⟩ (fun j H1 _ q => SqL.of (q.1 _ _ eP)) ?_ ?_⟩
      · rintro i x H1 hx ⟨s4, ts, d4, pr, lt⟩
        have hi : i < qs.length := by
          have z := (List.getElem?_eq_some_iff.mp hx).1
          rw [List.length_map] at z
          omega
        have eqi : qs[i]? = some qs[i] := List.getElem?_eq_getElem hi
        have ex : x = .str qs[i].1 := by
          rw [← eq, List.map_map, List.getElem?_map, eqi] at hx
          exact (Option.some.inj hx).symm
        subst ex
        have gt : DGet H1 d (.str qs[i].1) (some (.int qs[i].2)) := by
          have z := DGet.k (k := Sum.inr qs[i].1) (s4 _ _ f2)
          rw [kvOf_get nd (mq _ (List.getElem_mem hi))] at z
          exact z
        refine g_name ⟨wipe1 _ 2 _, ?_⟩
        unfold tYes
        refine iteT ?_
        refine g_tup (g_cons (g_var rfl ?_))
        refine g_cons (g_dget (g_var rfl ?_))
        refine g_var rfl ⟨d, _, rfl, gt, g_nil ⟨(by show 2 ≤ sizeLine; decide), fun Tt hT => ?_⟩⟩
        have TD : D2 ≠ Tt := fun z => by
          rw [z, hT] at d4
          cases d4
        have n1 : Same H1 (upd H1 Tt (.tup [.str qs[i].1, .int qs[i].2])) := fun b o z => by
          rw [upd_ne (ne_of_none z hT)]
          exact z
        generalize hn : upd H1 Tt (.tup [.str qs[i].1, .int qs[i].2]) = HT at n1
        have eT : HT Tt = some (.tup [.str qs[i].1, .int qs[i].2]) := by
          rw [← hn]
          exact upd_same
        have dT := n1 _ _ d4
        have off : OffP D2 HT (upd HT D2 (.lst (ts ++ [.ref Tt]))) := fun b o z ne => by
          rw [upd_ne ne]
          exact z
        refine ⟨ts, dT, by rw [lt]; exact small1000 (by omega), fun b o z => ?_, ts ++ [.ref Tt], upd_same, ?_, by rw [List.length_append, lt]; rfl⟩
        · rw [upd_ne (ne_of_none z hD2)]
          exact n1 _ _ (s4 _ _ z)
        · rw [List.take_add_one, eqi]
          refine pairedApp (pairedMono (fun _ _ h => (PairAt.same h n1).off dT off) pr) (.cons ⟨Tt, rfl, off _ _ eT TD.symm⟩ .nil)
      · rintro H1 ⟨s4, ts, d4, pr, lt⟩
        rw [List.length_map, ← lq, List.take_length] at pr
        refine g_nil ⟨D2, ts, rfl, SqL.of d4, fun l ob hl nn => ?_⟩
        have sl : Same H1 (upd H1 l (.frz ob (.tup ts))) := fun b o z => by
          rw [upd_ne (ne_of_none z hl)]
          exact z
        have nl : H l = none := by
          cases z : H l with
          | none => rfl
          | some o =>
            have y := s4 _ _ (s3 _ _ z)
            rw [hl] at y
            cases y
        exact q _ l ts qs nl ((s3.trans s4).trans sl) ⟨ob, upd_same, nn⟩ ⟨pq, by rw [eq]; exact srt⟩ (pairedMono (fun _ _ h => PairAt.same h sl) pr)
theorem putK_take {ps : List (Str × Int)} {i : Nat} (nd : (ps.map (·.1)).Nodup) (hi : i < ps.length) : putK (kvOf (ps.take i)) (Sum.inr ps[i].1) (.int ps[i].2) = kvOf (ps.take (i + 1)) := by
  rw [kvOf_put, List.take_add_one, List.getElem?_eq_getElem hi]
  · rfl
  · intro m
    rw [List.map_take] at m
    obtain ⟨j, hj, ej⟩ := List.getElem_of_mem m
    rw [List.length_take, List.length_map] at hj
    rw [List.getElem_take, List.getElem_map] at ej
    have z := (List.getElem?_inj (i := j) (j := i) (by rw [List.length_map]; omega) nd).mp (by
      rw [List.getElem?_map, List.getElem?_map, List.getElem?_eq_getElem (show j < ps.length by omega), List.getElem?_eq_getElem hi]
      exact congrArg some ej)
    omega
def spPlainPairs (K : PySem.W.Frag) : Sp := fun vs H Q _ => ∃ (t : Addr) (xs : List V) (ps : List (Str × Int)), vs = [.ref t] ∧ SqT K H t xs ∧ Paired (fun v p => PairK K H v (some p)) xs ps ∧ (ps.map (·.1)).Nodup ∧ ps.length < 64 ∧
  ∀ H' p ts qs, H p = none → Same H H' → TupZ H' p ts → Ordered ps qs → Paired (PairAt H') ts qs → Q (.ref p) H'
theorem scPlainPairs : FnScope ["pairs", "name", "count"] ["pairs"] (defScope sPlainPairs) := ⟨rfl, rfl, rfl, by decide +kernel, rfl, by decide +kernel, by decide +kernel⟩
theorem ok_plainPairs {f : Addr} {fd : FuncData} (F : Fun K "plain_pairs" "plain_pairs" sPlainPairs f fd) (T : BltS mg) (C1 : Cal P w K mg base 1 "plain_name" ["name"] spPlain) (C2 : Cal P w K mg base 1 "by_name" ["counts"] (spByName K)) : FnOk P w K mg base CX0 2 f fd ["pairs"] (spPlainPairs K) := by
  refine F.ok scPlainPairs (fun vs H Q E h => ?_) (fun cdv A outer s H vs Q E hr h => ?_)
  · obtain ⟨d, _, _, rfl, _⟩ := h
    rfl
  · obtain ⟨t, xs, ps, rfl, hS, pr, nd, l64, q⟩ := h
    refine ⟨_, pss_one (ps_ret (pCal C2 hr (pa_cons (pe_dc (tk := tCall spPlain [] E0 (tCons (tVar 1) tNil)) (tv := tCB rInt (tCons (tVar 2) tNil)) (own := [("name", 1), ("count", 2)]) (g := gTup K 2 (gCons (gName 1) (gCons (gName 2) gNil))) rfl scPlainPairs.nd (pi_tup (pv 0))
        (blkOk_by (own := [("name", 1), ("count", 2)]) (N := ["pairs", "name", "count"]) (sc := defScope sPlainPairs) (by decide +kernel)) (fun _ _ _ _ _ => pg_tup rfl (pgs_cons (pg_name (i := 1) scPlainPairs.nd rfl (Or.inl rfl)) (pgs_cons (pg_name (i := 2) scPlainPairs.nd rfl (Or.inl rfl)) pgs_nil))) (fun _ _ _ _ _ => pts_nil)
        (fun _ _ _ _ _ => pCal C1 hr (pa_cons (pv 1) pa_nil)) (fun _ _ _ _ _ => pInt T.int (pv 2))) pa_nil))), ?_⟩
    refine g_ret (g_tcall (g_cons ?_))
    have lx : xs.length = ps.length := pr.length
    refine ⟨_, rfl, t, rfl, ⟨_, hS⟩, fun D hD => dc_tup (xs := xs) (fun j H1 => Same H H1 ∧ H1 D = some (.dK (kvOf (ps.take j)))) ⟨fun b o z => by rw [upd_ne (ne_of_none z hD)]; exact z, upd_same⟩ (fun j H1 _ q => Same.seqT' q.1 hS) ?_ ?_⟩
    · rintro i x H1 hx ⟨s1, d1⟩
      have hi : i < ps.length := by
        have z := (List.getElem?_eq_some_iff.mp hx).1
        omega
      have pk : PairK K H x (some (ps[i].1, ps[i].2)) := pairedGet (F := fun v p => PairK K H v (some p)) pr hx (List.getElem?_eq_getElem hi)
      obtain ⟨u, rfl, hq, _, _, hz⟩ := pk.some'
      refine ⟨u, _, rfl, Same.seqT' s1 hq, rfl, _, _, rfl, g_name ⟨_, _, rfl, g_name ⟨rfl, ?_⟩⟩⟩
      refine ⟨rfl, ?_⟩
      unfold tYes
      refine iteT ?_
      refine g_tcall (g_cons (g_var rfl (g_nil ⟨_, rfl, hz, ?_⟩)))
      refine g_cb (g_cons (g_var rfl (g_nil (g_int ?_))))
      refine ⟨kvOf (ps.take i), Sum.inr ps[i].1, rfl, d1, small1000 (by unfold kvOf; rw [List.length_map, List.length_take]; omega), fun b o z => ?_, ?_⟩
      · rw [upd_ne (ne_of_none z hD)]
        exact s1 _ _ z
      · rw [upd_same, putK_take nd hi]
    · rintro H1 ⟨s1, d1⟩
      rw [lx, List.take_length] at d1
      refine g_nil ⟨D, ps, rfl, d1, nd, l64, fun H' p ts qs hp s2 e o pr' => q H' p ts qs ?_ (s1.trans s2) e o pr'⟩
      cases z : H p with
      | none => rfl
      | some o =>
        have y := s1 _ _ z
        rw [hp] at y
        cases y
end
end My
set_option Elab.async false
set_option maxRecDepth 100000
set_option maxHeartbeats 8000000
namespace My
open PySem PySem.Spec PyProof.Rows L2
/-! ### dict(t), t a tuple of pairs -/
structure PairV (h : Heap) (x : Addr × Key × Value × Value) : Prop where
  tup : h.IsTuple x.1 #[x.2.2.1, x.2.2.2]
  key : keyIs x.2.1 x.2.2.1 = true
theorem pairsV {X : Cx} {pins : List (Addr × Obj)} {σ : L2.St} {H : Hp} {s : Shared} (I : Inv X pins σ H s) : ∀ {ts : List V} {ps : List (Str × Int)} {its : List Value}, Paired (PairAt H) ts ps → Vals ts its →
    ∃ L : List (Addr × Key × Value × Value), L.length = ps.length ∧ its = L.map (fun x => Value.ref x.1) ∧ (∀ x ∈ L, PairV s.heap x) ∧ KV (kvOf ps) (L.map fun x => (x.2.1, x.2.2.2))
  | _, _, _, .nil, .nil => ⟨[], rfl, rfl, (fun _ z => nomatch z), .nil⟩
  | _, _, _, .cons (b := p) h t, .cons r rt => by
    obtain ⟨L, h1, h2, h3, h4⟩ := pairsV I t rt
    obtain ⟨u, rfl, e⟩ := h
    cases r
    obtain ⟨its, rv, ht, _⟩ := I.tuple (SqT.of (K := X.K) e)
    obtain ⟨a, b, rfl, ra, rb⟩ := vals2 rv
    refine ⟨(u, Sum.inr p.1, a, b) :: L, by rw [List.length_cons, List.length_cons, h1], by rw [List.map_cons, h2], fun x hx => ?_, .cons ⟨rfl, rb⟩ h4⟩
    rcases List.mem_cons.mp hx with rfl | hx
    · exact ⟨isTup_of ht, kV_is (P := X.prog) (w := X.w) (k := Sum.inr p.1) ra⟩
    · exact h3 x hx
theorem mergeK_kvOf : ∀ (ps as : List (Str × Int)), ((as ++ ps).map (·.1)).Nodup → mergeK (kvOf as) (kvOf ps) = kvOf (as ++ ps)
  | [], as, _ => by
    rw [List.append_nil]
    rfl
  | p :: ps, as, nd => by
    have n1 : p.1 ∉ as.map (·.1) := by
      rw [List.map_append, List.map_cons] at nd
      have z := (List.nodup_append.mp nd).2.2
      intro m
      exact z p.1 m p.1 List.mem_cons_self rfl
    have e : mergeK (kvOf as) (kvOf (p :: ps)) = mergeK (putK (kvOf as) (Sum.inr p.1) (.int p.2)) (kvOf ps) := rfl
    rw [e, kvOf_put n1, mergeK_kvOf ps (as ++ [(p.1, p.2)]) (by rw [List.append_assoc]; exact nd), List.append_assoc]
    rfl
def rDictZ : List V → Hp → VK → Prop := fun xs H Q => ∃ a ts ps, xs = [.ref a] ∧ TupZ H a ts ∧ Paired (PairAt H) ts ps ∧ (ps.map (·.1)).Nodup ∧ ∀ p, H p = Option.none → Q (.ref p) (upd H p (.dK (kvOf ps)))
theorem call_dictZ {X : Cx} (hcalm : X.calm = true) : CallR X (.type "dict") rDictZ := by
  intro pins s σ H xs us Q I r q
  obtain ⟨a, ts, ps, rfl, ⟨ob, ea, nn⟩, pr, nd, q⟩ := q
  obtain ⟨u, rfl, rx⟩ := vals1 r
  cases rx
  obtain ⟨ho, hz, its, rv, o', ho', hc, n, hdat⟩ := (show ObjOk X.prog X.w H s.heap a (.frz ob (.tup ts)) from I.hok a _ ea)
  rw [ho] at ho'
  cases ho'
  obtain ⟨L, l1, l2, l3, rel⟩ := pairsV I pr rv
  have lt : ts.length = ps.length := pr.length
  refine PySem.call_dict_pairs (knd := mixKind X.prog X.w) (kvs := L.map fun x => (x.2.1, x.2.2.2)) (PairArg.tuple a its.toArray (fun j => (L[j]?.map (·.1)).getD 0) (L.map fun x => (x.2.2.1, x.2.2.2))) (I.ok.hd hcalm) ⟨⟨ob, n, ho, hc, nn, hdat⟩, ?_, fun j k v e => ?_⟩ ⟨?_, fun i key v e => ?_⟩ ?_ fun h' tk hd' kp => ?_
  · rw [l2]
    simp
  · rw [List.getElem?_map] at e
    cases c : L[j]? with
    | none =>
      rw [c] at e
      cases e
    | some x =>
      rw [c] at e
      cases e
      refine ⟨?_, ?_⟩
      · rw [l2]
        simp [c]
      · simp only [c]
        exact .inl (l3 x (List.mem_of_getElem? c)).tup
  · simp
  · replace e : (L.map fun x => (x.2.2.1, x.2.2.2))[i]? = some (key, v) := e
    rw [List.getElem?_map] at e
    cases c : L[i]? with
    | none =>
      rw [c] at e
      cases e
    | some x =>
      rw [c] at e
      cases e
      refine ⟨x.2.1, by rw [List.getElem?_map, c]; rfl, (l3 x (List.mem_of_getElem? c)).key⟩
  · rw [List.length_map, l1, ← lt]
    exact hz
  · have hm : (s.heap.objs.size == sysModules) = false := beq_eq_false_iff_ne.mpr (Nat.ne_of_gt I.big)
    have em : mergeK [] (kvOf ps) = kvOf ps := mergeK_kvOf ps [] nd
    have km : KV (kvOf ps) (merged [] (L.map fun x => (x.2.1, x.2.2.2))) := by
      have z := KV.merge rel (kvs := []) (vs := []) .nil
      rw [em] at z
      exact z
    have hlen : (kvOf ps).length ≤ sizeLine := by
      unfold kvOf
      rw [List.length_map, ← lt]
      exact hz
    exact ⟨.ref s.heap.objs.size, upd H s.heap.objs.size (.dK (kvOf ps)), I.laid (t' := tk) (fun b o e => kp b o (fun z => nomatch z) e) (Nat.le_refl _) (show ObjOk X.prog X.w _ _ _ (.dK (kvOf ps)) from ⟨hlen, hm, _, km, hd'⟩), rfl, q _ (I.hok.fresh (Nat.le_refl _))⟩
local macro_rules | `(tactic| walk_at "cond") => `(tactic| first
  | exact Or.inr ⟨by decide, by decide⟩ | exact Or.inl ⟨by decide, by decide⟩ | exact ⟨by decide, by decide, by decide⟩ | exact ⟨by decide, by decide⟩
  | (refine Or.inl ⟨?_, ?_⟩ <;> omega) | (refine Or.inr ⟨?_, ?_⟩ <;> omega)
  | (show (0 : Int) < _; omega))
local macro_rules | `(tactic| walk_at "mem") => `(tactic| first | exact List.Mem.head _ | exact List.Mem.tail _ (List.Mem.head _) | exact Put.head | (refine List.Mem.tail _ ?_; walk_at "mem") | (apply Put.tail; walk_at "mem"))
local macro_rules | `(tactic| walk_at "st") => `(tactic| first
  | with_reducible refine g_seq ?_ | with_reducible refine g_asg ?_ | with_reducible refine g_name ?_ | ((with_reducible show tVar _ _ _ _); refine g_var rfl ?_) | with_reducible refine g_c ?_
  | with_reducible refine g_op ?_ | with_reducible refine g_test ?_ | with_reducible refine g_bl ?_
  | with_reducible refine g_cb ?_ | with_reducible refine g_cons ?_ | with_reducible refine g_nil ?_ | with_reducible refine g_tif ?_ | with_reducible refine g_ifs ?_ | with_reducible refine g_ret ?_
  | with_reducible refine g_drop ?_ | with_reducible refine g_next ?_
  | with_reducible refine g_i0 ?_ | ((with_reducible show rI _ _ _ _ _ _); refine g_i (by walk_at "cond") ?_) | with_reducible refine g_int ?_ | with_reducible refine g_abs ?_ | with_reducible refine g_or ?_
  | with_reducible refine g_and ?_ | with_reducible refine g_not ?_ | with_reducible refine g_lst ?_ | with_reducible refine g_tup ?_
  | with_reducible refine iteT ?_ | with_reducible refine iteF ?_ | with_reducible refine g_par ?_ | with_reducible refine g_two ?_ | with_reducible refine g_sub ?_
  | ((with_reducible show rIxL _ (V.ref _) (V.int _) _ _); refine g_ixM (by assumption) (by walk_at "mem") rfl rfl ?_)
  | ((with_reducible show rSetL (V.ref _) (V.int _) _ _ _); refine g_setM (by assumption) rfl (by walk_at "mem") fun _ _ => ?_)
  | with_reducible refine g_xmk ?_ | with_reducible refine g_xmkK ?_
  | ((with_reducible show XNew _ (spI1 _ _) _ _ _); refine g_x1 (by assumption) fun _ _ _ _ => ?_)
  | ((with_reducible show XNewK _ _ (spI1 _ _) _ _ _ _); refine g_x1k (by assumption) fun _ _ _ _ => ?_)
  | ((with_reducible show XNew _ (spI3 _ _ _ _) _ _ _); refine g_x3 (by assumption) fun _ _ _ _ => ?_)
  | ((with_reducible show tXmk0 _ _ _ _); refine g_xmk0 (by assumption) fun _ _ _ => ?_)
  | ((with_reducible show NewO _ _ _ _); refine g_newo (by assumption) (by first | decide | simp) fun _ _ _ _ => ?_)
  | ((with_reducible show rCat (V.ref _) (V.ref _) _ _); refine g_cat (by assumption) (by walk_at "mem") (by walk_at "mem") (by first | decide | simp) fun _ _ _ _ => ?_))

local macro_rules | `(tactic| walk_at "st") => `(tactic| first | with_reducible refine g_tcall ?_ | with_reducible refine g_tb ?_ | with_reducible refine g_andV ?_ | with_reducible refine g_notV ?_ | with_reducible refine g_chain ?_ | with_reducible refine g_un ?_ | with_reducible refine g_rU ?_)
section
variable {P : Program} {w : World} {K : PySem.W.Frag} {mg : Str → Option Value} {base : Heap}
theorem wrong_none : ∀ (ps : List (Str × Int)) (i : Nat) (seen : List Str), (seen ++ ps.map (·.1)).Nodup → wrongFrom i seen (ps.map some) = none
  | [], _, _, _ => rfl
  | p :: ps, i, seen, nd => by
    rw [List.map_cons]
    unfold wrongFrom
    rw [List.map_cons] at nd
    have n1 : p.1 ∉ seen := fun m => (List.nodup_append.mp nd).2.2 p.1 m p.1 List.mem_cons_self rfl
    rw [if_neg n1]
    exact wrong_none ps (i + 1) (seen ++ [p.1]) (by rw [List.append_assoc]; exact nd)
/-- what pairs make a load -/
structure OkPairs (ps : List (Str × Int)) : Prop where
  name : ∀ p ∈ ps, nameB p.1 = true
  count : ∀ p ∈ ps, 1 ≤ p.2
  nd : (ps.map (·.1)).Nodup
  few : ps.length < 64
theorem nameB_len {s : Str} (h : nameB s = true) : s.length ≤ sizeLine := by
  unfold nameB at h
  simp only [Bool.and_eq_true, decide_eq_true_eq] at h
  exact Nat.le_trans h.2.1 (by decide)
theorem pairK_all {H : Hp} : ∀ {ts : List V} {ps : List (Str × Int)}, Paired (PairAt H) ts ps → (∀ p ∈ ps, nameB p.1 = true) → (∀ p ∈ ps, 1 ≤ p.2) → Paired (fun v p => PairK K H v (some p)) ts ps
  | _, _, .nil, _, _ => .nil
  | _, _, .cons (b := p) h t, h1, h2 => .cons (PairAt.k h (h1 p List.mem_cons_self) (h2 p List.mem_cons_self) (nameB_len (h1 p List.mem_cons_self))) (pairK_all t (fun q hq => h1 q (List.mem_cons_of_mem _ hq)) fun q hq => h2 q (List.mem_cons_of_mem _ hq))
theorem pairK_rs {H : Hp} : ∀ {ts : List V} {ps : List (Str × Int)}, Paired (fun v p => PairK K H v (some p)) ts ps → Paired (PairK K H) ts (ps.map some)
  | _, _, .nil => .nil
  | _, _, .cons h t => .cons h (pairK_rs t)
theorem g_sfld {H : Hp} {σ : L2.St} {D : Ends} {ta tv : TE} {f : Str} (h : tv σ H fun y H1 => ta σ H1 fun x H2 => ∃ a C dx fs, x = .ref a ∧ H2 a = some (.ins C dx fs) ∧ Cls K C ∧ NoAttr K C f ∧ fs.length < 1000 ∧ D.nx σ (upd H2 a (.ins C dx (putF f y fs)))) : sFld K ta tv f D σ H := h
theorem g_fld {H : Hp} {Q : VK} {σ : L2.St} {ta : TE} {f : Str} (h : ta σ H fun x H1 => ∃ a C dx fs v, x = .ref a ∧ H1 a = some (.ins C dx fs) ∧ Cls K C ∧ NoAttr K C f ∧ fs.lookup f = some v ∧ Q v H1) : tFld K ta f σ H Q := h
theorem pairOffI {x C dx : Addr} {fs : List (Str × V)} {H H' : Hp} {v : V} {q : Str × Int} (h : PairAt H v q) (hp : H x = some (.ins C dx fs)) (o : OffP x H H') : PairAt H' v q := by
  obtain ⟨u, rfl, e⟩ := h
  refine ⟨u, rfl, o _ _ e fun z => ?_⟩
  rw [z, hp] at e
  cases e
theorem tupOffI {x C dx t : Addr} {fs : List (Str × V)} {H H' : Hp} {ts : List V} (h : TupZ H t ts) (hp : H x = some (.ins C dx fs)) (o : OffP x H H') : TupZ H' t ts := by
  obtain ⟨ob, e, n⟩ := h
  refine ⟨ob, o _ _ e fun z => ?_, n⟩
  rw [z, hp] at e
  cases e
theorem offUpd {H : Hp} {x : Addr} {o : HO} : OffP x H (upd H x o) := fun b u e n => by
  rw [upd_ne n]
  exact e
theorem sameNew {H : Hp} {x : Addr} {o : HO} (h : H x = none) : Same H (upd H x o) := fun b u e => by
  rw [upd_ne (ne_of_none e h)]
  exact e
theorem scLoadInit : FnScope ["self", "pairs", "wrong"] ["self", "pairs"] (defScope sLoadInit) := ⟨rfl, rfl, rfl, by decide +kernel, rfl, by decide +kernel, by decide +kernel⟩
theorem ok_loadInit {f C : Addr} {fd : FuncData} (F : Fun K "__init__" "Load.__init__" sLoadInit f fd) (cl : Cls K C) (n1 : NoAttr K C "_pairs") (n2 : NoAttr K C "_counts") (mD : mg "dict" = none) (C1 : Cal P w K mg base 4 "wrong_pair_at" ["pairs"] (spWrong K)) (C2 : Cal P w K mg base 2 "plain_pairs" ["pairs"] (spPlainPairs K)) :
    FnR P w K mg base CX0 5 f (spStar1 (spInit C OkPairs Ordered)) := by
  obtain ⟨oc, od, kV, doc, pm, an, cdv, ct, osl, rfl, lk, hcd⟩ := F.ex
  refine StX.fn_star (ps := ["self"]) (pv := "pairs") lk hcd scLoadInit StX.cxUp_none (StX.bind_star1 (B := fun vs => bindArgs _ ⟨vs, []⟩) (fun a => rfl) fun a r rs => rfl) fun A outer s H vs Q E hr h => ?_
  obtain ⟨x, dx, q, rest, ps, rfl, hx, hdx, hq, pr, ok, k⟩ := h
  have hr2 := hr.mono (by decide : 2 ≤ 4)
  have pk := pairK_all (K := K) pr ok.name ok.count
  suffices z : ∃ t, PSs (cxOf CX0 P w K mg base ["self", "pairs", "wrong"] "Load.__init__" (defScope sLoadInit) f cdv A outer s H E).nox (defBody sLoadInit) t ∧ t { nx := fun _ H' => Q .non H', rt := Q } (L2.start ["self", "pairs", "wrong"] [.ref x, .ref q]) H by
    obtain ⟨t, h1, h2⟩ := z
    exact ⟨t, h1.nox, h2⟩
  refine ⟨_, pss_cons (ps_set (i := 2) scLoadInit.nd rfl (Or.inl rfl) (pCal C1 hr (pa_cons (pv 1) pa_nil)))
    (pss_cons (ps_if (pt_cmpR op_notN (pv 2) pe_non (nomark _)) (pss_one ps_never) pss_nil)
    (pss_cons (ps_fld (pv 0) (pCal C2 hr2 (pa_cons (pv 1) pa_nil)) rfl)
    (pss_one (ps_fld (pv 0) (pe_callTy (r := rDictZ) (call_dictZ rfl) (by rfl) mD PyProof.Rows.boot_dict (pa_cons (pe_fld (pv 0) rfl) pa_nil)) rfl)))), ?_⟩
  repeat walk_at "st"
  refine ⟨q, rest, ps.map some, rfl, SqT.of hq, pairK_rs pk, ?_, fun H1 s1 => ?_⟩
  · rw [pr.length]
    exact Nat.le_trans (Nat.le_of_lt ok.few) (by decide)
  rw [wrong_none ps 0 [] (by simpa using ok.nd)]
  repeat walk_at "st"
  refine ⟨rfl, ?_⟩
  refine g_bl ?_
  refine g_iteNF rfl ?_
  repeat walk_at "st"
  refine g_sfld (g_tcall (g_cons (g_var rfl (g_nil ?_))))
  refine ⟨q, rest, ps, rfl, Same.seqT' s1 (SqT.of hq), pairedMono (fun _ _ h => PairK.same h s1) pk, ok.nd, ok.few, fun H2 t ts qs ht s2 tz od pr2 => ?_⟩
  have s12 := s1.trans s2
  have hx2 := s12 _ _ hx
  refine g_var rfl ⟨x, C, dx, [], rfl, hx2, cl, n1, (by show 0 < 1000; omega), ?_⟩
  have o1 : OffP x H2 (upd H2 x (.ins C dx (putF "_pairs" (.ref t) []))) := offUpd
  have hx3 : upd H2 x (.ins C dx (putF "_pairs" (.ref t) [])) x = some (.ins C dx (putF "_pairs" (.ref t) [])) := upd_same
  generalize upd H2 x (.ins C dx (putF "_pairs" (.ref t) [])) = H3 at o1 hx3
  refine g_sfld (g_cb (g_cons (g_fld (g_var rfl ?_))))
  refine ⟨x, C, dx, _, _, rfl, hx3, cl, n1, rfl, g_nil ?_⟩
  have tz3 := tupOffI tz hx2 o1
  have pr3 := pairedMono (fun _ _ h => pairOffI h hx2 o1) pr2
  have nq : (qs.map (·.1)).Nodup := (od.perm.map (·.1)).nodup_iff.mpr ok.nd
  refine ⟨t, ts, qs, rfl, tz3, pr3, nq, fun d hd => ?_⟩
  have s4 : Same H3 (upd H3 d (.dK (kvOf qs))) := sameNew hd
  have hd4 : upd H3 d (.dK (kvOf qs)) d = some (.dK (kvOf qs)) := upd_same
  generalize upd H3 d (.dK (kvOf qs)) = H4 at s4 hd4
  have hx4 := s4 _ _ hx3
  refine g_var rfl ⟨x, C, dx, _, rfl, hx4, cl, n2, (by show 1 < 1000; omega), ?_⟩
  have o5 : OffP x H4 (upd H4 x (.ins C dx (putF "_counts" (.ref d) (putF "_pairs" (.ref t) [])))) := offUpd
  have hx5 : upd H4 x (.ins C dx (putF "_counts" (.ref d) (putF "_pairs" (.ref t) []))) x = some (.ins C dx (putF "_counts" (.ref d) (putF "_pairs" (.ref t) []))) := upd_same
  have nd5 : d ≠ x := fun z => by
    rw [z, hx3] at hd
    cases hd
  refine k _ (.ins C dx [("_pairs", .ref t), ("_counts", .ref d)]) qs ⟨fun y hy => ?_, List.nodup_cons.mpr ⟨(fun z => nomatch z), List.nodup_nil⟩, fun b o e hb => ?_, fun y hy z => absurd hy (fun _ => ?_)⟩ od ⟨dx, t, d, ts, hx5, tupOffI (tz3.same s4) hx4 o5, pairedMono (fun _ _ h => pairOffI (PairAt.same h s4) hx4 o5) pr3, o5 _ _ hd4 nd5⟩
  · rw [List.mem_singleton.mp hy]
    exact hx5
  · have ne : b ≠ x := fun z => hb (by rw [z]; exact List.mem_cons_self)
    exact o5 _ _ (s4 _ _ (o1 _ _ (s12 _ _ e) ne)) ne
  · rw [List.mem_singleton.mp hy] at z
    exact z List.mem_cons_self
end
end My
set_option Elab.async false
set_option maxRecDepth 100000
set_option maxHeartbeats 4000000
namespace My
open PySem PySem.Spec PyProof.Rows L2
section
variable {X : Cx} {CX : CXT} {x : Str} {C fI : Addr} {fd : FuncData} {ps : List Str} {sp : Sp} {B newId initId : String} {bmB : List Value} {e : Expr} {es : List Expr} {ta : TA} {p pos : Pos}
/-- X(e, ..) made to be raised: an own class over any built-in exception, with its __init__ -/
theorem pmk_x (T : XCls X.prog X.w X.K X.mg X.base x C fI B newId initId bmB ps sp fd) (hr : Room 2 X.A) (hg : Gl X x) (ha : PA X (e :: es) ta)
    (hdb : (x == ("__debug__" : Str)) = false := by decide) (he : starEach (e :: es) X.env = (false, eval e X.env) :: starEach es X.env := by rfl) (hpl : (backTo pos (starEach es X.env)).any (·.1) = false := by rfl) :
    PMk X (.Call (.Name x p) (e :: es) [] pos) (tMkO C sp [] ta) := by
  intro pins s σ H Q I h
  refine wpAny_Call_Name_kw (ld_glob I hg T.mx ?_ hdb)
  refine PySem.W.callWith_K (h₀ := X.base) I.ok.mod.kin T.O.kp (thn (ha.run pos pins s σ H _ I h) fun us s1 ⟨vs, H1, I1, r, hz, q1⟩ => ⟨I1.kIn, ?_⟩) he hpl
  show wpAny _ _ (call (.ref C) us) _ _ _
  obtain ⟨nm, N, qn, bs, bm, hdct, sn, sub, ab, col, dd, k0, k1, k2, k3, k5, hC, hT⟩ := PySem.W.excInit_of I1.kIn T.O.made
  obtain ⟨hp, gg, dr, t0, os⟩ := s1
  have big : hp.objs.size ≤ hp.objs.size + 1 := Nat.le_succ _
  have hq := q1 (hp.objs.size + 1) (I1.hok.fresh big)
  have kk : ∀ b o, hp.get? b = some o → ((hp.push (PySem.W.kdv_tup us)).push (PySem.HandSPX.excO C hp.objs.size)).get? b = some o := fun b o e => Heap.get?_push_of_some _ (Heap.get?_push_of_some _ e)
  have hget : ((hp.push (PySem.W.kdv_tup us)).push (PySem.HandSPX.excO C hp.objs.size)).get? (hp.objs.size + 1) = some (PySem.HandSPX.excO C hp.objs.size) := by heap_get
  have I2 : Inv X pins σ (upd H1 (hp.objs.size + 1) (exo (hp.objs.size + 1) C none)) ⟨(hp.push (PySem.W.kdv_tup us)).push (PySem.HandSPX.excO C hp.objs.size), gg, dr, t0, os⟩ :=
    I1.laid (t' := t0) (a := hp.objs.size + 1) (o := exo (hp.objs.size + 1) C none) (h' := (hp.push (PySem.W.kdv_tup us)).push (PySem.HandSPX.excO C hp.objs.size)) kk big (exo_ok hget)
  have r2 : Vals (V.ref (hp.objs.size + 1) :: (vs ++ [])) (Value.ref (hp.objs.size + 1) :: us) := by
    rw [List.append_nil]
    exact .cons rfl r
  have hl : (Value.ref (hp.objs.size + 1) :: us ++ []).length = ps.length := by
    rw [List.append_nil, ← r2.length]
    exact T.ok.len _ _ _ _ hq
  have hus : us.length ≤ sizeLine := by
    rw [← Paired.length r, sizeLine_eq]
    omega
  have bd := T.bd _ (Value.ref (hp.objs.size + 1) :: us) I2.kIn hl
  rw [List.append_nil] at bd
  refine wpAny_call (PySem.HandSPX.call_own T.F hT hC (PySem.W.looks_findIn I1.kIn T.iC) (fun self => PySem.W.bind_fn I1.kIn self T.tI) hus
    (codeAny_mono (T.ok.run _ X.stack _ _ ⟨Value.ref (hp.objs.size + 1) :: us, []⟩ (Value.ref (hp.objs.size + 1) :: us) _ _ (fun _ _ _ => False) (hr.make C us []) (I2.env0.make C us []) bd r2 hq) fun r s' hq' => ?_))
  cases r with
  | error er => exact hq'.elim
  | ok fl =>
    cases fl with
    | ret u =>
      obtain ⟨v, H2, os2, bare2, un2, hok2, rv, ev, d, fs, ea, ed, hd1, q2⟩ := hq'
      subst ev
      obtain ⟨h2, g2, d2, t2, os'⟩ := s'
      exact ⟨rv, mk_end (raises_own T.O.exC T.O.tyC) I1 big kk un2 hok2 os2 bare2 ea ed hd1 q2⟩
    | next => exact False.elim hq'
    | brk => exact False.elim hq'
    | cont => exact False.elim hq'
end
/-- the reading's question where X(v) is raised, its one field f -/
theorem rx1_ok {H : Hp} {Q : XK} {C : Addr} {f : Str} {v : V} (h : ∀ d, H d = none → Q (.ref C) (some d) (upd H d (.xd [(f, v)]))) : [v].length ≤ 1000 ∧ ∀ a, H a = none → spI1 C f (.ref a :: ([v] ++ [])) (upd H a (exo a C none))
    (fun v H2 => v = .non ∧ ∃ (d : Addr) (fs : List (Str × V)), H2 a = some (exo a C (some d)) ∧ H2 d = some (exd d fs) ∧ H d = none ∧ Q (.ref C) (some d) (upd (del H2 a) d (.xd fs))) (fun _ _ _ => False) := by
  refine ⟨by show 1 ≤ 1000; omega, fun a ha => ⟨a, v, rfl, upd_same, fun dx hd ne => ⟨rfl, dx, [(f, v)], upd_same, ?_, (none_of hd).1, ?_⟩⟩⟩
  · rw [upd_ne ne, upd_same]
  · have e : upd (del (upd (upd (upd H a (exo a C none)) dx (exd dx [(f, v)])) a (exo a C (some dx))) a) dx (.xd [(f, v)]) = upd H dx (.xd [(f, v)]) := by
      funext b
      by_cases hb : b = dx
      · rw [hb, upd_same, upd_same]
      · rw [upd_ne hb, upd_ne hb]
        by_cases hba : b = a
        · rw [hba, del_same, ha]
        · rw [del_ne hba, upd_ne hba, upd_ne hb, upd_ne hba]
    rw [e]
    exact h dx (none_of hd).1
end My
set_option Elab.async false
set_option maxRecDepth 100000
set_option maxHeartbeats 8000000
namespace My
open PySem PySem.Spec PyProof.Rows L2
local macro_rules | `(tactic| walk_at "cond") => `(tactic| first
  | exact Or.inr ⟨by decide, by decide⟩ | exact Or.inl ⟨by decide, by decide⟩ | exact ⟨by decide, by decide, by decide⟩ | exact ⟨by decide, by decide⟩
  | (refine Or.inl ⟨?_, ?_⟩ <;> omega) | (refine Or.inr ⟨?_, ?_⟩ <;> omega)
  | (show (0 : Int) < _; omega))
local macro_rules | `(tactic| walk_at "mem") => `(tactic| first | exact List.Mem.head _ | exact List.Mem.tail _ (List.Mem.head _) | exact Put.head | (refine List.Mem.tail _ ?_; walk_at "mem") | (apply Put.tail; walk_at "mem"))
local macro_rules | `(tactic| walk_at "st") => `(tactic| first
  | with_reducible refine g_seq ?_ | with_reducible refine g_asg ?_ | with_reducible refine g_name ?_ | ((with_reducible show tVar _ _ _ _); refine g_var rfl ?_) | with_reducible refine g_c ?_
  | with_reducible refine g_op ?_ | with_reducible refine g_test ?_ | with_reducible refine g_bl ?_
  | with_reducible refine g_cb ?_ | with_reducible refine g_cons ?_ | with_reducible refine g_nil ?_ | with_reducible refine g_tif ?_ | with_reducible refine g_ifs ?_ | with_reducible refine g_ret ?_
  | with_reducible refine g_drop ?_ | with_reducible refine g_next ?_
  | with_reducible refine g_i0 ?_ | ((with_reducible show rI _ _ _ _ _ _); refine g_i (by walk_at "cond") ?_) | with_reducible refine g_int ?_ | with_reducible refine g_abs ?_ | with_reducible refine g_or ?_
  | with_reducible refine g_and ?_ | with_reducible refine g_not ?_ | with_reducible refine g_lst ?_ | with_reducible refine g_tup ?_
  | with_reducible refine iteT ?_ | with_reducible refine iteF ?_ | with_reducible refine g_par ?_ | with_reducible refine g_two ?_ | with_reducible refine g_sub ?_
  | ((with_reducible show rIxL _ (V.ref _) (V.int _) _ _); refine g_ixM (by assumption) (by walk_at "mem") rfl rfl ?_)
  | ((with_reducible show rSetL (V.ref _) (V.int _) _ _ _); refine g_setM (by assumption) rfl (by walk_at "mem") fun _ _ => ?_)
  | with_reducible refine g_xmk ?_ | with_reducible refine g_xmkK ?_
  | ((with_reducible show XNew _ (spI1 _ _) _ _ _); refine g_x1 (by assumption) fun _ _ _ _ => ?_)
  | ((with_reducible show XNewK _ _ (spI1 _ _) _ _ _ _); refine g_x1k (by assumption) fun _ _ _ _ => ?_)
  | ((with_reducible show XNew _ (spI3 _ _ _ _) _ _ _); refine g_x3 (by assumption) fun _ _ _ _ => ?_)
  | ((with_reducible show tXmk0 _ _ _ _); refine g_xmk0 (by assumption) fun _ _ _ => ?_)
  | ((with_reducible show NewO _ _ _ _); refine g_newo (by assumption) (by first | decide | simp) fun _ _ _ _ => ?_)
  | ((with_reducible show rCat (V.ref _) (V.ref _) _ _); refine g_cat (by assumption) (by walk_at "mem") (by walk_at "mem") (by first | decide | simp) fun _ _ _ _ => ?_))

local macro_rules | `(tactic| walk_at "st") => `(tactic| first | with_reducible refine g_tcall ?_ | with_reducible refine g_tb ?_ | with_reducible refine g_andV ?_ | with_reducible refine g_notV ?_ | with_reducible refine g_chain ?_ | with_reducible refine g_un ?_ | with_reducible refine g_rU ?_)
section
variable {P : Program} {w : World} {K : PySem.W.Frag} {mg : Str → Option Value} {base : Heap}
theorem rs_pairK {H : Hp} : ∀ {ts : List V} {ps : List (Str × Int)}, Paired (PairK K H) ts (ps.map some) → Paired (fun v p => PairK K H v (some p)) ts ps
  | _, [], .nil => .nil
  | _, _ :: _, .cons h t => .cons h (rs_pairK t)
theorem wrong_some : ∀ (rs : List (Option (Str × Int))) (i : Nat) (seen : List Str), wrongFrom i seen rs = none → seen.Nodup → ∃ ps : List (Str × Int), rs = ps.map some ∧ (seen ++ ps.map (·.1)).Nodup
  | [], _, seen, _, nd => ⟨[], rfl, by simpa using nd⟩
  | none :: _, _, _, h, _ => by
    unfold wrongFrom at h
    cases h
  | some p :: r, i, seen, h, nd => by
    unfold wrongFrom at h
    by_cases c : p.1 ∈ seen
    · rw [if_pos c] at h
      cases h
    · rw [if_neg c] at h
      obtain ⟨ps, e, n⟩ := wrong_some r (i + 1) (seen ++ [p.1]) h (by
        rw [List.nodup_append]
        refine ⟨nd, by simp, fun a ha b hb => ?_⟩
        rw [List.mem_singleton.mp hb]
        exact fun z => c (z ▸ ha))
      exact ⟨p :: ps, by rw [e]; rfl, by rw [List.append_assoc] at n; exact n⟩
/-- a load is made of pairs, or InvalidPairs is raised with the first index -/
def spInitX (K : PySem.W.Frag) (C CP : Addr) : Sp := fun vs H Q E => ∃ (x dx q : Addr) (rest : List V) (rs : List (Option (Str × Int))), vs = [.ref x, .ref q] ∧ H x = some (.ins C dx []) ∧ H dx = some (.own x) ∧ H q = some (.tup rest) ∧ Paired (PairK K H) rest rs ∧ rest.length ≤ 1000 ∧
  match wrongFrom 0 [] rs with
  | some i => ∀ H' d, Same H H' → H' d = none → E (.ref CP) (some d) (upd H' d (.xd [("index", .int (i : Nat))]))
  | none => ∃ ps : List (Str × Int), rs = ps.map some ∧ (ps.map (·.1)).Nodup ∧ ps.length < 64 ∧ ∀ H' o qs, Hs H H' [x] [(x, o)] → Ordered ps qs → LoadAt C H' x qs → Q .non H'
theorem ok_loadInitX {f C CP fI : Addr} {fd fdP : FuncData} {B newId initId : String} {bmB : List Value} (F : Fun K "__init__" "Load.__init__" sLoadInit f fd) (TP : XCls P w K mg base "InvalidPairs" CP fI B newId initId bmB ["self", "index"] (spI1 CP "index") fdP) (cl : Cls K C) (n1 : NoAttr K C "_pairs") (n2 : NoAttr K C "_counts") (mD : mg "dict" = none) (C1 : Cal P w K mg base 4 "wrong_pair_at" ["pairs"] (spWrong K)) (C2 : Cal P w K mg base 2 "plain_pairs" ["pairs"] (spPlainPairs K)) :
    FnR P w K mg base (L2.CX P w) 5 f (spStar1 (spInitX K C CP)) := by
  obtain ⟨oc, od, kV, doc, pm, an, cdv, ct, osl, rfl, lk, hcd⟩ := F.ex
  refine StX.fn_star (ps := ["self"]) (pv := "pairs") lk hcd scLoadInit StX.cxUp (StX.bind_star1 (B := fun vs => bindArgs _ ⟨vs, []⟩) (fun a => rfl) fun a r rs => rfl) fun A outer s H vs Q E hr h => ?_
  obtain ⟨x, dx, q, rest, rs, rfl, hx, hdx, hq, pr, hl, kr⟩ := h
  have hr2 := hr.mono (by decide : 2 ≤ 4)
  refine ⟨_, pss_cons (ps_set (i := 2) scLoadInit.nd rfl (Or.inl rfl) (pCal C1 hr (pa_cons (pv 1) pa_nil)))
    (pss_cons (ps_if (pt_cmpR op_notN (pv 2) pe_non (nomark _)) (pss_one (ps_raise rfl (takes_of rfl rfl rfl rfl) (pmk_x TP hr2 rfl (pa_cons (pv 2) pa_nil)))) pss_nil)
    (pss_cons (ps_fld (pv 0) (pCal C2 hr2 (pa_cons (pv 1) pa_nil)) rfl)
    (pss_one (ps_fld (pv 0) (pe_callTy (r := rDictZ) (call_dictZ rfl) (by rfl) mD PyProof.Rows.boot_dict (pa_cons (pe_fld (pv 0) rfl) pa_nil)) rfl)))), ?_⟩
  repeat walk_at "st"
  refine ⟨q, rest, rs, rfl, SqT.of hq, pr, hl, fun H1 s1 => ?_⟩
  cases hw : wrongFrom 0 [] rs with
  | some i =>
    repeat walk_at "st"
    refine ⟨rfl, ?_⟩
    refine g_bl ?_
    refine g_iteNT (fun z => by cases z) ?_
    rw [hw] at kr
    refine g_cons (g_var rfl (g_nil ?_))
    exact rx1_ok fun d hd => kr H1 d s1 hd
  | none =>
  rw [hw] at kr
  obtain ⟨ps, rfl, nd, few, k⟩ := kr
  have pk : Paired (fun v p => PairK K H v (some p)) rest ps := rs_pairK pr
  repeat walk_at "st"
  refine ⟨rfl, ?_⟩
  refine g_bl ?_
  refine g_iteNF rfl ?_
  repeat walk_at "st"
  refine g_sfld (g_tcall (g_cons (g_var rfl (g_nil ?_))))
  refine ⟨q, rest, ps, rfl, Same.seqT' s1 (SqT.of hq), pairedMono (fun _ _ h => PairK.same h s1) pk, nd, few, fun H2 t ts qs ht s2 tz od pr2 => ?_⟩
  have s12 := s1.trans s2
  have hx2 := s12 _ _ hx
  refine g_var rfl ⟨x, C, dx, [], rfl, hx2, cl, n1, (by show 0 < 1000; omega), ?_⟩
  have o1 : OffP x H2 (upd H2 x (.ins C dx (putF "_pairs" (.ref t) []))) := offUpd
  have hx3 : upd H2 x (.ins C dx (putF "_pairs" (.ref t) [])) x = some (.ins C dx (putF "_pairs" (.ref t) [])) := upd_same
  generalize upd H2 x (.ins C dx (putF "_pairs" (.ref t) [])) = H3 at o1 hx3
  refine g_sfld (g_cb (g_cons (g_fld (g_var rfl ?_))))
  refine ⟨x, C, dx, _, _, rfl, hx3, cl, n1, rfl, g_nil ?_⟩
  have tz3 := tupOffI tz hx2 o1
  have pr3 := pairedMono (fun _ _ h => pairOffI h hx2 o1) pr2
  have nq : (qs.map (·.1)).Nodup := (od.perm.map (·.1)).nodup_iff.mpr nd
  refine ⟨t, ts, qs, rfl, tz3, pr3, nq, fun d hd => ?_⟩
  have s4 : Same H3 (upd H3 d (.dK (kvOf qs))) := sameNew hd
  have hd4 : upd H3 d (.dK (kvOf qs)) d = some (.dK (kvOf qs)) := upd_same
  generalize upd H3 d (.dK (kvOf qs)) = H4 at s4 hd4
  have hx4 := s4 _ _ hx3
  refine g_var rfl ⟨x, C, dx, _, rfl, hx4, cl, n2, (by show 1 < 1000; omega), ?_⟩
  have o5 : OffP x H4 (upd H4 x (.ins C dx (putF "_counts" (.ref d) (putF "_pairs" (.ref t) [])))) := offUpd
  have hx5 : upd H4 x (.ins C dx (putF "_counts" (.ref d) (putF "_pairs" (.ref t) []))) x = some (.ins C dx (putF "_counts" (.ref d) (putF "_pairs" (.ref t) []))) := upd_same
  have nd5 : d ≠ x := fun z => by
    rw [z, hx3] at hd
    cases hd
  refine k _ (.ins C dx [("_pairs", .ref t), ("_counts", .ref d)]) qs ⟨fun y hy => ?_, List.nodup_cons.mpr ⟨(fun z => nomatch z), List.nodup_nil⟩, fun b o e hb => ?_, fun y hy z => absurd hy (fun _ => ?_)⟩ od ⟨dx, t, d, ts, hx5, tupOffI (tz3.same s4) hx4 o5, pairedMono (fun _ _ h => pairOffI (PairAt.same h s4) hx4 o5) pr3, o5 _ _ hd4 nd5⟩
  · rw [List.mem_singleton.mp hy]
    exact hx5
  · have ne : b ≠ x := fun z => hb (by rw [z]; exact List.mem_cons_self)
    exact o5 _ _ (s4 _ _ (o1 _ _ (s12 _ _ e) ne)) ne
  · rw [List.mem_singleton.mp hy] at z
    exact z List.mem_cons_self
end
end My
set_option Elab.async false
set_option maxRecDepth 100000
set_option maxHeartbeats 4000000
namespace My
open PySem PySem.Spec PyProof.Rows L2
/-- C.m is a staticmethod: its record at p, its def at g -/
structure SMet (K : PySem.W.Frag) (C : Addr) (mc : Value) (m : Str) (p g : Addr) : Prop where
  rd : PySem.W.readsIn K C mc = true
  ga : PySem.W.specialIn K (.ref C) "__getattribute__" = some (some (.builtin "type.__getattribute__"))
  at_ : PySem.W.findCls K (.ref C) mc m = some (.get (.builtin "staticmethod.__get__") (.ref p) .none (.ref C))
  rc : ∃ rest, PySem.W.recIn K p "staticmethod" = some (.ref g :: rest)
  kp : PySem.W.keepIn K (.ref g) = true
section
variable {X : Cx} {CX : CXT} {k : Nat} {C p g : Addr} {mc : Value} {fd : FuncData} {ps : List Str} {sp : Sp} {E : XK} {o e : Expr} {es : List Expr} {m : Str} {pos apos : Pos} {ta : TE} {t : TA} {pl : Sem Bool}
/-- C.m(e, ..), m a staticmethod of the class at C -/
def tSMeth (C : Addr) (sp : Sp) (E : XK) (ta : TE) (t : TA) : TE := fun σ H Q => ta σ H fun x H1 => x = .ref C ∧ t σ H1 fun vs H2 => sp vs H2 Q E
theorem pe_smeth (he : PE X o ta) (c : SMet X.K C mc m p g) (F : FnOk X.prog X.w X.K X.mg X.base CX k g fd ps sp) (hr : Room k X.A) (hb : Binds X.K fd ps []) (hx : Passes CX X E) (ha : PA X (e :: es) t)
    (hst : starEach (e :: es) X.env = (false, eval e X.env) :: starEach es X.env := by rfl) (hpl : (backTo pos (starEach es X.env)).any (·.1) = false := by rfl)
    (ht : eval (.Call (.Attribute o m apos) (e :: es) [] pos) X.env = (do
      let ov ← eval o X.env
      standAt apos.atName
      let (f, first) ← holding [ov] (getMethod ov m pl)
      callWith pos f first (backTo pos (starEach (e :: es) X.env)) (backToKw pos (keywordEach [] X.env))) := by rfl) :
    PE X (.Call (.Attribute o m apos) (e :: es) [] pos) (tSMeth C sp E ta t) := by
  refine ⟨fun pins s σ H Q I h => ?_⟩
  refine PySem.W.methodCall_KW (pl := pl) (thn (he.run pins s σ H _ I h) fun u s1 ⟨x, H1, I1, rx, ex, q⟩ => ?_) ht
  subst ex
  obtain rfl : u = Value.ref C := rx
  obtain ⟨rest, hp⟩ := c.rc
  refine PySem.W.method_cls I1.kIn c.ga (PySem.W.cls_bind I1.kIn c.rd c.at_ (wpAny_call (PySem.W.sm_get (s := { s1 with toks := s1.toks + 1 }) I1.kIn hp (PySem.W.handed_on rfl ?_))))
  have I2 := I1.tok (s1.toks + 1)
  refine PySem.W.callWith_K (h₀ := X.base) I2.ok.mod.kin c.kp (thn (ha.run pos pins _ σ H1 _ I2 q) fun us s3 ⟨vs, H3, I3, r, q3⟩ => ⟨I3.kIn, ?_⟩) hst hpl
  have hl : (us ++ []).length = ps.length := by
    rw [List.append_nil, ← r.length]
    exact F.len _ _ _ _ q3
  have bd := hb s3 us I3.kIn hl
  rw [List.append_nil] at bd
  refine wpAny_call (codeAny_mono (F.run X.A X.stack s3 H3 ⟨us, []⟩ us vs Q E hr I3.env0 bd r q3) fun r s' hq => ?_)
  cases r with
  | error er => exact hx pins σ _ _ er s' I3 hq
  | ok fl =>
    cases fl with
    | ret u => exact I3.after hq
    | next => exact False.elim hq
    | brk => exact False.elim hq
    | cont => exact False.elim hq
end
end My
set_option Elab.async false
set_option maxRecDepth 100000
set_option maxHeartbeats 8000000
namespace My
open PySem PySem.Spec PyProof.Rows L2
/-- C(*e) -/
def tMakeS (K : PySem.W.Frag) (C : Addr) (sp : Sp) (E : XK) (te : TE) : TE := fun σ H Q => te σ H fun y H1 => ∃ a xs, y = V.ref a ∧ (SqT K H1 a xs ∨ SqL K H1 a xs) ∧ ∀ x dx, H1 x = Option.none → H1 dx = Option.none → dx ≠ x →
  sp (V.ref x :: xs) (upd (upd H1 dx (.own x)) x (.ins C dx [])) (fun v H2 => v = .non ∧ Q (.ref x) H2) E
theorem pe_makeS {X : Cx} {CX : CXT} {k : Nat} {f C : Addr} {sp : Sp} {E : XK} {x : Str} {e : Expr} {te : TE} {p pos sp_ : Pos} (M : Mk X.K C f) (F : FnR X.prog X.w X.K X.mg X.base CX k f sp) (hr : Room (k + 1) X.A) (hg : Gl X x) (hm : X.mg x = some (.ref C)) (hx : Passes CX X E) (he : PE X e te) (hd : (x == ("__debug__" : Str)) = false := by decide)
    (hst : starEach [.Starred e sp_] X.env = [(true, eval e X.env)] := by rfl) : PE X (.Call (.Name x p) [.Starred e sp_] [] pos) (tMakeS X.K C sp E te) := by
  refine ⟨fun pins s σ H Q I h => ?_⟩
  refine wpAny_Call_Name_kw (ld_glob I hg hm ?_ hd)
  refine PySem.W.callWith_S (h₀ := X.base) I.ok.mod.kin M.kp (thn (he.run pins s σ H _ I h) fun v s1 ⟨y, H1, I1, ry, a, xs, ey, hxs, q⟩ => ?_) hst
  subst ey
  obtain rfl : v = Value.ref a := ry
  exact StX.star_any I1 hxs fun us s2 I2 rv => ⟨I2.kIn, StX.run_makeR M F hr hx I2 rv q⟩
theorem g_mkS {K : PySem.W.Frag} {C : Addr} {sp : Sp} {E : XK} {te : TE} {σ : L2.St} {H : Hp} {Q : VK} (h : te σ H fun y H1 => ∃ a xs, y = V.ref a ∧ (SqT K H1 a xs ∨ SqL K H1 a xs) ∧ ∀ x dx, H1 x = Option.none → H1 dx = Option.none → dx ≠ x →
  sp (V.ref x :: xs) (upd (upd H1 dx (.own x)) x (.ins C dx [])) (fun v H2 => v = .non ∧ Q (.ref x) H2) E) : tMakeS K C sp E te σ H Q := h
local macro_rules | `(tactic| walk_at "cond") => `(tactic| first
  | exact Or.inr ⟨by decide, by decide⟩ | exact Or.inl ⟨by decide, by decide⟩ | exact ⟨by decide, by decide, by decide⟩ | exact ⟨by decide, by decide⟩
  | (refine Or.inl ⟨?_, ?_⟩ <;> omega) | (refine Or.inr ⟨?_, ?_⟩ <;> omega)
  | (show (0 : Int) < _; omega))
local macro_rules | `(tactic| walk_at "mem") => `(tactic| first | exact List.Mem.head _ | exact List.Mem.tail _ (List.Mem.head _) | exact Put.head | (refine List.Mem.tail _ ?_; walk_at "mem") | (apply Put.tail; walk_at "mem"))
local macro_rules | `(tactic| walk_at "st") => `(tactic| first
  | with_reducible refine g_seq ?_ | with_reducible refine g_asg ?_ | with_reducible refine g_name ?_ | ((with_reducible show tVar _ _ _ _); refine g_var rfl ?_) | with_reducible refine g_c ?_
  | with_reducible refine g_op ?_ | with_reducible refine g_test ?_ | with_reducible refine g_bl ?_
  | with_reducible refine g_cb ?_ | with_reducible refine g_cons ?_ | with_reducible refine g_nil ?_ | with_reducible refine g_tif ?_ | with_reducible refine g_ifs ?_ | with_reducible refine g_ret ?_
  | with_reducible refine g_drop ?_ | with_reducible refine g_next ?_
  | with_reducible refine g_i0 ?_ | ((with_reducible show rI _ _ _ _ _ _); refine g_i (by walk_at "cond") ?_) | with_reducible refine g_int ?_ | with_reducible refine g_abs ?_ | with_reducible refine g_or ?_
  | with_reducible refine g_and ?_ | with_reducible refine g_not ?_ | with_reducible refine g_lst ?_ | with_reducible refine g_tup ?_
  | with_reducible refine iteT ?_ | with_reducible refine iteF ?_ | with_reducible refine g_par ?_ | with_reducible refine g_two ?_ | with_reducible refine g_sub ?_
  | ((with_reducible show rIxL _ (V.ref _) (V.int _) _ _); refine g_ixM (by assumption) (by walk_at "mem") rfl rfl ?_)
  | ((with_reducible show rSetL (V.ref _) (V.int _) _ _ _); refine g_setM (by assumption) rfl (by walk_at "mem") fun _ _ => ?_)
  | with_reducible refine g_xmk ?_ | with_reducible refine g_xmkK ?_
  | ((with_reducible show XNew _ (spI1 _ _) _ _ _); refine g_x1 (by assumption) fun _ _ _ _ => ?_)
  | ((with_reducible show XNewK _ _ (spI1 _ _) _ _ _ _); refine g_x1k (by assumption) fun _ _ _ _ => ?_)
  | ((with_reducible show XNew _ (spI3 _ _ _ _) _ _ _); refine g_x3 (by assumption) fun _ _ _ _ => ?_)
  | ((with_reducible show tXmk0 _ _ _ _); refine g_xmk0 (by assumption) fun _ _ _ => ?_)
  | ((with_reducible show NewO _ _ _ _); refine g_newo (by assumption) (by first | decide | simp) fun _ _ _ _ => ?_)
  | ((with_reducible show rCat (V.ref _) (V.ref _) _ _); refine g_cat (by assumption) (by walk_at "mem") (by walk_at "mem") (by first | decide | simp) fun _ _ _ _ => ?_))

local macro_rules | `(tactic| walk_at "st") => `(tactic| first | with_reducible refine g_tcall ?_ | with_reducible refine g_tb ?_ | with_reducible refine g_andV ?_ | with_reducible refine g_notV ?_ | with_reducible refine g_chain ?_ | with_reducible refine g_un ?_ | with_reducible refine g_rU ?_)
section
variable {P : Program} {w : World} {K : PySem.W.Frag} {mg : Str → Option Value} {base : Heap}
theorem paired_off {H H' : Hp} {xs : List V} {rs : List (Option (Str × Int))} (h : Paired (PairK K H) xs rs) (e : Same H H') : Paired (PairK K H') xs rs := pairedMono (fun _ _ h => PairK.same h e) h
/-- what making a load of these values comes to -/
def Made (K : PySem.W.Frag) (C CP : Addr) (rs : List (Option (Str × Int))) (H : Hp) (Q : VK) (E : XK) : Prop :=
  match wrongFrom 0 [] rs with
  | some i => ∀ H' d, Same H H' → H' d = Option.none → E (.ref CP) (some d) (upd H' d (.xd [("index", .int (i : Nat))]))
  | none => ∃ ps : List (Str × Int), rs = ps.map some ∧ (ps.map (·.1)).Nodup ∧ ps.length < 64 ∧ ∀ H' x qs, H x = Option.none → Same H H' → Ordered ps qs → LoadAt C H' x qs → Q (.ref x) H'
theorem made_of {C CP : Addr} {rs : List (Option (Str × Int))} {H : Hp} {Q : VK} {E : XK} {xs : List V} (pr : Paired (PairK K H) xs rs) (hl : xs.length ≤ 1000) (h : Made K C CP rs H Q E) :
    ∀ x dx, H x = Option.none → H dx = Option.none → dx ≠ x → spStar1 (spInitX K C CP) (V.ref x :: xs) (upd (upd H dx (.own x)) x (.ins C dx [])) (fun v H2 => v = .non ∧ Q (.ref x) H2) E := by
  intro x dx hx hdx ne
  have n1 : upd H dx (.own x) x = none := by
    rw [upd_ne (fun z => ne z.symm)]
    exact hx
  have s1 : Same H (upd (upd H dx (.own x)) x (.ins C dx [])) := (sameNew hdx).trans (sameNew n1)
  have e1 : upd (upd H dx (.own x)) x (.ins C dx []) x = some (.ins C dx []) := upd_same
  have e2 : upd (upd H dx (.own x)) x (.ins C dx []) dx = some (.own x) := by
    rw [upd_ne ne, upd_same]
  generalize upd (upd H dx (.own x)) x (.ins C dx []) = H1 at s1 e1 e2
  refine ⟨[.ref x], xs, rfl, rfl, Nat.le_trans hl (by decide), fun q nq => ?_⟩
  have s2 : Same H1 (upd H1 q (.tup xs)) := sameNew nq
  refine ⟨x, dx, q, xs, rs, rfl, s2 _ _ e1, s2 _ _ e2, upd_same, paired_off pr (s1.trans s2), hl, ?_⟩
  unfold Made at h
  generalize upd H1 q (.tup xs) = H2 at s2
  cases hw : wrongFrom 0 [] rs with
  | some i =>
    rw [hw] at h
    exact fun H' d s3 hd => h H' d ((s1.trans s2).trans s3) hd
  | none =>
    rw [hw] at h
    obtain ⟨ps, e, nd, few, k⟩ := h
    exact ⟨ps, e, nd, few, fun H' o qs hs od la => ⟨rfl, k H' x qs hx (fun b u z => hs.offp b u (s2 _ _ (s1 _ _ z)) (ne_of_none z hx)) od la⟩⟩
def spOf (K : PySem.W.Frag) (C CP : Addr) : Sp := fun vs H Q E => ∃ v, vs = [v] ∧ ((∃ t, TyX K H v t ∧ PySem.W.kitOne K t (.type "tuple") = some false ∧ ∀ H' d, Same H H' → H' d = Option.none → E (.ref CP) (some d) (upd H' d (.xd [("index", .non)]))) ∨
  (∃ t xs rs, v = .ref t ∧ SqT K H t xs ∧ Paired (PairK K H) xs rs ∧ xs.length ≤ 1000 ∧ Made K C CP rs H Q E))
theorem scOf : FnScope ["pairs"] ["pairs"] (defScope sOf) := ⟨rfl, rfl, rfl, by decide +kernel, rfl, by decide +kernel, by decide +kernel⟩
theorem ok_of {f C CP fI fL : Addr} {fd fdP : FuncData} {B newId initId : String} {bmB : List Value} (F : Fun K "of" "Load.of" sOf f fd) (T : BltN mg) (TP : XCls P w K mg base "InvalidPairs" CP fI B newId initId bmB ["self", "index"] (spI1 CP "index") fdP)
    (M : Mk K C fL) (mL : mg "Load" = some (.ref C)) (FL : FnR P w K mg base (L2.CX P w) 5 fL (spStar1 (spInitX K C CP))) : FnOk P w K mg base (L2.CX P w) 7 f fd ["pairs"] (spOf K C CP) := by
  refine F.okX scOf (fun vs H Q E h => ?_) (fun cdv A outer s H vs Q E hr h => ?_)
  · obtain ⟨v, rfl, _⟩ := h
    rfl
  · obtain ⟨v, rfl, h⟩ := h
    have hr2 := hr.mono (by decide : 2 ≤ 6)
    have tk := takes_of (X := cxOf (L2.CX P w) P w K mg base ["pairs"] "Load.of" (defScope sOf) f cdv A outer s H E) (E := E) rfl rfl rfl rfl
    refine ⟨_, pss_cons (ps_if (pt_not (pt_val (pIsi T.isi (pv 0) (pe_bltn (v := .ty "tuple") rfl T.tuple (by decide +kernel) rfl)))) (pss_one (ps_raise rfl tk (pmk_x TP hr2 rfl (pa_cons pe_non pa_nil)))) pss_nil)
      (pss_one (ps_ret (pe_makeS M FL hr rfl mL (passes_call tk fun _ _ _ _ h => h) (pv 0)))), ?_⟩
    repeat walk_at "st"
    rcases h with ⟨t, ty, k1, q⟩ | ⟨t, xs, rs, rfl, hq, pr, hl, q⟩
    · refine g_isi (.ty _) ty k1 (g_bl (iteT ?_))
      refine g_cons (g_c (g_nil ?_))
      exact rx1_ok fun d hd => q H d (Same.refl H) hd
    · refine g_isi (.ty _) (tyTup hq) (kit_ty (by decide +kernel) : PySem.W.kitOne K (.type "tuple") (.type "tuple") = some true) (g_bl (iteF ?_))
      repeat walk_at "st"
      refine g_mkS (g_var rfl ?_)
      exact ⟨t, xs, rfl, .inl hq, made_of pr hl q⟩
end
end My
set_option Elab.async false
set_option maxRecDepth 100000
set_option maxHeartbeats 8000000
namespace My
open PySem PySem.Spec PyProof.Rows L2
local macro_rules | `(tactic| walk_at "cond") => `(tactic| first
  | exact Or.inr ⟨by decide, by decide⟩ | exact Or.inl ⟨by decide, by decide⟩ | exact ⟨by decide, by decide, by decide⟩ | exact ⟨by decide, by decide⟩
  | (refine Or.inl ⟨?_, ?_⟩ <;> omega) | (refine Or.inr ⟨?_, ?_⟩ <;> omega)
  | (show (0 : Int) < _; omega))
local macro_rules | `(tactic| walk_at "mem") => `(tactic| first | exact List.Mem.head _ | exact List.Mem.tail _ (List.Mem.head _) | exact Put.head | (refine List.Mem.tail _ ?_; walk_at "mem") | (apply Put.tail; walk_at "mem"))
local macro_rules | `(tactic| walk_at "st") => `(tactic| first
  | with_reducible refine g_seq ?_ | with_reducible refine g_asg ?_ | with_reducible refine g_name ?_ | ((with_reducible show tVar _ _ _ _); refine g_var rfl ?_) | with_reducible refine g_c ?_
  | with_reducible refine g_op ?_ | with_reducible refine g_test ?_ | with_reducible refine g_bl ?_
  | with_reducible refine g_cb ?_ | with_reducible refine g_cons ?_ | with_reducible refine g_nil ?_ | with_reducible refine g_tif ?_ | with_reducible refine g_ifs ?_ | with_reducible refine g_ret ?_
  | with_reducible refine g_drop ?_ | with_reducible refine g_next ?_
  | with_reducible refine g_i0 ?_ | ((with_reducible show rI _ _ _ _ _ _); refine g_i (by walk_at "cond") ?_) | with_reducible refine g_int ?_ | with_reducible refine g_abs ?_ | with_reducible refine g_or ?_
  | with_reducible refine g_and ?_ | with_reducible refine g_not ?_ | with_reducible refine g_lst ?_ | with_reducible refine g_tup ?_
  | with_reducible refine iteT ?_ | with_reducible refine iteF ?_ | with_reducible refine g_par ?_ | with_reducible refine g_two ?_ | with_reducible refine g_sub ?_
  | ((with_reducible show rIxL _ (V.ref _) (V.int _) _ _); refine g_ixM (by assumption) (by walk_at "mem") rfl rfl ?_)
  | ((with_reducible show rSetL (V.ref _) (V.int _) _ _ _); refine g_setM (by assumption) rfl (by walk_at "mem") fun _ _ => ?_)
  | with_reducible refine g_xmk ?_ | with_reducible refine g_xmkK ?_
  | ((with_reducible show XNew _ (spI1 _ _) _ _ _); refine g_x1 (by assumption) fun _ _ _ _ => ?_)
  | ((with_reducible show XNewK _ _ (spI1 _ _) _ _ _ _); refine g_x1k (by assumption) fun _ _ _ _ => ?_)
  | ((with_reducible show XNew _ (spI3 _ _ _ _) _ _ _); refine g_x3 (by assumption) fun _ _ _ _ => ?_)
  | ((with_reducible show tXmk0 _ _ _ _); refine g_xmk0 (by assumption) fun _ _ _ => ?_)
  | ((with_reducible show NewO _ _ _ _); refine g_newo (by assumption) (by first | decide | simp) fun _ _ _ _ => ?_)
  | ((with_reducible show rCat (V.ref _) (V.ref _) _ _); refine g_cat (by assumption) (by walk_at "mem") (by walk_at "mem") (by first | decide | simp) fun _ _ _ _ => ?_))
local macro_rules | `(tactic| walk_at "st") => `(tactic| first | with_reducible refine g_tcall ?_ | with_reducible refine g_tb ?_ | with_reducible refine g_andV ?_ | with_reducible refine g_notV ?_ | with_reducible refine g_chain ?_ | with_reducible refine g_un ?_ | with_reducible refine g_rU ?_)
/-- the index of the first one that is no name or stands ahead -/
def wrongNm : Nat → List Str → List (Option Str) → Option Nat
  | _, _, [] => none
  | i, _, none :: _ => some i
  | i, seen, some p :: r => if p ∈ seen then some i else wrongNm (i + 1) (seen ++ [p]) r
theorem NameK.some' {K : PySem.W.Frag} {H : Hp} {v : V} {s : Str} (h : NameK K H v (some s)) : v = .str s ∧ nameB s = true ∧ s.length ≤ sizeLine := by
  generalize e : some s = r at h
  cases h with
  | other ty k => cases e
  | @str z hz =>
    by_cases c : nameB z = true
    · rw [if_pos c] at e
      cases e
      exact ⟨rfl, c, hz⟩
    · rw [if_neg c] at e
      cases e
section
variable {P : Program} {w : World} {K : PySem.W.Frag} {mg : Str → Option Value} {base : Heap}
def spWrongNm (K : PySem.W.Frag) : Sp := fun vs H Q _ => ∃ t xs rs, vs = [.ref t] ∧ SqT K H t xs ∧ Paired (NameK K H) xs rs ∧ xs.length ≤ 1000 ∧ ∀ H', Same H H' → Q (match wrongNm 0 [] rs with | none => .non | some i => .int (i : Nat)) H'
def mostV : Option Int → V
  | none => .non
  | some k => .int k
/-- InvalidKinds with this index -/
def BadIx (CP : Addr) (i : V) (H : Hp) (E : XK) : Prop := ∀ H' d, Same H H' → H' d = none → E (.ref CP) (some d) (upd H' d (.xd [("index", i)]))
/-- what a value is as kinds: none, or its names' judgement -/
inductive KindsK (K : PySem.W.Frag) (H : Hp) : V → Option (List (Option Str)) → Prop where
  | no {v : V} {t : Value} (ty : TyX K H v t) (k : PySem.W.kitOne K t (.type "tuple") = some false) : KindsK K H v none
  | tup {t : Addr} {xs : List V} {rs : List (Option Str)} (q : SqT K H t xs) (pr : Paired (NameK K H) xs rs) (hl : xs.length ≤ 1000) : KindsK K H (.ref t) (some rs)
/-- the index with which kinds are refused, if they are -/
def badKinds (m : Option Int) : Option (List (Option Str)) → Option (Option Nat)
  | none => some none
  | some [] => some none
  | some rs => match m with
    | none => (wrongNm 0 [] rs).map some
    | some k => if (rs.length : Int) > k then some none else (wrongNm 0 [] rs).map some
def ixV : Option Nat → V
  | none => .non
  | some i => .int (i : Nat)
def spKinds (K : PySem.W.Frag) (CP : Addr) : Sp := fun vs H Q E => ∃ v m r, vs = [v, mostV m] ∧ KindsK K H v r ∧ match badKinds m r with
  | some i => BadIx CP (ixV i) H E
  | none => ∀ H', Same H H' → Q .non H'
theorem KindsK.same {H H' : Hp} {v : V} {r : Option (List (Option Str))} (h : KindsK K H v r) (e : Same H H') : KindsK K H' v r := by
  cases h with
  | no ty k => exact .no (tySame ty e) k
  | tup q pr hl => exact .tup (Same.seqT' e q) (pairedMono (fun _ _ h => NameK.same h e) pr) hl
end
end My
set_option Elab.async false
set_option maxRecDepth 100000
set_option maxHeartbeats 8000000
namespace My
open PySem PySem.Spec PyProof.Rows L2
local macro_rules | `(tactic| walk_at "cond") => `(tactic| first
  | exact Or.inr ⟨by decide, by decide⟩ | exact Or.inl ⟨by decide, by decide⟩ | exact ⟨by decide, by decide, by decide⟩ | exact ⟨by decide, by decide⟩
  | (refine Or.inl ⟨?_, ?_⟩ <;> omega) | (refine Or.inr ⟨?_, ?_⟩ <;> omega)
  | (show (0 : Int) < _; omega))
local macro_rules | `(tactic| walk_at "mem") => `(tactic| first | exact List.Mem.head _ | exact List.Mem.tail _ (List.Mem.head _) | exact Put.head | (refine List.Mem.tail _ ?_; walk_at "mem") | (apply Put.tail; walk_at "mem"))
local macro_rules | `(tactic| walk_at "st") => `(tactic| first
  | with_reducible refine g_seq ?_ | with_reducible refine g_asg ?_ | with_reducible refine g_name ?_ | ((with_reducible show tVar _ _ _ _); refine g_var rfl ?_) | with_reducible refine g_c ?_
  | with_reducible refine g_op ?_ | with_reducible refine g_test ?_ | with_reducible refine g_bl ?_
  | with_reducible refine g_cb ?_ | with_reducible refine g_cons ?_ | with_reducible refine g_nil ?_ | with_reducible refine g_tif ?_ | with_reducible refine g_ifs ?_ | with_reducible refine g_ret ?_
  | with_reducible refine g_drop ?_ | with_reducible refine g_next ?_
  | with_reducible refine g_i0 ?_ | ((with_reducible show rI _ _ _ _ _ _); refine g_i (by walk_at "cond") ?_) | with_reducible refine g_int ?_ | with_reducible refine g_abs ?_ | with_reducible refine g_or ?_
  | with_reducible refine g_and ?_ | with_reducible refine g_not ?_ | with_reducible refine g_lst ?_ | with_reducible refine g_tup ?_
  | with_reducible refine iteT ?_ | with_reducible refine iteF ?_ | with_reducible refine g_par ?_ | with_reducible refine g_two ?_ | with_reducible refine g_sub ?_
  | ((with_reducible show rIxL _ (V.ref _) (V.int _) _ _); refine g_ixM (by assumption) (by walk_at "mem") rfl rfl ?_)
  | ((with_reducible show rSetL (V.ref _) (V.int _) _ _ _); refine g_setM (by assumption) rfl (by walk_at "mem") fun _ _ => ?_)
  | with_reducible refine g_xmk ?_ | with_reducible refine g_xmkK ?_
  | ((with_reducible show XNew _ (spI1 _ _) _ _ _); refine g_x1 (by assumption) fun _ _ _ _ => ?_)
  | ((with_reducible show XNewK _ _ (spI1 _ _) _ _ _ _); refine g_x1k (by assumption) fun _ _ _ _ => ?_)
  | ((with_reducible show XNew _ (spI3 _ _ _ _) _ _ _); refine g_x3 (by assumption) fun _ _ _ _ => ?_)
  | ((with_reducible show tXmk0 _ _ _ _); refine g_xmk0 (by assumption) fun _ _ _ => ?_)
  | ((with_reducible show NewO _ _ _ _); refine g_newo (by assumption) (by first | decide | simp) fun _ _ _ _ => ?_)
  | ((with_reducible show rCat (V.ref _) (V.ref _) _ _); refine g_cat (by assumption) (by walk_at "mem") (by walk_at "mem") (by first | decide | simp) fun _ _ _ _ => ?_))

local macro_rules | `(tactic| walk_at "st") => `(tactic| first | with_reducible refine g_tcall ?_ | with_reducible refine g_tb ?_ | with_reducible refine g_andV ?_ | with_reducible refine g_notV ?_ | with_reducible refine g_chain ?_ | with_reducible refine g_un ?_ | with_reducible refine g_rU ?_)
section
variable {P : Program} {w : World} {K : PySem.W.Frag} {mg : Str → Option Value} {base : Heap}
def sumP (ps : List (Str × Int)) : Int := (ps.map (·.2)).sum
def spSize (C : Addr) : Sp := fun vs H Q _ => ∃ a ps, vs = [.ref a] ∧ LoadAt C H a ps ∧ ps.length ≤ 1000 ∧ ∀ H', Same H H' → Q (.int (sumP ps)) H'
theorem scSize : FnScope ["self", "_", "count"] ["self"] (defScope sSize) := ⟨rfl, rfl, rfl, by decide +kernel, rfl, by decide +kernel, by decide +kernel⟩
theorem ok_size {f C : Addr} {fd : FuncData} (F : Fun K "size" "Load.size" sSize f fd) (cl : Cls K C) (n1 : NoAttr K C "_pairs") (mS : mg "sum" = none) : FnOk P w K mg base CX0 1 f fd ["self"] (spSize C) := by
  refine F.ok scSize (fun vs H Q E h => ?_) (fun cdv A outer s H vs Q E hr h => ?_)
  · obtain ⟨a, _, rfl, _⟩ := h
    rfl
  · obtain ⟨a, ps, rfl, ⟨dx, t, d, ts, e1, tz, pr, e3⟩, hl, q⟩ := h
    refine ⟨_, pss_one (ps_ret (pe_callB (cr_sum rfl) (by rfl) mS PyProof.Rows.boot_sum (pa_cons (pe_lc (te := tVar 2) (own := [("_", 1), ("count", 2)]) (g := gTup K 2 (gCons (gName 1) (gCons (gName 2) gNil))) rfl scSize.nd (pi_tup (pe_fld (pv 0) rfl))
      (blkOk_by (own := [("_", 1), ("count", 2)]) (N := ["self", "_", "count"]) (sc := defScope sSize) (by decide +kernel)) (fun _ _ _ _ _ => pg_tup rfl (pgs_cons (pg_name (i := 1) scSize.nd rfl (Or.inl rfl)) (pgs_cons (pg_name (i := 2) scSize.nd rfl (Or.inl rfl)) pgs_nil))) (fun _ _ _ _ _ => pts_nil)
      (fun _ _ _ _ _ => pv 2)) pa_nil))), ?_⟩
    refine g_ret (g_cb (g_cons ?_))
    have lx : ts.length = ps.length := pr.length
    refine ⟨_, rfl, a, C, dx, _, _, rfl, e1, cl, n1, rfl, t, rfl, ⟨ts, tz.seq⟩, fun D hD => lc_tup (xs := ts) (fun j H1 => Same H H1 ∧ H1 D = some (.lst (((ps.take j).map (·.2)).map V.int))) ⟨sameNew hD, upd_same⟩ (fun j H1 _ q => Same.seqT' q.1 tz.seq) ?_ ?_⟩
    · rintro i x H1 hx ⟨s1, d1⟩
      have hi : i < ps.length := by
        have z := (List.getElem?_eq_some_iff.mp hx).1
        omega
      have ep : ps[i]? = some ps[i] := List.getElem?_eq_getElem hi
      obtain ⟨u, rfl, eu⟩ := pairedGet pr hx ep
      refine ⟨u, _, rfl, SqT.of (s1 _ _ eu), rfl, _, _, rfl, g_name ⟨_, _, rfl, g_name ⟨rfl, ?_⟩⟩⟩
      refine ⟨rfl, ?_⟩
      unfold tYes
      refine iteT ?_
      refine g_var rfl ⟨_, d1, ?_, fun b o z => ?_, ?_⟩
      · rw [List.length_map, List.length_map, List.length_take]
        exact small1000 (by omega)
      · rw [upd_ne (ne_of_none z hD)]
        exact s1 _ _ z
      · rw [upd_same, List.take_add_one, ep, List.map_append, List.map_append]
        rfl
    · rintro H1 ⟨s1, d1⟩
      rw [lx, List.take_length] at d1
      exact g_nil ⟨D, ps.map (fun p : Str × Int => p.2), rfl, SqL.of d1, q H1 s1⟩
/-- the figures of a number below 10 ** 64 -/
def spFig : Sp := fun vs H Q _ => ∃ n : Int, vs = [.int n] ∧ 0 ≤ n ∧ n < 10 ^ 64 ∧ ∀ H', Same H H' → Q (.str (toString n : String)) H'
theorem scFig : FnScope ["number", "base", "pieces", "low"] ["number"] (defScope sFig) := ⟨rfl, rfl, rfl, by decide +kernel, rfl, by decide +kernel, by decide +kernel⟩
theorem log_small {n : Int} (h0 : 0 ≤ n) (h : n < 10 ^ 64) : n.natAbs.log2 < 1920 := by
  by_cases z : n.natAbs = 0
  · rw [z]
    decide
  · rw [Nat.log2_lt z]
    have e : n.natAbs < 10 ^ 64 := by omega
    exact Nat.lt_of_lt_of_le e (Nat.le_of_lt (by decide +kernel))
theorem join_one (s : Str) : Txt.join "" [s] = s := by rfl
theorem ok_fig {f : Addr} {fd : FuncData} (F : Fun K "figures_of" "figures_of" sFig f fd) (mS : mg "str" = none) : FnOk P w K mg base CX0 1 f fd ["number"] spFig := by
  refine F.ok scFig (fun vs H Q E h => ?_) (fun cdv A outer s H vs Q E hr h => ?_)
  · obtain ⟨a, rfl, _⟩ := h
    rfl
  · obtain ⟨n, rfl, n0, n1, q⟩ := h
    refine ⟨_, pss_cons (ps_set (i := 1) scFig.nd rfl (Or.inl rfl) (pe_op op_pow pe_int pe_int))
      (pss_cons (ps_set (i := 2) scFig.nd rfl (Or.inl rfl) (pe_lst pa_nil))
      (pss_cons (ps_while PassesOwn.never (pt_cmpR op_ge (pv 0) (pv 1) (nomark _)) pss_never)
      (pss_cons (ps_expr (pe_bm PySem.F.plainAttrs_list PySem.F.slot_list_append PySem.F.type_list_append mt_append (pv 2) (pa_cons (pe_callTy call_str_int (by rfl) mS PyProof.Rows.boot_str (pa_cons (pv 0) pa_nil)) pa_nil)))
      (pss_one (ps_ret (pe_join pe_str (pe_revL (pv 2)))))))), ?_⟩
    have h0 : Hs H H [] [] := Hs.start0
    repeat walk_at "st"
    rename_i p H1 np h1
    have c : ¬ (n ≥ 10 ^ Int.toNat 64) := by
      show ¬ (n ≥ (10 : Int) ^ 64)
      omega
    refine ⟨fun m σ' H' => σ' = [some (.int n), some (.int (10 ^ Int.toNat 64)), some (.ref p), none] ∧ H' = H1, ⟨0, rfl, rfl⟩, ?_⟩
    rintro m σ' H' ⟨rfl, rfl⟩
    repeat walk_at "st"
    refine g_iteF c ?_
    repeat walk_at "st"
    refine g_bm2 (g_var rfl (g_tyL h1 (by walk_at "mem") ?_))
    refine g_cons (g_cb (g_cons (g_var rfl ?_)))
    refine g_nil ⟨n, rfl, log_small n0 n1, g_nil ?_⟩
    refine g_app h1 (by walk_at "mem") (by simp) fun H2 h2 => ?_
    dsimp only
    refine g_ret ?_
    refine ⟨⟨_, rfl⟩, ?_⟩
    refine ⟨.ref p, rfl, p, _, rfl, SqL.of (h2.mem (by walk_at "mem")), fun p2 np2 => ?_⟩
    have h3 := h2.new (o := .lst [.str (toString n : String)]) np2
    have tl := int_text_len_1921 (log_small n0 n1)
    refine ⟨"", p2, [((toString n : String) : Str)], rfl, rfl, .inl (SqL.of (h3.mem (by walk_at "mem"))), ?_, ?_⟩
    · show ((toString n : String) : Str).length + 0 + 1 * ("" : Str).length ≤ 16777216
      have e0 : ("" : Str).length = 0 := rfl
      omega
    · have e : Txt.join "" [((toString n : String) : Str)] = ((toString n : String) : Str) := join_one _
      rw [e]
      exact q _ h3.kept
/-- what a load shows -/
def loadText (ps : List (Str × Int)) : Str := ((((Str.empty ++ ("Load(" : Str)) ++ ((toString (ps.length : Int) : String) : Str)) ++ (" names, size " : Str)) ++ ((toString (sumP ps) : String) : Str)) ++ (")" : Str)
def spRepr (C : Addr) : Sp := fun vs H Q _ => ∃ a ps, vs = [.ref a] ∧ LoadAt C H a ps ∧ ps.length ≤ 1000 ∧ 0 ≤ sumP ps ∧ sumP ps < 10 ^ 64 ∧ ∀ H', Same H H' → Q (.str (loadText ps)) H'
theorem g_prop {C : Addr} {sp : Sp} {dvs : List V} {E : XK} {ta : TE} {σ : L2.St} {H : Hp} {Q : VK} (h : ta σ H fun x H1 => ∃ a dx fs, x = .ref a ∧ H1 a = some (.ins C dx fs) ∧ sp (.ref a :: dvs) H1 Q E) : tProp C sp dvs E ta σ H Q := h
theorem scRepr : FnScope ["self"] ["self"] (defScope sRepr) := ⟨rfl, rfl, rfl, by decide +kernel, rfl, by decide +kernel, by decide +kernel⟩
theorem LoadAt.same {C a : Addr} {H H' : Hp} {ps : List (Str × Int)} (h : LoadAt C H a ps) (e : Same H H') : LoadAt C H' a ps := by
  obtain ⟨dx, t, d, ts, e1, tz, pr, e3⟩ := h
  exact ⟨dx, t, d, ts, e _ _ e1, tz.same e, pairedMono (fun _ _ h => PairAt.same h e) pr, e _ _ e3⟩
theorem ok_repr {f C pSize gSize : Addr} {fd fdS : FuncData} (F : Fun K "__repr__" "Load.__repr__" sRepr f fd) (cl : Cls K C) (n1 : NoAttr K C "_pairs") (mL : mg "len" = none) (hp : PropOf K C "size" pSize gSize) (FS : FnOk P w K mg base CX0 1 gSize fdS ["self"] (spSize C)) (bS : Binds K fdS ["self"] [])
    (C1 : Cal P w K mg base 1 "figures_of" ["number"] spFig) : FnOk P w K mg base CX0 3 f fd ["self"] (spRepr C) := by
  refine F.ok scRepr (fun vs H Q E h => ?_) (fun cdv A outer s H vs Q E hr h => ?_)
  · obtain ⟨a, _, rfl, _⟩ := h
    rfl
  · obtain ⟨a, ps, rfl, la, hl, z0, z1, q⟩ := h
    obtain ⟨dx, t, d, ts, e1, tz, pr, e3⟩ := id la
    refine ⟨_, pss_one (ps_ret (pe_joined (PJ.cons pe_str (PJ.cons (pe_fmt (pLen mL (pe_fld (pv 0) rfl))) (PJ.cons pe_str (PJ.cons (pe_fmt (pCal C1 (hr.mono (by decide : 1 ≤ 2)) (pa_cons (pe_prop (pv 0) cl hp FS hr bS .nil pass0 rfl) pa_nil))) (PJ.cons pe_str PJ.nil))))))), ?_⟩
    refine g_ret ?_
    have l1 : (((ps.length : Int)).natAbs.log2) < 1920 := log_small (by omega) (by
      have : (1000 : Int) < 10 ^ 64 := by decide +kernel
      omega)
    have t1 := int_text_len_1921 l1
    have t2 := int_text_len_1921 (log_small z0 z1)
    have lt : ts.length = ps.length := pr.length
    have c0 : Str.empty.length = 0 := rfl
    have c1 : ("Load(" : Str).length = 5 := rfl
    have c2 : (" names, size " : Str).length = 13 := rfl
    have c3 : (")" : Str).length = 1 := rfl
    refine ⟨_, rfl, by rw [sizeLine_eq]; simp only [strLen_append]; omega, ?_⟩
    refine g_cb (g_cons (g_fld (g_var rfl ⟨a, C, dx, _, _, rfl, e1, cl, n1, rfl, ?_⟩)))
    refine g_nil (g_lenT tz.seq ?_)
    rw [lt]
    refine .inr ⟨_, rfl, l1, _, rfl, by rw [sizeLine_eq]; simp only [strLen_append]; omega, ?_⟩
    refine ⟨_, rfl, by rw [sizeLine_eq]; simp only [strLen_append]; omega, ?_⟩
    refine g_tcall (g_cons (g_prop (g_var rfl ?_)))
    refine ⟨a, dx, _, rfl, e1, a, ps, rfl, la, hl, fun H1 s1 => ?_⟩
    refine g_nil ⟨sumP ps, rfl, z0, z1, fun H2 s2 => ?_⟩
    refine .inl ⟨_, rfl, by rw [sizeLine_eq]; omega, _, rfl, by rw [sizeLine_eq]; simp only [strLen_append]; omega, ?_⟩
    refine ⟨_, rfl, by rw [sizeLine_eq]; simp only [strLen_append]; omega, ?_⟩
    exact q H2 (s1.trans s2)
end
end My
set_option Elab.async false
set_option maxRecDepth 100000
set_option maxHeartbeats 8000000
namespace My
open PySem PySem.Spec PyProof.Rows L2
/-! ### operators and subscripts by own methods -/
section
variable {X : Cx} {CX : CXT} {k : Nat} {C g : Addr} {sp : Sp} {E : XK}
def rOwn2 (C : Addr) (sp : Sp) (E : XK) : R2 := fun x y H Q => ∃ a dx fs b dy gs, x = .ref a ∧ y = .ref b ∧ H a = some (.ins C dx fs) ∧ H b = some (.ins C dy gs) ∧ sp [.ref a, .ref b] H Q E
theorem op_own2 {op : Operator} (hc : PySem.W.selfFirst X.K C = true) (hs : PySem.W.findIn X.K (.ref C) (PySem.dunder op.info.2) = some (some (.ref g))) (hf : PySem.W.isFn X.K (.ref g) = true) (F : FnR X.prog X.w X.K X.mg X.base CX k g sp) (hr : Room k X.A) (hx : Passes CX X E) :
    OpR X (binaryOp op) (rOwn2 C sp E) := by
  intro pins s σ H x y v u Q I rx ry h
  obtain ⟨a, dx, fs, b, dy, gs, rfl, rfl, ha, hb, q⟩ := h
  cases (show v = Value.ref a from rx)
  cases (show u = Value.ref b from ry)
  obtain ⟨mA, O, _⟩ := ins_get I.hok ha
  obtain ⟨od, J, _⟩ := O.look
  obtain ⟨mB, O', _⟩ := ins_get I.hok hb
  obtain ⟨od', J', _⟩ := O'.look
  obtain ⟨m, hF⟩ := I.fr
  refine PySem.W.binop_K hF I.ok.mod.kin J J'.type hc hs hf ?_
  refine wpAny_mono (wpAny_call (run_fnR (us := [.ref a, .ref b]) (vs := [.ref a, .ref b]) F hr hx I (.cons rfl (.cons rfl .nil)) q)) (fun w s' z => ?_) fun _ _ x => x
  obtain ⟨z', H', I', rz, qz⟩ := z
  exact SlX.cmpback rz ⟨z', H', I', rz, qz⟩
def rOwnIx (C : Addr) (sp : Sp) (E : XK) : R2 := fun x y H Q => ∃ a dx fs, x = .ref a ∧ H a = some (.ins C dx fs) ∧ sp [.ref a, y] H Q E
theorem ix_own {a b : Expr} {ta tb : TE} {pos : Pos} (hs : PySem.W.findIn X.K (.ref C) "__getitem__" = some (some (.ref g))) (hf : PySem.W.fnIn X.K g = true) (hfn : PySem.W.isFn X.K (.ref g) = true) (F : FnR X.prog X.w X.K X.mg X.base CX k g sp) (hr : Room (k + 1) X.A) (hx : Passes CX X E)
    (ha : PE X a ta) (hb : PE X b tb) (hsl : ∀ o i, subscripted b true o i = runValue (.builtin "lifetime.subscript" ⟨[o, i], []⟩) := by intro o i; with_unfolding_all rfl) : PE X (.Subscript a b pos) (tOp (rOwnIx C sp E) ta tb) := by
  refine ⟨fun pins s σ H Q I h => ?_⟩
  refine Subscript_ (binT ha hb I h fun v u s2 x y H2 I2 rx ry q => ?_)
  obtain ⟨a', dx, fs, rfl, ha', q⟩ := q
  cases (show v = Value.ref a' from rx)
  obtain ⟨mA, O, _⟩ := ins_get I2.hok ha'
  obtain ⟨od, J, _⟩ := O.look
  obtain ⟨m, hF⟩ := I2.fr
  refine PySem.W.sub_K hF I2.ok.mod.kin J hs hf hfn ?_ (hsl _ _)
  refine wpAny_call (codeAny_mono (F X.A.in1 X.stack s2 H2 [.ref a', u] [.ref a', y] Q E hr.in1 I2.env0.in1 (.cons rfl (.cons ry .nil)) q) fun r s' hq => ?_)
  cases r with
  | error e => exact hx pins σ H2 s2 e s' I2 hq
  | ok fl =>
    cases fl with
    | ret u => exact I2.after hq
    | next => exact False.elim hq
    | brk => exact False.elim hq
    | cont => exact False.elim hq
end
section
variable {X : Cx}
def rLtD (K : PySem.W.Frag) : R2 := fun x y H Q => ∃ d e, Dp K H x d ∧ Dp K H y e ∧ PySem.W.alike d e = true ∧ d ≠ .none ∧ d.depth ≤ 64 ∧ Q (.bl (PySem.W.dataLt d e)) H
theorem op_ltD (hu : X.A.units + 64 < cLine) : OpR X (compareOp .Lt) (rLtD X.K) := by
  intro pins s σ H x y v u Q I rx ry h
  obtain ⟨d, e, hd, he, al, nn, dp, q⟩ := h
  obtain ⟨as, r1⟩ := Dp.reads I d x v hd rx
  obtain ⟨bs, r2⟩ := Dp.reads I e y u he ry
  refine PySem.W.lt_data r1 r2 al nn ?_ ⟨.bl _, H, I, rfl, q⟩
  have h2 : min d.depth e.depth ≤ d.depth := Nat.min_le_left _ _
  omega
end
/-! ### lists of ints, compared -/
theorem alikeI : ∀ (xs ys : List Int), PySem.W.alikeAll (xs.map PyData.int) (ys.map PyData.int) = true
  | x :: xs, y :: ys => by
    show PySem.W.alikeAll (PyData.int x :: xs.map PyData.int) (PyData.int y :: ys.map PyData.int) = true
    unfold PySem.W.alikeAll
    rw [alikeI xs ys]
    rfl
  | [], ys => by
    show PySem.W.alikeAll [] (ys.map PyData.int) = true
    cases ys <;> simp [PySem.W.alikeAll]
  | x :: xs, [] => by
    simp [PySem.W.alikeAll]
theorem alikeL (xs ys : List Int) : PySem.W.alike (.list (xs.map PyData.int)) (.list (ys.map PyData.int)) = true := by
  have e := alikeI xs ys
  simpa [PySem.W.alike] using e
/-- a list of ints ahead of another of the same length -/
def lexI : List Int → List Int → Bool
  | x :: xs, y :: ys => if x = y then lexI xs ys else decide (x < y)
  | _, _ => false
theorem eqvI (x y : Int) : PyData.eqv (.int x) (.int y) = decide (x = y) := by
  by_cases h : x = y
  · subst h
    simp [PyData.eqv]
  · simp [PyData.eqv, h]
theorem ltToks : ∀ (xs ys : List Int), xs.length = ys.length → PyProof.Rows.lexLt itemOrd (PySem.W.keyToksAll (xs.map PyData.int)) (PySem.W.keyToksAll (ys.map PyData.int)) = lexI xs ys
  | [], [], _ => by
    show PyProof.Rows.lexLt itemOrd (PySem.W.keyToksAll []) (PySem.W.keyToksAll []) = false
    simp [PySem.W.keyToksAll, PyProof.Rows.lexLt]
    decide
  | x :: xs, y :: ys, h => by
    have al : PySem.W.alike (.int x) (.int y) = true := by simp [PySem.W.alike]
    rw [List.map_cons, List.map_cons]
    unfold lexI
    by_cases e : x = y
    · rw [if_pos e, PySem.W.dataLt_all_yes al (by rw [eqvI]; exact decide_eq_true e)]
      exact ltToks xs ys (by simpa using h)
    · rw [if_neg e, PySem.W.dataLt_all_no al (by rw [eqvI]; exact decide_eq_false e)]
      exact PySem.W.dataLt_int x y
  | [], _ :: _, h => by simp at h
  | _ :: _, [], h => by simp at h
theorem dataLtI (xs ys : List Int) (h : xs.length = ys.length) : PySem.W.dataLt (.list (xs.map PyData.int)) (.list (ys.map PyData.int)) = lexI xs ys := by
  rw [PySem.W.dataLt_list]
  exact ltToks xs ys h
theorem eqvAllI : ∀ (xs ys : List Int), xs.length = ys.length → PyData.eqvAll (xs.map PyData.int) (ys.map PyData.int) = decide (xs = ys)
  | [], [], _ => by simp [PyData.eqvAll]
  | x :: xs, y :: ys, h => by
    rw [List.map_cons, List.map_cons, PySem.W.eqv_all_cons, eqvI, eqvAllI xs ys (by simpa using h)]
    by_cases a : x = y <;> by_cases b : xs = ys <;> simp [a, b]
  | [], _ :: _, h => by simp at h
  | _ :: _, [], h => by simp at h
theorem eqvL (xs ys : List Int) (h : xs.length = ys.length) : PyData.eqv (.list (xs.map PyData.int)) (.list (ys.map PyData.int)) = decide (xs = ys) := by
  have e := eqvAllI xs ys h
  simpa [PyData.eqv] using e
theorem depthAllI : ∀ xs : List Int, PyData.depthAll (xs.map PyData.int) = 0
  | [] => by simp [PyData.depthAll]
  | x :: xs => by
    rw [List.map_cons]
    simp [PyData.depthAll, PyData.depth, depthAllI xs]
theorem depthI (xs : List Int) : (PyData.list (xs.map PyData.int)).depth ≤ 2 := by
  simp [PyData.depth, depthAllI xs]
theorem canAllI : ∀ xs : List Int, PyData.canLayAll0 (xs.map PyData.int) = true
  | [] => by simp [PyData.canLayAll0]
  | x :: xs => by
    rw [List.map_cons]
    simp [PyData.canLayAll0, PyData.canLay0, canAllI xs]
theorem canI (xs : List Int) : (PyData.list (xs.map PyData.int)).canLay0 = true := by
  simp [PyData.canLay0, canAllI xs]
theorem shapedI (xs : List Int) : SeqAt.shaped (.list (xs.map PyData.int)) = true := by
  unfold SeqAt.shaped
  rw [canI, decide_eq_true (Nat.le_trans (depthI xs) (by decide))]
  rfl
section
variable {K : PySem.W.Frag} {H : Hp} {Q : VK} {a b : Addr}
theorem g_eqLI {ns ms : List Int} (h1 : SqL K H a (ns.map V.int)) (h2 : SqL K H b (ms.map V.int)) (hl : ns.length = ms.length) (q : Q (.bl (decide (ns = ms))) H) : rEqD K (.ref a) (.ref b) H Q :=
  ⟨_, _, Dp.lst h1 (dpI ns), Dp.lst h2 (dpI ms), shapedI ns, shapedI ms, by rw [eqvL ns ms hl]; exact q⟩
theorem g_ltLI {ns ms : List Int} (h1 : SqL K H a (ns.map V.int)) (h2 : SqL K H b (ms.map V.int)) (hl : ns.length = ms.length) (q : Q (.bl (lexI ns ms)) H) : rLtD K (.ref a) (.ref b) H Q :=
  ⟨_, _, Dp.lst h1 (dpI ns), Dp.lst h2 (dpI ms), alikeL ns ms, (fun z => nomatch z), Nat.le_trans (depthI ns) (by decide), by rw [dataLtI ns ms hl]; exact q⟩
end
end My
set_option Elab.async false
set_option maxRecDepth 100000
set_option maxHeartbeats 8000000
namespace My
open PySem PySem.Spec PyProof.Rows L2
/-- all but lists stay -/
def Keep (H H' : Hp) : Prop := ∀ b o, H b = some o → (∀ xs, o ≠ .lst xs) → H' b = some o
theorem Keep.of {H H' : Hp} (e : Same H H') : Keep H H' := fun b o h _ => e b o h
theorem Keep.refl (H : Hp) : Keep H H := fun _ _ h _ => h
theorem Keep.trans {H H1 H2 : Hp} (a : Keep H H1) (b : Keep H1 H2) : Keep H H2 := fun c o h n => b c o (a c o h n) n
/-- all but what stands at ms stays -/
def Off (ms : List Addr) (H H' : Hp) : Prop := ∀ b o, H b = some o → b ∉ ms → H' b = some o
theorem Off.refl (ms : List Addr) (H : Hp) : Off ms H H := fun _ _ h _ => h
theorem Off.trans {ms : List Addr} {H H1 H2 : Hp} (a : Off ms H H1) (b : Off ms H1 H2) : Off ms H H2 := fun c o h n => b c o (a c o h n) n
theorem Off.of {ms : List Addr} {H H' : Hp} (e : Same H H') : Off ms H H' := fun b o h _ => e b o h
theorem Off.nil {H H' : Hp} (e : Off [] H H') : Same H H' := fun b o h => e b o h (fun z => nomatch z)
theorem Off.one {p : Addr} {H H' : Hp} (e : OffP p H H') : Off [p] H H' := fun b o h n => e b o h fun z => n (by rw [z]; exact List.mem_cons_self)
theorem Off.offp {p : Addr} {H H' : Hp} (e : Off [p] H H') : OffP p H H' := fun b o h n => e b o h fun z => n (List.mem_singleton.mp z)
theorem keepOff {p : Addr} {H H' : Hp} {xs : List V} (e : OffP p H H') (hp : H p = some (.lst xs)) : Keep H H' := fun b o h n => e b o h fun z => by
  rw [z, hp] at h
  exact n xs (Option.some.inj h).symm
theorem keepUpd {p : Addr} {H : Hp} {xs : List V} {o : HO} (hp : H p = some (.lst xs)) : Keep H (upd H p o) := keepOff (fun b u h n => by rw [upd_ne n]; exact h) hp
def Mono {β : Type} (R : Hp → V → β → Prop) : Prop := ∀ H H' v b, Keep H H' → R H v b → R H' v b
theorem PairAt.keep : Mono PairAt := fun H H' v q e h => by
  obtain ⟨u, rfl, z⟩ := h
  exact ⟨u, rfl, e _ _ z (fun _ y => nomatch y)⟩
theorem TupZ.keep {H H' : Hp} {t : Addr} {ts : List V} (h : TupZ H t ts) (e : Keep H H') : TupZ H' t ts := let ⟨o, z, n⟩ := h; ⟨o, e _ _ z (fun _ y => nomatch y), n⟩
theorem LoadAt.keep {C a : Addr} {H H' : Hp} {ps : List (Str × Int)} (h : LoadAt C H a ps) (e : Keep H H') : LoadAt C H' a ps := by
  obtain ⟨dx, t, d, ts, e1, tz, pr, e3⟩ := h
  exact ⟨dx, t, d, ts, e _ _ e1 (fun _ y => nomatch y), tz.keep e, pairedMono (fun _ _ h => PairAt.keep _ _ _ _ e h) pr, e _ _ e3 (fun _ y => nomatch y)⟩
theorem seqTK {K : PySem.W.Frag} {H H' : Hp} {a : Addr} {xs : List V} (h : SqT K H a xs) (e : Keep H H') : SqT K H' a xs := by
  rcases h with (h | ⟨o, h⟩) | h
  · exact .inl (.inl (e _ _ h (fun _ y => nomatch y)))
  · exact .inl (.inr ⟨o, e _ _ h (fun _ y => nomatch y)⟩)
  · exact .inr h
/-- a comprehension over anything that is walked: what is made so far is told by Fs; ms may change meanwhile, and Jm tells of it -/
theorem lcW {β : Type} {J : It} {n : Nat} {G : Hp → Prop} {Y : Nat → Hp → V → Hp → Prop} (w : Walk J n G Y) {g : TG} {tt : TT} {te : TE} {vs : List Nat} {σ : L2.St} {H1 : Hp} {D : Addr} {Qd : Hp → Prop} (R : Hp → V → β → Prop) (mono : Mono R) (Fs : Nat → List β → Prop) (f0 : Fs 0 [])
    (ms : List Addr) (Jm : Hp → Prop) (hJ : ∀ H H', (∀ m ∈ ms, H' m = H m) → Jm H → Jm H') (hms : ∀ m ∈ ms, H1 m ≠ none) (j0 : Jm H1) (hD : H1 D = none) (hn : n ≤ 100000) (hG : ∀ H, Off ms H1 H → Jm H → G H)
    (hs : ∀ i x H H' l, i < n → Off ms H1 H → Jm H → Fs i l → Y i H x H' → ∀ (KT : V → Hp → Prop) (KF : Hp → Prop),
      (∀ y H4 v, Off ms H H4 → Keep H H4 → Jm H4 → Fs (i + 1) (l ++ [v]) → R H4 y v → KT y H4) → (∀ H3, Off ms H H3 → Keep H H3 → Jm H3 → Fs (i + 1) l → KF H3) →
      g x (wipe σ vs) H' fun σ2 H2 => wipe σ2 vs = wipe σ vs ∧ tt σ2 H2 fun b H3 => if b = true then te σ2 H3 KT else KF H3)
    (hd : ∀ H acc l, Off ms H1 H → Jm H → H D = some (.lst acc) → Paired (R H) acc l → Fs n l → Qd H) :
    ∃ W : Nat → Nat → Hp → Prop, (∃ m, W 0 m (upd H1 D (.lst []))) ∧ ∀ i m H, W i m H →
      (J.stop i H ∧ Qd H) ∨ (J.go i H ∧ ∃ Nx : Hp → Prop, (∀ H', Nx H' → ∃ m', m' < m ∧ W (i + 1) m' H') ∧ ∀ x H', J.yld i H x H' → g x (wipe σ vs) H' fun σ2 H2 => wipe σ2 vs = wipe σ vs ∧ tt σ2 H2 fun b H3 =>
        if b = true then te σ2 H3 fun y H4 => ∃ acc, H4 D = some (.lst acc) ∧ acc.length < sizeLine ∧ Nx (upd H4 D (.lst (acc ++ [y]))) else Nx H3) := by
  have nD : ∀ m ∈ ms, m ≠ D := fun m hm z => hms m hm (z ▸ hD)
  have oD : ∀ {H : Hp} {o : HO}, Off ms H1 H → Off ms H1 (upd H D o) := fun {H o} e b u h n => by
    rw [upd_ne (ne_of_none h hD)]
    exact e b u h n
  have jD : ∀ {H : Hp} {o : HO}, Jm H → Jm (upd H D o) := fun {H o} j => hJ _ _ (fun m hm => upd_ne (nD m hm)) j
  refine lc_it w (fun i H => Off ms H1 H ∧ Jm H ∧ ∃ acc l, H D = some (.lst acc) ∧ Paired (R H) acc l ∧ Fs i l ∧ acc.length ≤ i) ⟨oD (Off.refl ms H1), jD j0, [], [], upd_same, .nil, f0, Nat.le_refl 0⟩ (fun i H _ q => hG H q.1 q.2.1) ?_ ?_
  · rintro i x H H' hi ⟨o1, j1, acc, l, d1, pr, fs, la⟩ y
    refine hs i x H H' l hi o1 j1 fs y _ _ (fun y H4 v o4 k4 j4 f4 r4 => ?_) fun H3 o3 k3 j3 f3 => ?_
    · have d4 := o4 _ _ d1 (fun z => nD _ z rfl)
      have kk := keepUpd (o := .lst (acc ++ [y])) d4
      refine ⟨acc, d4, ?_, oD (o1.trans o4), jD j4, acc ++ [y], l ++ [v], upd_same, pairedApp (pairedMono (fun a b h => mono _ _ _ _ (k4.trans kk) h) pr) (.cons (mono _ _ _ _ kk r4) .nil), f4, by rw [List.length_append]; exact Nat.succ_le_succ la⟩
      exact Nat.lt_of_le_of_lt (Nat.le_trans la (Nat.le_trans (Nat.le_of_lt hi) hn)) (by decide)
    · exact ⟨o1.trans o3, j3, acc, l, o3 _ _ d1 (fun z => nD _ z rfl), pairedMono (fun a b h => mono _ _ _ _ k3 h) pr, f3, Nat.le_succ_of_le la⟩
  · rintro H ⟨o1, j1, acc, l, d1, pr, fs, _⟩
    exact hd H acc l o1 j1 d1 pr fs
/-- .. with nothing that changes -/
theorem lcS {β : Type} {J : It} {n : Nat} {G : Hp → Prop} {Y : Nat → Hp → V → Hp → Prop} (w : Walk J n G Y) {g : TG} {tt : TT} {te : TE} {vs : List Nat} {σ : L2.St} {H1 : Hp} {D : Addr} {Qd : Hp → Prop} (R : Hp → V → β → Prop) (mono : Mono R) (Fs : Nat → List β → Prop) (f0 : Fs 0 [])
    (hD : H1 D = none) (hn : n ≤ 100000) (hG : ∀ H, Same H1 H → G H)
    (hs : ∀ i x H H' l, i < n → Same H1 H → Fs i l → Y i H x H' → ∀ (KT : V → Hp → Prop) (KF : Hp → Prop),
      (∀ y H4 v, Same H H4 → Fs (i + 1) (l ++ [v]) → R H4 y v → KT y H4) → (∀ H3, Same H H3 → Fs (i + 1) l → KF H3) →
      g x (wipe σ vs) H' fun σ2 H2 => wipe σ2 vs = wipe σ vs ∧ tt σ2 H2 fun b H3 => if b = true then te σ2 H3 KT else KF H3)
    (hd : ∀ H acc l, Same H1 H → H D = some (.lst acc) → Paired (R H) acc l → Fs n l → Qd H) :
    ∃ W : Nat → Nat → Hp → Prop, (∃ m, W 0 m (upd H1 D (.lst []))) ∧ ∀ i m H, W i m H →
      (J.stop i H ∧ Qd H) ∨ (J.go i H ∧ ∃ Nx : Hp → Prop, (∀ H', Nx H' → ∃ m', m' < m ∧ W (i + 1) m' H') ∧ ∀ x H', J.yld i H x H' → g x (wipe σ vs) H' fun σ2 H2 => wipe σ2 vs = wipe σ vs ∧ tt σ2 H2 fun b H3 =>
        if b = true then te σ2 H3 fun y H4 => ∃ acc, H4 D = some (.lst acc) ∧ acc.length < sizeLine ∧ Nx (upd H4 D (.lst (acc ++ [y]))) else Nx H3) :=
  lcW w R mono Fs f0 [] (fun _ => True) (fun _ _ _ _ => True.intro) (fun _ z => nomatch z) True.intro hD hn (fun H o _ => hG H o.nil)
    (fun i x H H' l hi o _ f y KT KF kt kf => hs i x H H' l hi o.nil f y KT KF (fun y H4 v s f r => kt y H4 v (Off.of s) (Keep.of s) True.intro f r) fun H3 s f => kf H3 (Off.of s) (Keep.of s) True.intro f)
    fun H acc l o _ d pr f => hd H acc l o.nil d pr f
end My
set_option Elab.async false
set_option maxRecDepth 100000
set_option maxHeartbeats 8000000
namespace My
open PySem PySem.Spec PyProof.Rows L2
local macro_rules | `(tactic| walk_at "cond") => `(tactic| first
  | exact Or.inr ⟨by decide, by decide⟩ | exact Or.inl ⟨by decide, by decide⟩ | exact ⟨by decide, by decide, by decide⟩ | exact ⟨by decide, by decide⟩
  | (refine Or.inl ⟨?_, ?_⟩ <;> omega) | (refine Or.inr ⟨?_, ?_⟩ <;> omega)
  | (show (0 : Int) < _; omega))
local macro_rules | `(tactic| walk_at "mem") => `(tactic| first | exact List.Mem.head _ | exact List.Mem.tail _ (List.Mem.head _) | exact Put.head | (refine List.Mem.tail _ ?_; walk_at "mem") | (apply Put.tail; walk_at "mem"))
local macro_rules | `(tactic| walk_at "st") => `(tactic| first
  | with_reducible refine g_seq ?_ | with_reducible refine g_asg ?_ | with_reducible refine g_name ?_ | ((with_reducible show tVar _ _ _ _); refine g_var rfl ?_) | with_reducible refine g_c ?_
  | with_reducible refine g_op ?_ | with_reducible refine g_test ?_ | with_reducible refine g_bl ?_
  | with_reducible refine g_cb ?_ | with_reducible refine g_cons ?_ | with_reducible refine g_nil ?_ | with_reducible refine g_tif ?_ | with_reducible refine g_ifs ?_ | with_reducible refine g_ret ?_
  | with_reducible refine g_drop ?_ | with_reducible refine g_next ?_
  | with_reducible refine g_i0 ?_ | ((with_reducible show rI _ _ _ _ _ _); refine g_i (by walk_at "cond") ?_) | with_reducible refine g_int ?_ | with_reducible refine g_abs ?_ | with_reducible refine g_or ?_
  | with_reducible refine g_and ?_ | with_reducible refine g_not ?_ | with_reducible refine g_lst ?_ | with_reducible refine g_tup ?_
  | with_reducible refine iteT ?_ | with_reducible refine iteF ?_ | with_reducible refine g_par ?_ | with_reducible refine g_two ?_ | with_reducible refine g_sub ?_
  | ((with_reducible show rIxL _ (V.ref _) (V.int _) _ _); refine g_ixM (by assumption) (by walk_at "mem") rfl rfl ?_)
  | ((with_reducible show rSetL (V.ref _) (V.int _) _ _ _); refine g_setM (by assumption) rfl (by walk_at "mem") fun _ _ => ?_)
  | with_reducible refine g_xmk ?_ | with_reducible refine g_xmkK ?_
  | ((with_reducible show XNew _ (spI1 _ _) _ _ _); refine g_x1 (by assumption) fun _ _ _ _ => ?_)
  | ((with_reducible show XNewK _ _ (spI1 _ _) _ _ _ _); refine g_x1k (by assumption) fun _ _ _ _ => ?_)
  | ((with_reducible show XNew _ (spI3 _ _ _ _) _ _ _); refine g_x3 (by assumption) fun _ _ _ _ => ?_)
  | ((with_reducible show tXmk0 _ _ _ _); refine g_xmk0 (by assumption) fun _ _ _ => ?_)
  | ((with_reducible show NewO _ _ _ _); refine g_newo (by assumption) (by first | decide | simp) fun _ _ _ _ => ?_)
  | ((with_reducible show rCat (V.ref _) (V.ref _) _ _); refine g_cat (by assumption) (by walk_at "mem") (by walk_at "mem") (by first | decide | simp) fun _ _ _ _ => ?_))
local macro_rules | `(tactic| walk_at "st") => `(tactic| first | with_reducible refine g_tcall ?_ | with_reducible refine g_tb ?_ | with_reducible refine g_andV ?_ | with_reducible refine g_notV ?_ | with_reducible refine g_chain ?_ | with_reducible refine g_un ?_ | with_reducible refine g_rU ?_)
/-- what of the text the class of loads must have -/
structure LoadC (K : PySem.W.Frag) (C : Addr) : Prop where
  ic : C8.InsC K C
  n1 : NoAttr K C "_pairs"
  n2 : NoAttr K C "_counts"
/-- the pairs of a load -/
structure GoodP (ps : List (Str × Int)) : Prop where
  name : ∀ p ∈ ps, nameB p.1 = true
  count : ∀ p ∈ ps, 1 ≤ p.2
  nd : (ps.map (·.1)).Nodup
def countOf : List (Str × Int) → Str → Int
  | [], _ => 0
  | p :: ps, s => if p.1 = s then p.2 else countOf ps s
theorem kv_count : ∀ (ps : List (Str × Int)) (s : Str), (valV (kvOf ps) (Sum.inr s)).getD (.int 0) = .int (countOf ps s)
  | [], _ => rfl
  | p :: ps, s => by
    unfold countOf
    by_cases h : p.1 = s
    · rw [if_pos h]
      have e : valV (kvOf (p :: ps)) (Sum.inr s) = some (.int p.2) := by
        unfold kvOf
        rw [List.map_cons]
        exact valV_pos (by rw [h])
      rw [e]
      rfl
    · rw [if_neg h]
      have e : valV (kvOf (p :: ps)) (Sum.inr s) = valV (kvOf ps) (Sum.inr s) := by
        unfold kvOf valV
        rw [List.map_cons, List.find?_cons]
        have z : decide (((Sum.inr p.1 : Key), V.int p.2).1 = Sum.inr s) = false := by simp [h]
        rw [z]
      rw [e]
      exact kv_count ps s
/-- n more of s -/
def put1 (ps : List (Str × Int)) (s : Str) (n : Int) : List (Str × Int) := if (ps.any fun p => decide (p.1 = s)) = true then ps.map (fun p => if p.1 = s then (p.1, countOf ps s + n) else p) else ps ++ [(s, n)]
theorem any_kv (ps : List (Str × Int)) (s : Str) : ((kvOf ps).any fun kv => decide (kv.1 = (Sum.inr s : Key))) = ps.any fun p => decide (p.1 = s) := by
  unfold kvOf
  rw [List.any_map]
  congr 1
  funext p
  simp
theorem count_no : ∀ {ps : List (Str × Int)} {s : Str}, (ps.any fun p => decide (p.1 = s)) = false → countOf ps s = 0
  | [], _, _ => rfl
  | p :: ps, s, h => by
    rw [List.any_cons, Bool.or_eq_false_iff] at h
    unfold countOf
    rw [if_neg (of_decide_eq_false h.1)]
    exact count_no h.2
theorem kv_put1 (ps : List (Str × Int)) (s : Str) (n : Int) : putK (kvOf ps) (Sum.inr s) (.int (countOf ps s + n)) = kvOf (put1 ps s n) := by
  unfold putK put1
  rw [any_kv]
  cases h : ps.any fun p => decide (p.1 = s) with
  | true =>
    rw [if_pos rfl, if_pos rfl]
    unfold kvOf
    rw [List.map_map, List.map_map]
    apply List.map_congr_left
    intro p _
    show (if (Sum.inr p.1 : Key) = Sum.inr s then ((Sum.inr p.1 : Key), V.int (countOf ps s + n)) else (Sum.inr p.1, .int p.2)) = _
    by_cases e : p.1 = s
    · rw [if_pos (by rw [e])]
      show _ = (fun p : Str × Int => ((Sum.inr p.1 : Key), V.int p.2)) (if p.1 = s then (p.1, countOf ps s + n) else p)
      rw [if_pos e]
    · rw [if_neg (fun z => e (by injection z))]
      show _ = (fun p : Str × Int => ((Sum.inr p.1 : Key), V.int p.2)) (if p.1 = s then (p.1, countOf ps s + n) else p)
      rw [if_neg e]
  | false =>
    rw [if_neg Bool.false_ne_true, if_neg Bool.false_ne_true, count_no h, Int.zero_add]
    unfold kvOf
    rw [List.map_append]
    rfl
def addP (ps : List (Str × Int)) : List (Str × Int) → List (Str × Int)
  | [] => ps
  | q :: qs => addP (put1 ps q.1 q.2) qs
theorem put1_len (ps : List (Str × Int)) (s : Str) (n : Int) : (put1 ps s n).length ≤ ps.length + 1 := by
  unfold put1
  split
  · rw [List.length_map]
    omega
  · rw [List.length_append]
    exact Nat.le_refl _
theorem put1_names (ps : List (Str × Int)) (s : Str) (n : Int) : (put1 ps s n).map (·.1) = if (ps.any fun p => decide (p.1 = s)) = true then ps.map (·.1) else ps.map (·.1) ++ [s] := by
  unfold put1
  split
  · rw [List.map_map]
    apply List.map_congr_left
    intro p _
    show (if p.1 = s then (p.1, countOf ps s + n) else p).1 = p.1
    split <;> rfl
  · rw [List.map_append]
    rfl
theorem put1_nd {ps : List (Str × Int)} (nd : (ps.map (·.1)).Nodup) (s : Str) (n : Int) : ((put1 ps s n).map (·.1)).Nodup := by
  rw [put1_names]
  split
  · exact nd
  · rename_i h
    rw [List.nodup_append]
    refine ⟨nd, by simp, fun a ha b hb => ?_⟩
    rw [List.mem_singleton.mp hb]
    intro z
    subst z
    obtain ⟨p, hp, e⟩ := List.mem_map.mp ha
    exact h (List.any_eq_true.mpr ⟨p, hp, decide_eq_true e⟩)
theorem addP_nd : ∀ {qs ps : List (Str × Int)}, (ps.map (·.1)).Nodup → ((addP ps qs).map (·.1)).Nodup
  | [], _, nd => nd
  | q :: qs, ps, nd => addP_nd (qs := qs) (put1_nd nd q.1 q.2)
theorem addP_len : ∀ {qs ps : List (Str × Int)}, (addP ps qs).length ≤ ps.length + qs.length
  | [], _ => Nat.le_refl _
  | q :: qs, ps => by
    have h := addP_len (qs := qs) (ps := put1 ps q.1 q.2)
    have g := put1_len ps q.1 q.2
    show (addP (put1 ps q.1 q.2) qs).length ≤ _
    rw [List.length_cons]
    omega
theorem count_pos : ∀ {ps : List (Str × Int)} {s : Str}, (∀ p ∈ ps, 1 ≤ p.2) → 0 ≤ countOf ps s
  | [], _, _ => Int.le_refl 0
  | p :: ps, s, h => by
    unfold countOf
    split
    · have := h p List.mem_cons_self
      omega
    · exact count_pos fun q hq => h q (List.mem_cons_of_mem _ hq)
theorem put1_mem {ps : List (Str × Int)} {s : Str} {n : Int} {q : Str × Int} (h : q ∈ put1 ps s n) : q ∈ ps ∨ (q.1 = s ∧ (q.2 = countOf ps s + n ∨ q.2 = n)) := by
  unfold put1 at h
  split at h
  · obtain ⟨p, hp, e⟩ := List.mem_map.mp h
    by_cases z : p.1 = s
    · rw [if_pos z] at e
      subst e
      exact .inr ⟨z, .inl rfl⟩
    · rw [if_neg z] at e
      subst e
      exact .inl hp
  · rcases List.mem_append.mp h with h | h
    · exact .inl h
    · rw [List.mem_singleton.mp h]
      exact .inr ⟨rfl, .inr rfl⟩
theorem put1_good {ps : List (Str × Int)} {s : Str} {n : Int} (g : GoodP ps) (hs : nameB s = true) (hn : 1 ≤ n) : GoodP (put1 ps s n) := by
  refine ⟨fun q hq => ?_, fun q hq => ?_, put1_nd g.nd s n⟩
  · rcases put1_mem hq with h | ⟨h, _⟩
    · exact g.name q h
    · rw [h]
      exact hs
  · rcases put1_mem hq with h | ⟨_, h | h⟩
    · exact g.count q h
    · have := count_pos (s := s) g.count
      omega
    · omega
theorem addP_good : ∀ {qs ps : List (Str × Int)}, GoodP ps → (∀ p ∈ qs, nameB p.1 = true) → (∀ p ∈ qs, 1 ≤ p.2) → GoodP (addP ps qs)
  | [], _, g, _, _ => g
  | q :: qs, ps, g, h1, h2 => addP_good (qs := qs) (put1_good g (h1 q List.mem_cons_self) (h2 q List.mem_cons_self)) (fun p hp => h1 p (List.mem_cons_of_mem _ hp)) fun p hp => h2 p (List.mem_cons_of_mem _ hp)
theorem GoodP.perm {ps qs : List (Str × Int)} (g : GoodP ps) (h : qs.Perm ps) : GoodP qs := ⟨fun p hp => g.name p (h.mem_iff.mp hp), fun p hp => g.count p (h.mem_iff.mp hp), (h.map (·.1)).nodup_iff.mpr g.nd⟩
theorem pairedEq {α β : Type} {f : β → α} : ∀ {as : List α} {bs : List β}, Paired (fun a b => a = f b) as bs → as = bs.map f
  | _, _, .nil => rfl
  | _, _, .cons h t => by rw [h, pairedEq t]; rfl
theorem take_map_succ {α β : Type} {f : α → β} {ps : List α} {i : Nat} (hi : i < ps.length) : (ps.take (i + 1)).map f = (ps.take i).map f ++ [f ps[i]] := by
  rw [List.take_add_one, List.getElem?_eq_getElem hi, List.map_append]
  rfl
section
variable {P : Program} {w : World} {K : PySem.W.Frag} {mg : Str → Option Value} {base : Heap}
def namesV (ps : List (Str × Int)) : List V := ps.map fun p => V.str p.1
def spNames (K : PySem.W.Frag) (C : Addr) : Sp := fun vs H Q _ => ∃ a ps, vs = [.ref a] ∧ LoadAt C H a ps ∧ ps.length ≤ 1000 ∧ ∀ H' t, Same H H' → SqT K H' t (namesV ps) → Q (.ref t) H'
theorem scNames : FnScope ["self", "name", "_"] ["self"] (defScope s_Load_names) := ⟨rfl, rfl, rfl, by decide +kernel, rfl, by decide +kernel, by decide +kernel⟩
theorem ok_names {f C : Addr} {fd : FuncData} (F : Fun K "names" "Load.names" s_Load_names f fd) (c : LoadC K C) (mT : mg "tuple" = none) : FnOk P w K mg base CX0 1 f fd ["self"] (spNames K C) := by
  refine F.ok scNames (fun vs H Q E h => ?_) (fun cdv A outer s H vs Q E hr h => ?_)
  · obtain ⟨a, _, rfl, _⟩ := h
    rfl
  · obtain ⟨a, ps, rfl, ⟨dx, t, d, ts, e1, tz, pr, e3⟩, hl, q⟩ := h
    refine ⟨_, pss_one (ps_ret (pe_callTy (r := rTupZ K) call_tupZ (by rfl) mT PyProof.Rows.boot_tuple (pa_cons (pe_lc (te := tVar 1) (own := [("name", 1), ("_", 2)]) (g := gTup K 2 (gCons (gName 1) (gCons (gName 2) gNil))) rfl scNames.nd (pi_tup (pe_fld (pv 0) rfl))
      (blkOk_by (own := [("name", 1), ("_", 2)]) (N := ["self", "name", "_"]) (sc := defScope s_Load_names) (by decide +kernel)) (fun _ _ _ _ _ => pg_tup rfl (pgs_cons (pg_name (i := 1) scNames.nd rfl (Or.inl rfl)) (pgs_cons (pg_name (i := 2) scNames.nd rfl (Or.inl rfl)) pgs_nil))) (fun _ _ _ _ _ => pts_nil)
      (fun _ _ _ _ _ => pv 1)) pa_nil))), ?_⟩
    refine g_ret (g_cb (g_cons ?_))
    have lx : ts.length = ps.length := pr.length
    refine ⟨_, rfl, a, C, dx, _, _, rfl, e1, c.ic.cl, c.n1, rfl, t, rfl, ⟨ts, tz.seq⟩, fun D hD => lcS walk_tup (fun _ v s => v = V.str s) (fun _ _ _ _ _ h => h) (fun i l => l = (ps.take i).map (·.1)) rfl hD (by omega) (fun H1 s1 => Same.seqT' s1 tz.seq) ?_ ?_⟩
    · rintro i x H1 H1' l hi s1 rfl ⟨rfl, hx⟩ KT KF kt kf
      have hi' : i < ps.length := by omega
      obtain ⟨u, rfl, eu⟩ := pairedGet pr hx (List.getElem?_eq_getElem hi')
      refine ⟨u, _, rfl, SqT.of (s1 _ _ eu), rfl, _, _, rfl, g_name ⟨_, _, rfl, g_name ⟨rfl, ?_⟩⟩⟩
      refine ⟨rfl, ?_⟩
      unfold tYes
      refine iteT ?_
      exact g_var rfl (kt _ _ ps[i].1 (Same.refl _) (take_map_succ hi').symm rfl)
    · rintro H1 acc l s1 d1 pr2 rfl
      have e := pairedEq pr2
      rw [lx, List.take_length, List.map_map] at e
      subst e
      refine g_nil ⟨D, _, rfl, SqL.of d1, fun l o hl no => q _ l (s1.trans (sameNew hl)) (.inl (.inr ⟨o, upd_same⟩))⟩
theorem g_dget2 {σ : L2.St} {H : Hp} {Q : VK} {td ty tx : TE} (h : td σ H fun x H1 => ∃ a, x = .ref a ∧ IsD H1 a ∧ ty σ H1 fun y H2 => tx σ H2 fun z H3 => ∃ o, DGet H3 a y o ∧ Q (o.getD z) H3) : tDGet2 td ty tx σ H Q := h
def BadV (CP : Addr) (f : Str) (v : V) (H : Hp) (E : XK) : Prop := ∀ H' d, Same H H' → H' d = none → E (.ref CP) (some d) (upd H' d (.xd [(f, v)]))
def spGet (K : PySem.W.Frag) (C CN : Addr) : Sp := fun vs H Q E => ∃ a ps v r, vs = [.ref a, v] ∧ LoadAt C H a ps ∧ NameK K H v r ∧ match r with
  | some s => ∀ H', Same H H' → Q (.int (countOf ps s)) H'
  | none => BadV CN "value" v H E
theorem scGet : FnScope ["self", "at"] ["self", "at"] (defScope s_Load___getitem__) := ⟨rfl, rfl, rfl, by decide +kernel, rfl, by decide +kernel, by decide +kernel⟩
theorem ok_get {f C CN fI : Addr} {fd fdN : FuncData} {B newId initId : String} {bmB : List Value} (F : Fun K "__getitem__" "Load.__getitem__" s_Load___getitem__ f fd) (c : LoadC K C) (TN : XCls P w K mg base "InvalidName" CN fI B newId initId bmB ["self", "value"] (spI1 CN "value") fdN)
    (C1 : Cal P w K mg base 1 "is_name" ["value"] (spName K)) : FnOk P w K mg base (L2.CX P w) 3 f fd ["self", "at"] (spGet K C CN) := by
  refine F.okX scGet (fun vs H Q E h => ?_) (fun cdv A outer s H vs Q E hr h => ?_)
  · obtain ⟨a, _, v, _, rfl, _⟩ := h
    rfl
  · obtain ⟨a, ps, v, r, rfl, ⟨dx, t, d, ts, e1, tz, pr, e3⟩, nk, q⟩ := h
    have hu := hu_of hr
    have tk := takes_of (X := cxOf (L2.CX P w) P w K mg base ["self", "at"] "Load.__getitem__" (defScope s_Load___getitem__) f cdv A outer s H E) (E := E) rfl rfl rfl rfl
    refine ⟨_, pss_cons (ps_if (pt_not (pt_val (pCal C1 (hr.mono (by decide : 1 ≤ 2)) (pa_cons (pv 1) pa_nil)))) (pss_one (ps_raise rfl tk (pmk_x TN hr rfl (pa_cons (pv 1) pa_nil)))) pss_nil)
      (pss_one (ps_ret (pe_dget2 hu (pe_fld (pv 0) rfl) (pv 1) pe_int ⟨rfl, rfl, rfl, rfl⟩))), ?_⟩
    repeat walk_at "st"
    refine name_of nk fun H1 s1 => ?_
    refine g_bl ?_
    cases r with
    | none =>
      refine iteT ?_
      refine g_cons (g_var rfl (g_nil ?_))
      exact rx1_ok fun d hd => q H1 d s1 hd
    | some s =>
      obtain ⟨rfl, _, _⟩ := nk.some'
      refine iteF ?_
      repeat walk_at "st"
      refine g_dget2 (g_fld (g_var rfl ?_))
      refine ⟨a, C, dx, _, _, rfl, s1 _ _ e1, c.ic.cl, c.n2, rfl, d, rfl, .inl ⟨_, .inl (s1 _ _ e3)⟩, g_var rfl (g_c ⟨_, DGet.k (k := Sum.inr s) (s1 _ _ e3), ?_⟩)⟩
      have z := kv_count ps s
      unfold kvOf at z
      rw [z]
      exact q H1 s1
end
end My
set_option Elab.async false
set_option maxRecDepth 100000
set_option maxHeartbeats 8000000
namespace My
open PySem PySem.Spec PyProof.Rows L2
local macro_rules | `(tactic| walk_at "cond") => `(tactic| first
  | exact Or.inr ⟨by decide, by decide⟩ | exact Or.inl ⟨by decide, by decide⟩ | exact ⟨by decide, by decide, by decide⟩ | exact ⟨by decide, by decide⟩
  | (refine Or.inl ⟨?_, ?_⟩ <;> omega) | (refine Or.inr ⟨?_, ?_⟩ <;> omega)
  | (show (0 : Int) < _; omega))
local macro_rules | `(tactic| walk_at "mem") => `(tactic| first | exact List.Mem.head _ | exact List.Mem.tail _ (List.Mem.head _) | exact Put.head | (refine List.Mem.tail _ ?_; walk_at "mem") | (apply Put.tail; walk_at "mem"))
local macro_rules | `(tactic| walk_at "st") => `(tactic| first
  | with_reducible refine g_seq ?_ | with_reducible refine g_asg ?_ | with_reducible refine g_name ?_ | ((with_reducible show tVar _ _ _ _); refine g_var rfl ?_) | with_reducible refine g_c ?_
  | with_reducible refine g_op ?_ | with_reducible refine g_test ?_ | with_reducible refine g_bl ?_
  | with_reducible refine g_cb ?_ | with_reducible refine g_cons ?_ | with_reducible refine g_nil ?_ | with_reducible refine g_tif ?_ | with_reducible refine g_ifs ?_ | with_reducible refine g_ret ?_
  | with_reducible refine g_drop ?_ | with_reducible refine g_next ?_
  | with_reducible refine g_i0 ?_ | ((with_reducible show rI _ _ _ _ _ _); refine g_i (by walk_at "cond") ?_) | with_reducible refine g_int ?_ | with_reducible refine g_abs ?_ | with_reducible refine g_or ?_
  | with_reducible refine g_and ?_ | with_reducible refine g_not ?_ | with_reducible refine g_lst ?_ | with_reducible refine g_tup ?_
  | with_reducible refine iteT ?_ | with_reducible refine iteF ?_ | with_reducible refine g_par ?_ | with_reducible refine g_two ?_ | with_reducible refine g_sub ?_
  | ((with_reducible show rIxL _ (V.ref _) (V.int _) _ _); refine g_ixM (by assumption) (by walk_at "mem") rfl rfl ?_)
  | ((with_reducible show rSetL (V.ref _) (V.int _) _ _ _); refine g_setM (by assumption) rfl (by walk_at "mem") fun _ _ => ?_)
  | with_reducible refine g_xmk ?_ | with_reducible refine g_xmkK ?_
  | ((with_reducible show XNew _ (spI1 _ _) _ _ _); refine g_x1 (by assumption) fun _ _ _ _ => ?_)
  | ((with_reducible show XNewK _ _ (spI1 _ _) _ _ _ _); refine g_x1k (by assumption) fun _ _ _ _ => ?_)
  | ((with_reducible show XNew _ (spI3 _ _ _ _) _ _ _); refine g_x3 (by assumption) fun _ _ _ _ => ?_)
  | ((with_reducible show tXmk0 _ _ _ _); refine g_xmk0 (by assumption) fun _ _ _ => ?_)
  | ((with_reducible show NewO _ _ _ _); refine g_newo (by assumption) (by first | decide | simp) fun _ _ _ _ => ?_)
  | ((with_reducible show rCat (V.ref _) (V.ref _) _ _); refine g_cat (by assumption) (by walk_at "mem") (by walk_at "mem") (by first | decide | simp) fun _ _ _ _ => ?_))
local macro_rules | `(tactic| walk_at "st") => `(tactic| first | with_reducible refine g_tcall ?_ | with_reducible refine g_tb ?_ | with_reducible refine g_andV ?_ | with_reducible refine g_notV ?_ | with_reducible refine g_chain ?_ | with_reducible refine g_un ?_ | with_reducible refine g_rU ?_)
theorem addP_app : ∀ (l ps : List (Str × Int)) (q : Str × Int), addP ps (l ++ [q]) = put1 (addP ps l) q.1 q.2
  | [], _, _ => rfl
  | x :: l, ps, q => addP_app l (put1 ps x.1 x.2) q
theorem none_back {H H' : Hp} {p : Addr} (s : Same H H') (h : H' p = none) : H p = none := by
  cases z : H p with
  | none => rfl
  | some o =>
    rw [s _ _ z] at h
    cases h
section
variable {P : Program} {w : World} {K : PySem.W.Frag} {mg : Str → Option Value} {base : Heap}
def spAdded (K : PySem.W.Frag) : Sp := fun vs H Q _ => ∃ (t1 t2 : Addr) (ts1 ts2 : List V) (ps qs : List (Str × Int)), vs = [.ref t1, .ref t2] ∧ TupZ H t1 ts1 ∧ Paired (PairAt H) ts1 ps ∧ (ps.map (·.1)).Nodup ∧ TupZ H t2 ts2 ∧ Paired (PairAt H) ts2 qs ∧ ps.length + qs.length < 64 ∧
  ∀ H' p ts rs, H p = none → Same H H' → TupZ H' p ts → Ordered (addP ps qs) rs → Paired (PairAt H') ts rs → Q (.ref p) H'
theorem scAdded : FnScope ["pairs", "more", "counts", "name", "count"] ["pairs", "more"] (defScope s_added) := ⟨rfl, rfl, rfl, by decide +kernel, rfl, by decide +kernel, by decide +kernel⟩
theorem ok_added {f : Addr} {fd : FuncData} (F : Fun K "added" "added" s_added f fd) (mD : mg "dict" = none) (C1 : Cal P w K mg base 1 "by_name" ["counts"] (spByName K)) : FnOk P w K mg base CX0 2 f fd ["pairs", "more"] (spAdded K) := by
  refine F.ok scAdded (fun vs H Q E h => ?_) (fun cdv A outer s H vs Q E hr h => ?_)
  · obtain ⟨t1, t2, _, _, _, _, rfl, _⟩ := h
    rfl
  · obtain ⟨t1, t2, ts1, ts2, ps, qs, rfl, tz1, pr1, nd, tz2, pr2, few, q⟩ := h
    have hu := hu_of hr
    refine ⟨_, pss_cons (ps_set (i := 2) scAdded.nd rfl (Or.inl rfl) (pe_callTy (r := rDictZ) (call_dictZ rfl) (by rfl) mD PyProof.Rows.boot_dict (pa_cons (pv 0) pa_nil)))
      (pss_cons (ps_for PassesOwn.never rfl (pi_tup (pv 1)) (pg_tup rfl (pgs_cons (pg_name (i := 3) scAdded.nd rfl (Or.inl rfl)) (pgs_cons (pg_name (i := 4) scAdded.nd rfl (Or.inl rfl)) pgs_nil)))
        (pss_one (ps_dput hu (pv 2) (pv 3) (pe_op op_add (pe_dget2 hu (pv 2) (pv 3) pe_int ⟨rfl, rfl, rfl, rfl⟩) (pv 4)) rfl)))
      (pss_one (ps_ret (pCal C1 hr (pa_cons (pv 2) pa_nil))))), ?_⟩
    refine g_seq (g_asg (g_cb (g_cons (g_var rfl (g_nil ?_)))))
    refine ⟨t1, ts1, ps, rfl, tz1, pr1, nd, fun d hd => ?_⟩
    have sd : Same H (upd H d (.dK (kvOf ps))) := sameNew hd
    have hd1 : upd H d (.dK (kvOf ps)) d = some (.dK (kvOf ps)) := upd_same
    generalize upd H d (.dK (kvOf ps)) = H1 at sd hd1
    have lx : ts2.length = qs.length := pr2.length
    refine g_name (g_seq ?_)
    refine ⟨_, rfl, t2, rfl, ⟨ts2, Same.seqT' sd tz2.seq⟩, for_tup (xs := ts2) (fun i σ H2 => ∃ v3 v4, σ = [some (.ref t1), some (.ref t2), some (.ref d), v3, v4] ∧ Same H H2 ∧ H2 d = some (.dK (kvOf (addP ps (qs.take i)))))
      ⟨none, none, rfl, sd, hd1⟩ (fun i σ H2 _ ⟨_, _, _, s2, _⟩ => Same.seqT' s2 tz2.seq) ?_ ?_⟩
    · rintro i x σ H2 hx ⟨v3, v4, rfl, s2, d2⟩
      have hi : i < qs.length := by
        have z := (List.getElem?_eq_some_iff.mp hx).1
        omega
      obtain ⟨u, rfl, eu⟩ := pairedGet pr2 hx (List.getElem?_eq_getElem hi)
      refine ⟨u, _, rfl, SqT.of (s2 _ _ eu), rfl, _, _, rfl, g_name ⟨_, _, rfl, g_name ⟨rfl, ?_⟩⟩⟩
      have la : (addP ps (qs.take i)).length ≤ 1000 := by
        have z := addP_len (qs := qs.take i) (ps := ps)
        rw [List.length_take] at z
        omega
      refine g_dput (g_op (g_dget2 (g_var rfl ⟨d, rfl, .inl ⟨_, .inl d2⟩, g_var rfl (g_c ⟨_, DGet.k (k := Sum.inr qs[i].1) d2, ?_⟩)⟩)))
      rw [kv_count]
      refine g_var rfl (g_i0 (g_var rfl (g_var rfl ?_)))
      refine ⟨d, _, rfl, DPut.k (k := Sum.inr qs[i].1) d2 (small1000 (by unfold kvOf; rw [List.length_map]; exact la)), ?_⟩
      rw [kv_put1]
      refine ⟨_, _, rfl, fun b o z => ?_, ?_⟩
      · rw [upd_ne (ne_of_none z hd)]
        exact s2 _ _ z
      · rw [upd_same, List.take_add_one, List.getElem?_eq_getElem hi]
        show some (HO.dK (kvOf (put1 (addP ps (qs.take i)) qs[i].1 qs[i].2))) = some (.dK (kvOf (addP ps (qs.take i ++ [qs[i]]))))
        rw [addP_app]
    · rintro σ H2 ⟨v3, v4, rfl, s2, d2⟩
      dsimp only
      rw [lx, List.take_length] at d2
      refine g_ret (g_tcall (g_cons (g_var rfl (g_nil ?_))))
      have la := addP_len (qs := qs) (ps := ps)
      exact ⟨d, addP ps qs, rfl, d2, addP_nd nd, by omega, fun H' p ts rs hp s3 tz od pr => q H' p ts rs (none_back s2 hp) (s2.trans s3) tz od pr⟩
/-- a value as a load -/
inductive LoadK (K : PySem.W.Frag) (C : Addr) (H : Hp) : V → Option (List (Str × Int)) → Prop where
  | load {a : Addr} {ps : List (Str × Int)} (h : LoadAt C H a ps) : LoadK K C H (.ref a) (some ps)
  | no {v : V} {t : Value} (ty : TyX K H v t) (k : PySem.W.kitOne K t (.ref C) = some false) : LoadK K C H v none
theorem LoadK.same {C : Addr} {H H' : Hp} {v : V} {r : Option (List (Str × Int))} (h : LoadK K C H v r) (e : Same H H') : LoadK K C H' v r := by
  cases h with
  | load h => exact .load (h.same e)
  | no ty k => exact .no (tySame ty e) k
theorem loadK_isi {C : Addr} {H : Hp} {v : V} {r : Option (List (Str × Int))} {Q : VK} (c : LoadC K C) (h : LoadK K C H v r) (q : Q (.bl r.isSome) H) : rIsi K [v, .ref C] H Q := by
  cases h with
  | load h =>
    obtain ⟨dx, t, d, ts, e1, _⟩ := h
    exact g_isi (.own C) (.base (.ins e1 c.ic.cl c.ic.ha c.ic.hn c.ic.htk c.ic.hm)) c.ic.me q
  | no ty k => exact g_isi (.own C) ty k q
def spAdd (K : PySem.W.Frag) (C CL : Addr) : Sp := fun vs H Q E => ∃ a ps v r, vs = [.ref a, v] ∧ LoadAt C H a ps ∧ LoadK K C H v r ∧ match r with
  | none => BadV CL "value" v H E
  | some qs => GoodP ps ∧ GoodP qs ∧ ps.length + qs.length < 64 ∧ ∀ H' x rs, H x = none → Same H H' → Ordered (addP ps qs) rs → LoadAt C H' x rs → Q (.ref x) H'
theorem Ordered.trans {ps qs rs : List (Str × Int)} (h : Ordered ps qs) (g : Ordered qs rs) : Ordered ps rs := ⟨g.perm.trans h.perm, g.sorted⟩
theorem scAdd : FnScope ["self", "other"] ["self", "other"] (defScope s_Load___add__) := ⟨rfl, rfl, rfl, by decide +kernel, rfl, by decide +kernel, by decide +kernel⟩
/-- Load.of of good pairs -/
theorem of_good {C CP t : Addr} {H : Hp} {Q : VK} {E : XK} {ts : List V} {ps : List (Str × Int)} (hq : SqT K H t ts) (pr : Paired (PairAt H) ts ps) (g : GoodP ps) (few : ps.length < 64) (k : ∀ H' x rs, H x = none → Same H H' → Ordered ps rs → LoadAt C H' x rs → Q (.ref x) H') : spOf K C CP [.ref t] H Q E := by
  refine ⟨_, rfl, .inr ⟨t, ts, ps.map some, rfl, hq, pairK_rs (pairK_all pr g.name g.count), by rw [pr.length]; omega, ?_⟩⟩
  unfold Made
  rw [wrong_none ps 0 [] (by simpa using g.nd)]
  exact ⟨ps, rfl, g.nd, few, k⟩
theorem ok_add {f C CL CP fI p gO : Addr} {mc : Value} {fd fdN fdO : FuncData} {B newId initId : String} {bmB : List Value} (F : Fun K "__add__" "Load.__add__" s_Load___add__ f fd) (c : LoadC K C) (mI : mg "isinstance" = none) (mL : mg "Load" = some (.ref C))
    (TN : XCls P w K mg base "NotALoad" CL fI B newId initId bmB ["self", "value"] (spI1 CL "value") fdN)
    (SM : SMet K C mc "of" p gO) (FO : FnOk P w K mg base (L2.CX P w) 7 gO fdO ["pairs"] (spOf K C CP)) (bO : Binds K fdO ["pairs"] []) (CA : Cal P w K mg base 2 "added" ["pairs", "more"] (spAdded K)) : FnOk P w K mg base (L2.CX P w) 8 f fd ["self", "other"] (spAdd K C CL) := by
  refine F.okX scAdd (fun vs H Q E h => ?_) (fun cdv A outer s H vs Q E hr h => ?_)
  · obtain ⟨a, _, v, _, rfl, _⟩ := h
    rfl
  · obtain ⟨a, ps, v, r, rfl, la, lk, q⟩ := h
    have tk := takes_of (X := cxOf (L2.CX P w) P w K mg base ["self", "other"] "Load.__add__" (defScope s_Load___add__) f cdv A outer s H E) (E := E) rfl rfl rfl rfl
    refine ⟨_, pss_cons (ps_if (pt_not (pt_val (pIsi mI (pv 1) (pG mL)))) (pss_one (ps_raise rfl tk (pmk_x TN (hr.mono (by decide : 2 ≤ 7)) rfl (pa_cons (pv 1) pa_nil)))) pss_nil)
      (pss_one (ps_ret (pe_smeth (pG mL) SM FO hr bO (passes_call tk fun _ _ _ _ h => h) (pa_cons (pCal CA (hr.mono (by decide : 2 ≤ 7)) (pa_cons (pe_fld (pv 0) rfl) (pa_cons (pe_fld (pv 1) rfl) pa_nil))) pa_nil)))), ?_⟩
    repeat walk_at "st"
    refine loadK_isi c lk ?_
    refine g_bl ?_
    cases lk with
    | no ty k =>
      refine iteT ?_
      refine g_cons (g_var rfl (g_nil ?_))
      exact rx1_ok fun d hd => q H d (Same.refl H) hd
    | @load b qs lb =>
      obtain ⟨g1, g2, few, k⟩ := q
      obtain ⟨dx, t, d, ts, e1, tz, pr, e3⟩ := la
      obtain ⟨dx', t', d', ts', e1', tz', pr', e3'⟩ := lb
      refine iteF ?_
      repeat walk_at "st"
      refine ⟨rfl, ?_⟩
      refine g_cons (g_tcall (g_cons (g_fld (g_var rfl ?_))))
      refine ⟨a, C, dx, _, _, rfl, e1, c.ic.cl, c.n1, rfl, g_cons (g_fld (g_var rfl ?_))⟩
      refine ⟨b, C, dx', _, _, rfl, e1', c.ic.cl, c.n1, rfl, g_nil ?_⟩
      refine ⟨t, t', ts, ts', ps, qs, rfl, tz, pr, g1.nd, tz', pr', few, fun H1 p' ts1 rs hp s1 tz1 od pr1 => g_nil ?_⟩
      have g3 : GoodP rs := (addP_good g1 g2.name g2.count).perm od.perm
      refine of_good tz1.seq pr1 g3 (by have z := addP_len (qs := qs) (ps := ps); have y := od.perm.length_eq; omega) fun H2 x rs' hx s2 od2 lx => ?_
      exact k H2 x rs' (none_back s1 hx) (s1.trans s2) (od.trans od2) lx
end
end My
set_option Elab.async false
set_option maxRecDepth 100000
set_option maxHeartbeats 8000000
namespace My
open PySem PySem.Spec PyProof.Rows L2
local macro_rules | `(tactic| walk_at "cond") => `(tactic| first
  | exact Or.inr ⟨by decide, by decide⟩ | exact Or.inl ⟨by decide, by decide⟩ | exact ⟨by decide, by decide, by decide⟩ | exact ⟨by decide, by decide⟩
  | (refine Or.inl ⟨?_, ?_⟩ <;> omega) | (refine Or.inr ⟨?_, ?_⟩ <;> omega)
  | (show (0 : Int) < _; omega))
local macro_rules | `(tactic| walk_at "mem") => `(tactic| first | exact List.Mem.head _ | exact List.Mem.tail _ (List.Mem.head _) | exact Put.head | (refine List.Mem.tail _ ?_; walk_at "mem") | (apply Put.tail; walk_at "mem"))
local macro_rules | `(tactic| walk_at "st") => `(tactic| first
  | with_reducible refine g_seq ?_ | with_reducible refine g_asg ?_ | with_reducible refine g_name ?_ | ((with_reducible show tVar _ _ _ _); refine g_var rfl ?_) | with_reducible refine g_c ?_
  | with_reducible refine g_op ?_ | with_reducible refine g_test ?_ | with_reducible refine g_bl ?_
  | with_reducible refine g_cb ?_ | with_reducible refine g_cons ?_ | with_reducible refine g_nil ?_ | with_reducible refine g_tif ?_ | with_reducible refine g_ifs ?_ | with_reducible refine g_ret ?_
  | with_reducible refine g_drop ?_ | with_reducible refine g_next ?_
  | with_reducible refine g_i0 ?_ | ((with_reducible show rI _ _ _ _ _ _); refine g_i (by walk_at "cond") ?_) | with_reducible refine g_int ?_ | with_reducible refine g_abs ?_ | with_reducible refine g_or ?_
  | with_reducible refine g_and ?_ | with_reducible refine g_not ?_ | with_reducible refine g_lst ?_ | with_reducible refine g_tup ?_
  | with_reducible refine iteT ?_ | with_reducible refine iteF ?_ | with_reducible refine g_par ?_ | with_reducible refine g_two ?_ | with_reducible refine g_sub ?_
  | ((with_reducible show rIxL _ (V.ref _) (V.int _) _ _); refine g_ixM (by assumption) (by walk_at "mem") rfl rfl ?_)
  | ((with_reducible show rSetL (V.ref _) (V.int _) _ _ _); refine g_setM (by assumption) rfl (by walk_at "mem") fun _ _ => ?_)
  | with_reducible refine g_xmk ?_ | with_reducible refine g_xmkK ?_
  | ((with_reducible show XNew _ (spI1 _ _) _ _ _); refine g_x1 (by assumption) fun _ _ _ _ => ?_)
  | ((with_reducible show XNewK _ _ (spI1 _ _) _ _ _ _); refine g_x1k (by assumption) fun _ _ _ _ => ?_)
  | ((with_reducible show XNew _ (spI3 _ _ _ _) _ _ _); refine g_x3 (by assumption) fun _ _ _ _ => ?_)
  | ((with_reducible show tXmk0 _ _ _ _); refine g_xmk0 (by assumption) fun _ _ _ => ?_)
  | ((with_reducible show NewO _ _ _ _); refine g_newo (by assumption) (by first | decide | simp) fun _ _ _ _ => ?_)
  | ((with_reducible show rCat (V.ref _) (V.ref _) _ _); refine g_cat (by assumption) (by walk_at "mem") (by walk_at "mem") (by first | decide | simp) fun _ _ _ _ => ?_))
local macro_rules | `(tactic| walk_at "st") => `(tactic| first | with_reducible refine g_tcall ?_ | with_reducible refine g_tb ?_ | with_reducible refine g_andV ?_ | with_reducible refine g_notV ?_ | with_reducible refine g_chain ?_ | with_reducible refine g_un ?_ | with_reducible refine g_rU ?_)
section
variable {P : Program} {w : World} {K : PySem.W.Frag} {mg : Str → Option Value} {base : Heap}
def rankOf (ps : List (Str × Int)) (ks : List Str) : List Int := sumP ps :: ks.map fun k => -countOf ps k
def spRank (K : PySem.W.Frag) (C : Addr) : Sp := fun vs H Q _ => ∃ a ps t ks, vs = [.ref a, .ref t] ∧ LoadAt C H a ps ∧ ps.length ≤ 1000 ∧ SqT K H t (ks.map V.str) ∧ (∀ k ∈ ks, nameB k = true) ∧ ks.length ≤ 900 ∧ ∀ H' l, H l = none → Same H H' → H' l = some (.lst ((rankOf ps ks).map V.int)) → Q (.ref l) H'
theorem g_lctup {σ : L2.St} {H : Hp} {Q : VK} {tl : TE} {g : TG} {tt : TT} {te : TE} {vs : List Nat} (h : tl σ H fun x H1 => ∃ a, x = .ref a ∧ (∃ xs, SqT K H1 a xs) ∧ ∀ D, H1 D = none → ∃ W : Nat → Nat → Hp → Prop, (∃ m, W 0 m (upd H1 D (.lst []))) ∧ ∀ i m H, W i m H →
      ((Itt K a).stop i H ∧ Q (.ref D) H) ∨ ((Itt K a).go i H ∧ ∃ Nx : Hp → Prop, (∀ H', Nx H' → ∃ m', m' < m ∧ W (i + 1) m' H') ∧ ∀ x H', (Itt K a).yld i H x H' → g x (wipe σ vs) H' fun σ2 H2 => wipe σ2 vs = wipe σ vs ∧ tt σ2 H2 fun b H3 =>
        if b = true then te σ2 H3 fun y H4 => ∃ acc, H4 D = some (.lst acc) ∧ acc.length < sizeLine ∧ Nx (upd H4 D (.lst (acc ++ [y]))) else Nx H3)) : tLc (iTup K tl) g tt te vs σ H Q := h
theorem g_star {σ : L2.St} {H : Hp} {R : List V → Hp → Prop} {te : TE} {t : TA} (h : te σ H fun x H1 => ∃ p xs, x = V.ref p ∧ (SqT K H1 p xs ∨ SqL K H1 p xs) ∧ t σ H1 fun ys H2 => R (xs ++ ys) H2) : StX.tStar K te t σ H R := h
end
end My
set_option Elab.async false
set_option maxRecDepth 100000
set_option maxHeartbeats 8000000
namespace My
open PySem PySem.Spec PyProof.Rows L2
local macro_rules | `(tactic| walk_at "cond") => `(tactic| first
  | exact Or.inr ⟨by decide, by decide⟩ | exact Or.inl ⟨by decide, by decide⟩ | exact ⟨by decide, by decide, by decide⟩ | exact ⟨by decide, by decide⟩
  | (refine Or.inl ⟨?_, ?_⟩ <;> omega) | (refine Or.inr ⟨?_, ?_⟩ <;> omega)
  | (show (0 : Int) < _; omega))
local macro_rules | `(tactic| walk_at "mem") => `(tactic| first | exact List.Mem.head _ | exact List.Mem.tail _ (List.Mem.head _) | exact Put.head | (refine List.Mem.tail _ ?_; walk_at "mem") | (apply Put.tail; walk_at "mem"))
local macro_rules | `(tactic| walk_at "st") => `(tactic| first
  | with_reducible refine g_seq ?_ | with_reducible refine g_asg ?_ | with_reducible refine g_name ?_ | ((with_reducible show tVar _ _ _ _); refine g_var rfl ?_) | with_reducible refine g_c ?_
  | with_reducible refine g_op ?_ | with_reducible refine g_test ?_ | with_reducible refine g_bl ?_
  | with_reducible refine g_cb ?_ | with_reducible refine g_cons ?_ | with_reducible refine g_nil ?_ | with_reducible refine g_tif ?_ | with_reducible refine g_ifs ?_ | with_reducible refine g_ret ?_
  | with_reducible refine g_drop ?_ | with_reducible refine g_next ?_
  | with_reducible refine g_i0 ?_ | ((with_reducible show rI _ _ _ _ _ _); refine g_i (by walk_at "cond") ?_) | with_reducible refine g_int ?_ | with_reducible refine g_abs ?_ | with_reducible refine g_or ?_
  | with_reducible refine g_and ?_ | with_reducible refine g_not ?_ | with_reducible refine g_lst ?_ | with_reducible refine g_tup ?_
  | with_reducible refine iteT ?_ | with_reducible refine iteF ?_ | with_reducible refine g_par ?_ | with_reducible refine g_two ?_ | with_reducible refine g_sub ?_
  | ((with_reducible show rIxL _ (V.ref _) (V.int _) _ _); refine g_ixM (by assumption) (by walk_at "mem") rfl rfl ?_)
  | ((with_reducible show rSetL (V.ref _) (V.int _) _ _ _); refine g_setM (by assumption) rfl (by walk_at "mem") fun _ _ => ?_)
  | with_reducible refine g_xmk ?_ | with_reducible refine g_xmkK ?_
  | ((with_reducible show XNew _ (spI1 _ _) _ _ _); refine g_x1 (by assumption) fun _ _ _ _ => ?_)
  | ((with_reducible show XNewK _ _ (spI1 _ _) _ _ _ _); refine g_x1k (by assumption) fun _ _ _ _ => ?_)
  | ((with_reducible show XNew _ (spI3 _ _ _ _) _ _ _); refine g_x3 (by assumption) fun _ _ _ _ => ?_)
  | ((with_reducible show tXmk0 _ _ _ _); refine g_xmk0 (by assumption) fun _ _ _ => ?_)
  | ((with_reducible show NewO _ _ _ _); refine g_newo (by assumption) (by first | decide | simp) fun _ _ _ _ => ?_)
  | ((with_reducible show rCat (V.ref _) (V.ref _) _ _); refine g_cat (by assumption) (by walk_at "mem") (by walk_at "mem") (by first | decide | simp) fun _ _ _ _ => ?_))
local macro_rules | `(tactic| walk_at "st") => `(tactic| first | with_reducible refine g_tcall ?_ | with_reducible refine g_tb ?_ | with_reducible refine g_andV ?_ | with_reducible refine g_notV ?_ | with_reducible refine g_chain ?_ | with_reducible refine g_un ?_ | with_reducible refine g_rU ?_)
/-- a def that may raise, called by its name -/
structure CalX (P : Program) (w : World) (K : PySem.W.Frag) (mg : Str → Option Value) (base : Heap) (k : Nat) (x : Str) (ps : List Str) (sp : Sp) where
  f : Addr
  d : FuncData
  ok : FnOk P w K mg base (L2.CX P w) k f d ps sp
  m : mg x = some (.ref f)
  kp : PySem.W.keepIn K (.ref f) = true
  b : Binds K d ps []
section
variable {X : Cx} {k : Nat} {x : Str} {p pos : Pos} {e : Expr} {es : List Expr} {ps : List Str} {sp : Sp} {t : TA} {E : XK}
theorem pCalX (C : CalX X.prog X.w X.K X.mg X.base k x ps sp) (hr : Room k X.A) (hx : Passes (L2.CX X.prog X.w) X E) (ha : PA X (e :: es) t) (hg : Gl X x := by rfl) (hdb : (x == ("__debug__" : Str)) = false := by decide) (he : starEach (e :: es) X.env = (false, eval e X.env) :: starEach es X.env := by rfl) (hpl : (backTo pos (starEach es X.env)).any (·.1) = false := by rfl) :
    PE X (.Call (.Name x p) (e :: es) [] pos) (tCall sp [] E t) := pe_call C.ok hr hg C.m C.kp C.b .nil hx ha hdb he hpl
end
def cmpI (a b : List Int) : Int := if a = b then 0 else if lexI a b = true then -1 else 1
/-- the first name of both loads that is no kind -/
def unknown (ps qs : List (Str × Int)) (ks : List Str) : Option Str := match (ps.map (·.1)).find? (fun s => decide (s ∉ ks)) with
  | some s => some s
  | none => (qs.map (·.1)).find? (fun s => decide (s ∉ ks))
def spCompare (K : PySem.W.Frag) (C CL CK CU : Addr) : Sp := fun vs H Q E => ∃ u v k r1 r2 rk, vs = [u, v, k] ∧ LoadK K C H u r1 ∧ LoadK K C H v r2 ∧ KindsK K H k rk ∧ match r1 with
  | none => BadV CL "value" u H E
  | some ps => match r2 with
    | none => BadV CL "value" v H E
    | some qs => match badKinds none rk with
      | some i => BadIx CK (ixV i) H E
      | none => ∃ ks : List Str, rk = some (ks.map some) ∧ ks.length ≤ 900 ∧ ps.length ≤ 1000 ∧ qs.length ≤ 1000 ∧ match unknown ps qs ks with
        | some s => BadV CU "value" (.str s) H E
        | none => ∀ H', Same H H' → Q (.int (cmpI (rankOf ps ks) (rankOf qs ks))) H'
theorem names_of {K : PySem.W.Frag} {H : Hp} : ∀ {xs : List V} {ks : List Str}, Paired (NameK K H) xs (ks.map some) → xs = ks.map V.str ∧ ∀ k ∈ ks, nameB k = true
  | _, [], .nil => ⟨rfl, fun _ z => nomatch z⟩
  | _, k :: ks, .cons h t => by
    obtain ⟨rfl, nb, _⟩ := h.some'
    obtain ⟨e, n⟩ := names_of t
    exact ⟨by rw [e]; rfl, fun z hz => by
      rcases List.mem_cons.mp hz with rfl | hz
      · exact nb
      · exact n z hz⟩
theorem inV_str (s : Str) : ∀ ks : List Str, inV (.str s) (ks.map V.str) = decide (s ∈ ks)
  | [] => rfl
  | k :: ks => by
    have ih := inV_str s ks
    unfold inV at ih ⊢
    rw [List.map_cons, List.any_cons, ih]
    show ((k == s) || decide (s ∈ ks)) = _
    by_cases h : s = k
    · subst h
      simp
    · have e : (k == s) = false := by simpa using fun z : k = s => h z.symm
      rw [e]
      simp [h]
theorem flat_str : ∀ ks : List Str, (ks.map V.str).all flatV = true
  | [] => rfl
  | k :: ks => by
    rw [List.map_cons, List.all_cons, flat_str ks]
    rfl
section
variable {P : Program} {w : World} {K : PySem.W.Frag} {mg : Str → Option Value} {base : Heap}
theorem g_notIn {H : Hp} {Q : VK} {p : Addr} {s : Str} {ks : List Str} (h : SqT K H p (ks.map V.str)) (q : Q (.bl (decide (s ∉ ks))) H) : rIn K true (.str s) (.ref p) H Q :=
  ⟨p, _, rfl, .inr h, rfl, flat_str ks, by
    rw [inV_str]
    show Q (.bl (!decide (s ∈ ks))) H
    by_cases c : s ∈ ks
    · rw [decide_eq_true c]
      rw [decide_eq_false (not_not_intro c)] at q
      exact q
    · rw [decide_eq_false c]
      rw [decide_eq_true c] at q
      exact q⟩
theorem find_take {p : Str → Bool} {l : List Str} {i : Nat} (hi : i < l.length) (h : (l.take i).find? p = none) : (p l[i] = true → l.find? p = some l[i]) ∧ (p l[i] = false → (l.take (i + 1)).find? p = none) := by
  have e : l.take (i + 1) = l.take i ++ [l[i]] := by rw [List.take_add_one, List.getElem?_eq_getElem hi]; rfl
  refine ⟨fun c => ?_, fun c => ?_⟩
  · have z : (l.take (i + 1)).find? p = some l[i] := by rw [e, List.find?_append, h]; simp [c]
    have y : l.find? p = ((l.take (i + 1)) ++ l.drop (i + 1)).find? p := by rw [List.take_append_drop]
    rw [y, List.find?_append, z]
    rfl
  · rw [e, List.find?_append, h]
    simp [c]
/-- a for, from what is walked on -/
def ForAt (J : It) (g : TG) (tb : TS) (D : Ends) (σ : L2.St) (H : Hp) : Prop :=
  ∃ W : Nat → Nat → L2.St → Hp → Prop, (∃ m, W 0 m σ H) ∧
    ∀ i m τ G, W i m τ G →
      (J.stop i G ∧ D.nx τ G) ∨
      (J.go i G ∧ ∃ N : L2.St → Hp → Prop,
        (∀ τ' G', N τ' G' → ∃ m', m' < m ∧ W (i + 1) m' τ' G') ∧
        ∀ x G', J.yld i G x G' → g x τ G' fun τ2 G2 =>
          tb { D with nx := N, ct := N, bk := D.nx } τ2 G2)
theorem g_for {wi : TI} {g : TG} {tb : TS} {D : Ends} {σ : L2.St} {H : Hp} (h : wi σ H fun J H1 => ForAt J g tb D σ H1) : tFor wi g tb D σ H := h
theorem g_itup {tl : TE} {σ : L2.St} {H : Hp} {R : It → Hp → Prop} (h : tl σ H fun x H1 => ∃ a, x = .ref a ∧ (∃ xs, SqT K H1 a xs) ∧ R (Itt K a) H1) : iTup K tl σ H R := h
def fnd (ks : List Str) (ps : List (Str × Int)) : Option Str := (ps.map (·.1)).find? fun s => decide (s ∉ ks)
end
end My
set_option Elab.async false
set_option maxRecDepth 100000
set_option maxHeartbeats 8000000
namespace My
open PySem PySem.Spec PyProof.Rows L2
local macro_rules | `(tactic| walk_at "cond") => `(tactic| first
  | exact Or.inr ⟨by decide, by decide⟩ | exact Or.inl ⟨by decide, by decide⟩ | exact ⟨by decide, by decide, by decide⟩ | exact ⟨by decide, by decide⟩
  | (refine Or.inl ⟨?_, ?_⟩ <;> omega) | (refine Or.inr ⟨?_, ?_⟩ <;> omega)
  | (show (0 : Int) < _; omega))
local macro_rules | `(tactic| walk_at "mem") => `(tactic| first | exact List.Mem.head _ | exact List.Mem.tail _ (List.Mem.head _) | exact Put.head | (refine List.Mem.tail _ ?_; walk_at "mem") | (apply Put.tail; walk_at "mem"))
local macro_rules | `(tactic| walk_at "st") => `(tactic| first
  | with_reducible refine g_seq ?_ | with_reducible refine g_asg ?_ | with_reducible refine g_name ?_ | ((with_reducible show tVar _ _ _ _); refine g_var rfl ?_) | with_reducible refine g_c ?_
  | with_reducible refine g_op ?_ | with_reducible refine g_test ?_ | with_reducible refine g_bl ?_
  | with_reducible refine g_cb ?_ | with_reducible refine g_cons ?_ | with_reducible refine g_nil ?_ | with_reducible refine g_tif ?_ | with_reducible refine g_ifs ?_ | with_reducible refine g_ret ?_
  | with_reducible refine g_drop ?_ | with_reducible refine g_next ?_
  | with_reducible refine g_i0 ?_ | ((with_reducible show rI _ _ _ _ _ _); refine g_i (by walk_at "cond") ?_) | with_reducible refine g_int ?_ | with_reducible refine g_abs ?_ | with_reducible refine g_or ?_
  | with_reducible refine g_and ?_ | with_reducible refine g_not ?_ | with_reducible refine g_lst ?_ | with_reducible refine g_tup ?_
  | with_reducible refine iteT ?_ | with_reducible refine iteF ?_ | with_reducible refine g_par ?_ | with_reducible refine g_two ?_ | with_reducible refine g_sub ?_
  | ((with_reducible show rIxL _ (V.ref _) (V.int _) _ _); refine g_ixM (by assumption) (by walk_at "mem") rfl rfl ?_)
  | ((with_reducible show rSetL (V.ref _) (V.int _) _ _ _); refine g_setM (by assumption) rfl (by walk_at "mem") fun _ _ => ?_)
  | with_reducible refine g_xmk ?_ | with_reducible refine g_xmkK ?_
  | ((with_reducible show XNew _ (spI1 _ _) _ _ _); refine g_x1 (by assumption) fun _ _ _ _ => ?_)
  | ((with_reducible show XNewK _ _ (spI1 _ _) _ _ _ _); refine g_x1k (by assumption) fun _ _ _ _ => ?_)
  | ((with_reducible show XNew _ (spI3 _ _ _ _) _ _ _); refine g_x3 (by assumption) fun _ _ _ _ => ?_)
  | ((with_reducible show tXmk0 _ _ _ _); refine g_xmk0 (by assumption) fun _ _ _ => ?_)
  | ((with_reducible show NewO _ _ _ _); refine g_newo (by assumption) (by first | decide | simp) fun _ _ _ _ => ?_)
  | ((with_reducible show rCat (V.ref _) (V.ref _) _ _); refine g_cat (by assumption) (by walk_at "mem") (by walk_at "mem") (by first | decide | simp) fun _ _ _ _ => ?_))
local macro_rules | `(tactic| walk_at "st") => `(tactic| first | with_reducible refine g_tcall ?_ | with_reducible refine g_tb ?_ | with_reducible refine g_andV ?_ | with_reducible refine g_notV ?_ | with_reducible refine g_chain ?_ | with_reducible refine g_un ?_ | with_reducible refine g_rU ?_)
/-- the first name of ps of which qs has fewer -/
def lackOf (ps qs : List (Str × Int)) : Option Str := (ps.find? fun p => decide (countOf qs p.1 < p.2)).map (·.1)
def optV : Option Str → V
  | none => .non
  | some s => .str s
section
variable {P : Program} {w : World} {K : PySem.W.Frag} {mg : Str → Option Value} {base : Heap}
def spLack (K : PySem.W.Frag) : Sp := fun vs H Q _ => ∃ (t d : Addr) (ts : List V) (ps qs : List (Str × Int)), vs = [.ref t, .ref d] ∧ SqT K H t ts ∧ Paired (PairAt H) ts ps ∧ H d = some (.dK (kvOf qs)) ∧ ∀ H', Same H H' → Q (optV (lackOf ps qs)) H'
theorem scLack : FnScope ["pairs", "counts", "name", "count"] ["pairs", "counts"] (defScope s_first_lacking) := ⟨rfl, rfl, rfl, by decide +kernel, rfl, by decide +kernel, by decide +kernel⟩
theorem ok_lack {f : Addr} {fd : FuncData} (F : Fun K "first_lacking" "first_lacking" s_first_lacking f fd) : FnOk P w K mg base CX0 1 f fd ["pairs", "counts"] (spLack K) := by
  refine F.ok scLack (fun vs H Q E h => ?_) (fun cdv A outer s H vs Q E hr h => ?_)
  · obtain ⟨t, d, _, _, _, rfl, _⟩ := h
    rfl
  · obtain ⟨t, d, ts, ps, qs, rfl, hq, pr, hd, q⟩ := h
    have hu := hu_of hr
    refine ⟨_, pss_cons (ps_for PassesOwn.never rfl (pi_tup (pv 0)) (pg_tup rfl (pgs_cons (pg_name (i := 2) scLack.nd rfl (Or.inl rfl)) (pgs_cons (pg_name (i := 3) scLack.nd rfl (Or.inl rfl)) pgs_nil)))
        (pss_one (ps_if (pt_cmpR op_lt (pe_dget2 hu (pv 1) (pv 2) pe_int ⟨rfl, rfl, rfl, rfl⟩) (pv 3) (nomark _)) (pss_one (ps_ret (pv 2))) pss_nil)))
      (pss_one (ps_ret pe_non)), ?_⟩
    have lx : ts.length = ps.length := pr.length
    refine g_seq (g_for (g_itup (g_var rfl ⟨t, rfl, ⟨ts, hq⟩, ?_⟩)))
    refine for_tup (xs := ts) (fun i σ H2 => ∃ v2 v3, σ = [some (.ref t), some (.ref d), v2, v3] ∧ Same H H2 ∧ (ps.take i).find? (fun p => decide (countOf qs p.1 < p.2)) = none)
      ⟨none, none, rfl, Same.refl H, rfl⟩ (fun i σ H2 _ ⟨_, _, _, s2, _⟩ => Same.seqT' s2 hq) ?_ ?_
    · rintro i x σ H2 hx ⟨v2, v3, rfl, s2, nf⟩
      have hi : i < ps.length := by
        have z := (List.getElem?_eq_some_iff.mp hx).1
        omega
      obtain ⟨u, rfl, eu⟩ := pairedGet pr hx (List.getElem?_eq_getElem hi)
      have d2 := s2 _ _ hd
      refine ⟨u, _, rfl, SqT.of (s2 _ _ eu), rfl, _, _, rfl, g_name ⟨_, _, rfl, g_name ⟨rfl, ?_⟩⟩⟩
      refine g_ifs <| g_test <| g_op <| g_dget2 (g_var rfl ⟨d, rfl, .inl ⟨_, .inl d2⟩, g_var rfl (g_c ⟨_, DGet.k (k := Sum.inr ps[i].1) d2, ?_⟩)⟩)
      rw [kv_count]
      refine g_var rfl <| g_i0 <| g_bl ?_
      have e : ps.take (i + 1) = ps.take i ++ [ps[i]] := by rw [List.take_add_one, List.getElem?_eq_getElem hi]; rfl
      by_cases c : countOf qs ps[i].1 < ps[i].2
      · refine g_iteT c <| g_ret <| g_var rfl ?_
        have z : lackOf ps qs = some ps[i].1 := by
          unfold lackOf
          have y : ps.find? (fun p => decide (countOf qs p.1 < p.2)) = ((ps.take (i + 1)) ++ ps.drop (i + 1)).find? (fun p => decide (countOf qs p.1 < p.2)) := by rw [List.take_append_drop]
          rw [y, List.find?_append, e, List.find?_append, nf]
          simp [c]
        have q' := q H2 s2
        rw [z] at q'
        exact q'
      · refine g_iteF c ?_
        refine ⟨_, _, rfl, s2, ?_⟩
        rw [e, List.find?_append, nf]
        simp [c]
    · rintro σ H2 ⟨v2, v3, rfl, s2, nf⟩
      dsimp only
      rw [lx, List.take_length] at nf
      refine g_ret <| g_c ?_
      have q' := q H2 s2
      unfold lackOf at q'
      rw [nf] at q'
      exact q'
end
end My
set_option Elab.async false
set_option maxRecDepth 100000
set_option maxHeartbeats 8000000
namespace My
open PySem PySem.Spec PyProof.Rows L2
local macro_rules | `(tactic| walk_at "cond") => `(tactic| first
  | exact Or.inr ⟨by decide, by decide⟩ | exact Or.inl ⟨by decide, by decide⟩ | exact ⟨by decide, by decide, by decide⟩ | exact ⟨by decide, by decide⟩
  | (refine Or.inl ⟨?_, ?_⟩ <;> omega) | (refine Or.inr ⟨?_, ?_⟩ <;> omega)
  | (show (0 : Int) < _; omega))
local macro_rules | `(tactic| walk_at "mem") => `(tactic| first | exact List.Mem.head _ | exact List.Mem.tail _ (List.Mem.head _) | exact Put.head | (refine List.Mem.tail _ ?_; walk_at "mem") | (apply Put.tail; walk_at "mem"))
local macro_rules | `(tactic| walk_at "st") => `(tactic| first
  | with_reducible refine g_seq ?_ | with_reducible refine g_asg ?_ | with_reducible refine g_name ?_ | ((with_reducible show tVar _ _ _ _); refine g_var rfl ?_) | with_reducible refine g_c ?_
  | with_reducible refine g_op ?_ | with_reducible refine g_test ?_ | with_reducible refine g_bl ?_
  | with_reducible refine g_cb ?_ | with_reducible refine g_cons ?_ | with_reducible refine g_nil ?_ | with_reducible refine g_tif ?_ | with_reducible refine g_ifs ?_ | with_reducible refine g_ret ?_
  | with_reducible refine g_drop ?_ | with_reducible refine g_next ?_
  | with_reducible refine g_i0 ?_ | ((with_reducible show rI _ _ _ _ _ _); refine g_i (by walk_at "cond") ?_) | with_reducible refine g_int ?_ | with_reducible refine g_abs ?_ | with_reducible refine g_or ?_
  | with_reducible refine g_and ?_ | with_reducible refine g_not ?_ | with_reducible refine g_lst ?_ | with_reducible refine g_tup ?_
  | with_reducible refine iteT ?_ | with_reducible refine iteF ?_ | with_reducible refine g_par ?_ | with_reducible refine g_two ?_ | with_reducible refine g_sub ?_
  | ((with_reducible show rIxL _ (V.ref _) (V.int _) _ _); refine g_ixM (by assumption) (by walk_at "mem") rfl rfl ?_)
  | ((with_reducible show rSetL (V.ref _) (V.int _) _ _ _); refine g_setM (by assumption) rfl (by walk_at "mem") fun _ _ => ?_)
  | with_reducible refine g_xmk ?_ | with_reducible refine g_xmkK ?_
  | ((with_reducible show XNew _ (spI1 _ _) _ _ _); refine g_x1 (by assumption) fun _ _ _ _ => ?_)
  | ((with_reducible show XNewK _ _ (spI1 _ _) _ _ _ _); refine g_x1k (by assumption) fun _ _ _ _ => ?_)
  | ((with_reducible show XNew _ (spI3 _ _ _ _) _ _ _); refine g_x3 (by assumption) fun _ _ _ _ => ?_)
  | ((with_reducible show tXmk0 _ _ _ _); refine g_xmk0 (by assumption) fun _ _ _ => ?_)
  | ((with_reducible show NewO _ _ _ _); refine g_newo (by assumption) (by first | decide | simp) fun _ _ _ _ => ?_)
  | ((with_reducible show rCat (V.ref _) (V.ref _) _ _); refine g_cat (by assumption) (by walk_at "mem") (by walk_at "mem") (by first | decide | simp) fun _ _ _ _ => ?_))
local macro_rules | `(tactic| walk_at "st") => `(tactic| first | with_reducible refine g_tcall ?_ | with_reducible refine g_tb ?_ | with_reducible refine g_andV ?_ | with_reducible refine g_notV ?_ | with_reducible refine g_chain ?_ | with_reducible refine g_un ?_ | with_reducible refine g_rU ?_)
section
variable {P : Program} {w : World} {K : PySem.W.Frag} {mg : Str → Option Value} {base : Heap}
def spLe (K : PySem.W.Frag) (C CL : Addr) : Sp := fun vs H Q E => ∃ a ps v r, vs = [.ref a, v] ∧ LoadAt C H a ps ∧ LoadK K C H v r ∧ match r with
  | none => BadV CL "value" v H E
  | some qs => ∀ H', Same H H' → Q (.bl (lackOf ps qs).isNone) H'
theorem scLe : FnScope ["self", "other"] ["self", "other"] (defScope s_Load___le__) := ⟨rfl, rfl, rfl, by decide +kernel, rfl, by decide +kernel, by decide +kernel⟩
theorem ok_le {f C CL fI : Addr} {fd fdN : FuncData} {B newId initId : String} {bmB : List Value} (F : Fun K "__le__" "Load.__le__" s_Load___le__ f fd) (c : LoadC K C) (mI : mg "isinstance" = none) (mL : mg "Load" = some (.ref C))
    (TN : XCls P w K mg base "NotALoad" CL fI B newId initId bmB ["self", "value"] (spI1 CL "value") fdN) (CF : Cal P w K mg base 1 "first_lacking" ["pairs", "counts"] (spLack K)) : FnOk P w K mg base (L2.CX P w) 3 f fd ["self", "other"] (spLe K C CL) := by
  refine F.okX scLe (fun vs H Q E h => ?_) (fun cdv A outer s H vs Q E hr h => ?_)
  · obtain ⟨a, _, v, _, rfl, _⟩ := h
    rfl
  · obtain ⟨a, ps, v, r, rfl, la, lk, q⟩ := h
    have tk := takes_of (X := cxOf (L2.CX P w) P w K mg base ["self", "other"] "Load.__le__" (defScope s_Load___le__) f cdv A outer s H E) (E := E) rfl rfl rfl rfl
    refine ⟨_, pss_cons (ps_if (pt_not (pt_val (pIsi mI (pv 1) (pG mL)))) (pss_one (ps_raise rfl tk (pmk_x TN hr rfl (pa_cons (pv 1) pa_nil)))) pss_nil)
      (pss_one (ps_ret (pe_cmpR op_isN (pCal CF (hr.mono (by decide : 1 ≤ 2)) (pa_cons (pe_fld (pv 0) rfl) (pa_cons (pe_fld (pv 1) rfl) pa_nil))) pe_non (nomark _)))), ?_⟩
    repeat walk_at "st"
    refine loadK_isi c lk ?_
    refine g_bl ?_
    cases lk with
    | no ty k =>
      refine iteT ?_
      refine g_cons (g_var rfl (g_nil ?_))
      exact rx1_ok fun d hd => q H d (Same.refl H) hd
    | @load b qs lb =>
      obtain ⟨dx, t, d, ts, e1, tz, pr, e3⟩ := la
      obtain ⟨dx', t', d', ts', e1', tz', pr', e3'⟩ := lb
      refine iteF ?_
      repeat walk_at "st"
      refine g_fld (g_var rfl ?_)
      refine ⟨a, C, dx, _, _, rfl, e1, c.ic.cl, c.n1, rfl, g_cons (g_fld (g_var rfl ?_))⟩
      refine ⟨b, C, dx', _, _, rfl, e1', c.ic.cl, c.n2, rfl, g_nil ?_⟩
      refine ⟨t, d', ts, ps, qs, rfl, tz.seq, pr, e3', fun H1 s1 => g_c ⟨rfl, ?_⟩⟩
      have e : decide (optV (lackOf ps qs) = V.non) = (lackOf ps qs).isNone := by cases lackOf ps qs <;> simp [optV]
      rw [e]
      exact q H1 s1
end
end My
set_option Elab.async false
set_option maxRecDepth 100000
set_option maxHeartbeats 8000000
namespace My
open PySem PySem.Spec PyProof.Rows L2
local macro_rules | `(tactic| walk_at "cond") => `(tactic| first
  | exact Or.inr ⟨by decide, by decide⟩ | exact Or.inl ⟨by decide, by decide⟩ | exact ⟨by decide, by decide, by decide⟩ | exact ⟨by decide, by decide⟩
  | (refine Or.inl ⟨?_, ?_⟩ <;> omega) | (refine Or.inr ⟨?_, ?_⟩ <;> omega)
  | (show (0 : Int) < _; omega))
local macro_rules | `(tactic| walk_at "mem") => `(tactic| first | exact List.Mem.head _ | exact List.Mem.tail _ (List.Mem.head _) | exact Put.head | (refine List.Mem.tail _ ?_; walk_at "mem") | (apply Put.tail; walk_at "mem"))
local macro_rules | `(tactic| walk_at "st") => `(tactic| first
  | with_reducible refine g_seq ?_ | with_reducible refine g_asg ?_ | with_reducible refine g_name ?_ | ((with_reducible show tVar _ _ _ _); refine g_var rfl ?_) | with_reducible refine g_c ?_
  | with_reducible refine g_op ?_ | with_reducible refine g_test ?_ | with_reducible refine g_bl ?_
  | with_reducible refine g_cb ?_ | with_reducible refine g_cons ?_ | with_reducible refine g_nil ?_ | with_reducible refine g_tif ?_ | with_reducible refine g_ifs ?_ | with_reducible refine g_ret ?_
  | with_reducible refine g_drop ?_ | with_reducible refine g_next ?_
  | with_reducible refine g_i0 ?_ | ((with_reducible show rI _ _ _ _ _ _); refine g_i (by walk_at "cond") ?_) | with_reducible refine g_int ?_ | with_reducible refine g_abs ?_ | with_reducible refine g_or ?_
  | with_reducible refine g_and ?_ | with_reducible refine g_not ?_ | with_reducible refine g_lst ?_ | with_reducible refine g_tup ?_
  | with_reducible refine iteT ?_ | with_reducible refine iteF ?_ | with_reducible refine g_par ?_ | with_reducible refine g_two ?_ | with_reducible refine g_sub ?_
  | ((with_reducible show rIxL _ (V.ref _) (V.int _) _ _); refine g_ixM (by assumption) (by walk_at "mem") rfl rfl ?_)
  | ((with_reducible show rSetL (V.ref _) (V.int _) _ _ _); refine g_setM (by assumption) rfl (by walk_at "mem") fun _ _ => ?_)
  | with_reducible refine g_xmk ?_ | with_reducible refine g_xmkK ?_
  | ((with_reducible show XNew _ (spI1 _ _) _ _ _); refine g_x1 (by assumption) fun _ _ _ _ => ?_)
  | ((with_reducible show XNewK _ _ (spI1 _ _) _ _ _ _); refine g_x1k (by assumption) fun _ _ _ _ => ?_)
  | ((with_reducible show XNew _ (spI3 _ _ _ _) _ _ _); refine g_x3 (by assumption) fun _ _ _ _ => ?_)
  | ((with_reducible show tXmk0 _ _ _ _); refine g_xmk0 (by assumption) fun _ _ _ => ?_)
  | ((with_reducible show NewO _ _ _ _); refine g_newo (by assumption) (by first | decide | simp) fun _ _ _ _ => ?_)
  | ((with_reducible show rCat (V.ref _) (V.ref _) _ _); refine g_cat (by assumption) (by walk_at "mem") (by walk_at "mem") (by first | decide | simp) fun _ _ _ _ => ?_))
local macro_rules | `(tactic| walk_at "st") => `(tactic| first | with_reducible refine g_tcall ?_ | with_reducible refine g_tb ?_ | with_reducible refine g_andV ?_ | with_reducible refine g_notV ?_ | with_reducible refine g_chain ?_ | with_reducible refine g_un ?_ | with_reducible refine g_rU ?_)
def multP (ps : List (Str × Int)) (n : Int) : List (Str × Int) := if n = 0 then [] else ps.map fun p => (p.1, p.2 * n)
section
variable {P : Program} {w : World} {K : PySem.W.Frag} {mg : Str → Option Value} {base : Heap}
def spMult (K : PySem.W.Frag) : Sp := fun vs H Q _ => ∃ (t : Addr) (ts : List V) (ps : List (Str × Int)) (n : Int), vs = [.ref t, .int n] ∧ SqT K H t ts ∧ Paired (PairAt H) ts ps ∧ ps.length ≤ 1000 ∧ 0 ≤ n ∧ n < 2 ^ 64 ∧ ∀ H' b xs, Same H H' → SqT K H' b xs → Paired (PairAt H') xs (multP ps n) → Q (.ref b) H'
theorem scMult : FnScope ["pairs", "factor", "name", "count"] ["pairs", "factor"] (defScope s_multiplied) := ⟨rfl, rfl, rfl, by decide +kernel, rfl, by decide +kernel, by decide +kernel⟩
theorem ok_mult {f : Addr} {fd : FuncData} (F : Fun K "multiplied" "multiplied" s_multiplied f fd) (mT : mg "tuple" = none) : FnOk P w K mg base CX0 1 f fd ["pairs", "factor"] (spMult K) := by
  refine F.ok scMult (fun vs H Q E h => ?_) (fun cdv A outer s H vs Q E hr h => ?_)
  · obtain ⟨t, _, _, n, rfl, _⟩ := h
    rfl
  · obtain ⟨t, ts, ps, n, rfl, hq, pr, few, n0, n1, q⟩ := h
    refine ⟨_, pss_cons (ps_if (pt_cmpR op_eq (pv 1) pe_int (nomark _)) (pss_one (ps_ret (pe_tup pa_nil))) pss_nil)
      (pss_one (ps_ret (pe_callTy (r := rTupZ K) call_tupZ (by rfl) mT PyProof.Rows.boot_tuple (pa_cons (pe_lc (te := tTup (tCons (tVar 2) (tCons (tOp (rI CMul fun i j => .int (i * j)) (tVar 3) (tVar 1)) tNil))) (own := [("name", 2), ("count", 3)]) (g := gTup K 2 (gCons (gName 2) (gCons (gName 3) gNil))) rfl scMult.nd (pi_tup (pv 0))
        (blkOk_by (own := [("name", 2), ("count", 3)]) (N := ["pairs", "factor", "name", "count"]) (sc := defScope s_multiplied) (by decide +kernel)) (fun _ _ _ _ _ => pg_tup rfl (pgs_cons (pg_name (i := 2) scMult.nd rfl (Or.inl rfl)) (pgs_cons (pg_name (i := 3) scMult.nd rfl (Or.inl rfl)) pgs_nil))) (fun _ _ _ _ _ => pts_nil)
        (fun _ _ _ _ _ => pe_tup (pa_cons (pv 2) (pa_cons (pe_op op_mul (pv 3) (pv 1)) pa_nil)))) pa_nil)))), ?_⟩
    have lx : ts.length = ps.length := pr.length
    refine g_seq <| g_ifs <| g_test <| g_op <| g_var rfl <| g_c ⟨rfl, g_bl ?_⟩
    by_cases c : n = 0
    · refine g_iteT (by rw [c]) <| g_ret <| g_tup <| g_nil ⟨(by show 0 ≤ sizeLine; decide), fun b hb => ?_⟩
      refine q _ b [] (sameNew hb) (SqT.of upd_same) ?_
      unfold multP
      rw [if_pos c]
      exact .nil
    · refine g_iteF (fun z => c (V.int.inj z)) ?_
      refine g_ret <| g_cb <| g_cons <| g_lctup <| g_var rfl ⟨t, rfl, ⟨ts, hq⟩, fun D hD => lcS walk_tup PairAt PairAt.keep (fun i l => l = (ps.take i).map fun p => (p.1, p.2 * n)) rfl hD (by omega) (fun H1 s1 => Same.seqT' s1 hq) ?_ ?_⟩
      · rintro i x H1 H1' l hi s1 rfl ⟨rfl, hx⟩ KT KF kt kf
        have hi' : i < ps.length := by omega
        obtain ⟨u, rfl, eu⟩ := pairedGet pr hx (List.getElem?_eq_getElem hi')
        refine ⟨u, _, rfl, SqT.of (s1 _ _ eu), rfl, _, _, rfl, g_name ⟨_, _, rfl, g_name ⟨rfl, ?_⟩⟩⟩
        refine ⟨rfl, ?_⟩
        unfold tYes
        refine iteT <| g_tup <| g_cons <| g_var rfl <| g_cons <| g_op <| g_var rfl <| g_var rfl <| g_i (Or.inr ⟨by omega, n1⟩) <| g_nil ⟨(by show 2 ≤ sizeLine; decide), fun p hp => ?_⟩
        exact kt _ _ (ps[i].1, ps[i].2 * n) (sameNew hp) (take_map_succ hi').symm ⟨p, rfl, upd_same⟩
      · rintro H1 acc l s1 d1 pr2 rfl
        rw [lx, List.take_length] at pr2
        refine g_nil ⟨D, acc, rfl, SqL.of d1, fun b o hb _ => ?_⟩
        have s2 : Same H1 (upd H1 b (.frz o (.tup acc))) := sameNew hb
        refine q _ b acc (s1.trans s2) (.inl (.inr ⟨o, upd_same⟩)) ?_
        unfold multP
        rw [if_neg c]
        exact pairedMono (fun _ _ h => PairAt.same h s2) pr2
end
end My
set_option Elab.async false
set_option maxRecDepth 100000
set_option maxHeartbeats 8000000
namespace My
open PySem PySem.Spec PyProof.Rows L2
local macro_rules | `(tactic| walk_at "cond") => `(tactic| first
  | exact Or.inr ⟨by decide, by decide⟩ | exact Or.inl ⟨by decide, by decide⟩ | exact ⟨by decide, by decide, by decide⟩ | exact ⟨by decide, by decide⟩
  | (refine Or.inl ⟨?_, ?_⟩ <;> omega) | (refine Or.inr ⟨?_, ?_⟩ <;> omega)
  | (show (0 : Int) < _; omega))
local macro_rules | `(tactic| walk_at "mem") => `(tactic| first | exact List.Mem.head _ | exact List.Mem.tail _ (List.Mem.head _) | exact Put.head | (refine List.Mem.tail _ ?_; walk_at "mem") | (apply Put.tail; walk_at "mem"))
local macro_rules | `(tactic| walk_at "st") => `(tactic| first
  | with_reducible refine g_seq ?_ | with_reducible refine g_asg ?_ | with_reducible refine g_name ?_ | ((with_reducible show tVar _ _ _ _); refine g_var rfl ?_) | with_reducible refine g_c ?_
  | with_reducible refine g_op ?_ | with_reducible refine g_test ?_ | with_reducible refine g_bl ?_
  | with_reducible refine g_cb ?_ | with_reducible refine g_cons ?_ | with_reducible refine g_nil ?_ | with_reducible refine g_tif ?_ | with_reducible refine g_ifs ?_ | with_reducible refine g_ret ?_
  | with_reducible refine g_drop ?_ | with_reducible refine g_next ?_
  | with_reducible refine g_i0 ?_ | ((with_reducible show rI _ _ _ _ _ _); refine g_i (by walk_at "cond") ?_) | with_reducible refine g_int ?_ | with_reducible refine g_abs ?_ | with_reducible refine g_or ?_
  | with_reducible refine g_and ?_ | with_reducible refine g_not ?_ | with_reducible refine g_lst ?_ | with_reducible refine g_tup ?_
  | with_reducible refine iteT ?_ | with_reducible refine iteF ?_ | with_reducible refine g_par ?_ | with_reducible refine g_two ?_ | with_reducible refine g_sub ?_
  | ((with_reducible show rIxL _ (V.ref _) (V.int _) _ _); refine g_ixM (by assumption) (by walk_at "mem") rfl rfl ?_)
  | ((with_reducible show rSetL (V.ref _) (V.int _) _ _ _); refine g_setM (by assumption) rfl (by walk_at "mem") fun _ _ => ?_)
  | with_reducible refine g_xmk ?_ | with_reducible refine g_xmkK ?_
  | ((with_reducible show XNew _ (spI1 _ _) _ _ _); refine g_x1 (by assumption) fun _ _ _ _ => ?_)
  | ((with_reducible show XNewK _ _ (spI1 _ _) _ _ _ _); refine g_x1k (by assumption) fun _ _ _ _ => ?_)
  | ((with_reducible show XNew _ (spI3 _ _ _ _) _ _ _); refine g_x3 (by assumption) fun _ _ _ _ => ?_)
  | ((with_reducible show tXmk0 _ _ _ _); refine g_xmk0 (by assumption) fun _ _ _ => ?_)
  | ((with_reducible show NewO _ _ _ _); refine g_newo (by assumption) (by first | decide | simp) fun _ _ _ _ => ?_)
  | ((with_reducible show rCat (V.ref _) (V.ref _) _ _); refine g_cat (by assumption) (by walk_at "mem") (by walk_at "mem") (by first | decide | simp) fun _ _ _ _ => ?_))
local macro_rules | `(tactic| walk_at "st") => `(tactic| first | with_reducible refine g_tcall ?_ | with_reducible refine g_tb ?_ | with_reducible refine g_andV ?_ | with_reducible refine g_notV ?_ | with_reducible refine g_chain ?_ | with_reducible refine g_un ?_ | with_reducible refine g_rU ?_)
theorem multP_good {ps : List (Str × Int)} {n : Int} (g : GoodP ps) (n0 : 0 ≤ n) : GoodP (multP ps n) := by
  unfold multP
  by_cases c : n = 0
  · rw [if_pos c]
    exact ⟨(fun _ z => nomatch z), (fun _ z => nomatch z), List.nodup_nil⟩
  · rw [if_neg c]
    refine ⟨fun p hp => ?_, fun p hp => ?_, ?_⟩
    · obtain ⟨r, hr, rfl⟩ := List.mem_map.mp hp
      exact g.name r hr
    · obtain ⟨r, hr, rfl⟩ := List.mem_map.mp hp
      have h1 := g.count r hr
      have h2 : 1 ≤ n := by omega
      have z := Int.mul_le_mul h1 h2 (by decide) (by omega)
      simpa using z
    · rw [List.map_map]
      exact g.nd
theorem multP_len (ps : List (Str × Int)) (n : Int) : (multP ps n).length ≤ ps.length := by
  unfold multP
  split
  · exact Nat.zero_le _
  · rw [List.length_map]
    exact Nat.le_refl _
section
variable {P : Program} {w : World} {K : PySem.W.Frag} {mg : Str → Option Value} {base : Heap}
/-- what is no factor -/
def NoFac (K : PySem.W.Frag) (H : Hp) (v : V) : Prop := (∃ n, v = .int n ∧ n < 0) ∨ (∃ t b1 b2, TyX K H v t ∧ PySem.W.kitOne K t (.type "int") = some b1 ∧ (b1 = true → PySem.W.kitOne K t (.type "bool") = some b2) ∧ (b1 && !b2) = false)
def spMul (K : PySem.W.Frag) (C CN : Addr) : Sp := fun vs H Q E => ∃ a ps v, vs = [.ref a, v] ∧ LoadAt C H a ps ∧ GoodP ps ∧ ps.length < 64 ∧ ((NoFac K H v ∧ BadV CN "value" v H E) ∨
  (∃ n, v = .int n ∧ 0 ≤ n ∧ n < 2 ^ 64 ∧ ∀ H' x rs, H x = none → Same H H' → Ordered (multP ps n) rs → LoadAt C H' x rs → Q (.ref x) H'))
theorem scMul : FnScope ["self", "other"] ["self", "other"] (defScope s_Load___mul__) := ⟨rfl, rfl, rfl, by decide +kernel, rfl, by decide +kernel, by decide +kernel⟩
theorem ok_mul {f C CN CP fI p gO : Addr} {mc : Value} {fd fdN fdO : FuncData} {B newId initId : String} {bmB : List Value} (F : Fun K "__mul__" "Load.__mul__" s_Load___mul__ f fd) (c : LoadC K C) (mL : mg "Load" = some (.ref C))
    (TN : XCls P w K mg base "InvalidNumber" CN fI B newId initId bmB ["self", "value"] (spI1 CN "value") fdN) (CA : Cal P w K mg base 2 "is_at_least" ["value", "least"] (spAtLeast K))
    (SM : SMet K C mc "of" p gO) (FO : FnOk P w K mg base (L2.CX P w) 7 gO fdO ["pairs"] (spOf K C CP)) (bO : Binds K fdO ["pairs"] []) (CM : Cal P w K mg base 1 "multiplied" ["pairs", "factor"] (spMult K)) : FnOk P w K mg base (L2.CX P w) 8 f fd ["self", "other"] (spMul K C CN) := by
  refine F.okX scMul (fun vs H Q E h => ?_) (fun cdv A outer s H vs Q E hr h => ?_)
  · obtain ⟨a, _, v, rfl, _⟩ := h
    rfl
  · obtain ⟨a, ps, v, rfl, la, gp, few, q⟩ := h
    have tk := takes_of (X := cxOf (L2.CX P w) P w K mg base ["self", "other"] "Load.__mul__" (defScope s_Load___mul__) f cdv A outer s H E) (E := E) rfl rfl rfl rfl
    refine ⟨_, pss_cons (ps_if (pt_not (pt_val (pCal CA (hr.mono (by decide : 2 ≤ 7)) (pa_cons (pv 1) (pa_cons pe_int pa_nil))))) (pss_one (ps_raise rfl tk (pmk_x TN (hr.mono (by decide : 2 ≤ 7)) rfl (pa_cons (pv 1) pa_nil)))) pss_nil)
      (pss_one (ps_ret (pe_smeth (pG mL) SM FO hr bO (passes_call tk fun _ _ _ _ h => h) (pa_cons (pCal CM (hr.mono (by decide : 1 ≤ 7)) (pa_cons (pe_fld (pv 0) rfl) (pa_cons (pv 1) pa_nil))) pa_nil)))), ?_⟩
    repeat walk_at "st"
    rcases q with ⟨nf, bad⟩ | ⟨n, rfl, n0, n1, q⟩
    · have no : ∀ {R : VK}, R (.bl false) H → spAtLeast K [v, .int 0] H R E0 := fun {R} hR => by
        rcases nf with ⟨n, rfl, hn⟩ | ⟨t, b1, b2, ty, k1, k2, e⟩
        · refine ⟨_, 0, rfl, .inl ⟨n, rfl, ?_⟩⟩
          rw [decide_eq_false (by omega)]
          exact hR
        · exact ⟨_, 0, rfl, .inr ⟨t, b1, b2, ty, k1, k2, e, hR⟩⟩
      refine no (g_bl (iteT ?_))
      refine g_cons (g_var rfl (g_nil ?_))
      exact rx1_ok fun d hd => bad H d (Same.refl H) hd
    · refine ⟨_, 0, rfl, .inl ⟨n, rfl, ?_⟩⟩
      rw [decide_eq_true (show n ≥ 0 from n0)]
      refine g_bl (iteF ?_)
      obtain ⟨dx, t, d, ts, e1, tz, pr, e3⟩ := id la
      repeat walk_at "st"
      refine ⟨rfl, ?_⟩
      refine g_cons (g_tcall (g_cons (g_fld (g_var rfl ?_))))
      refine ⟨a, C, dx, _, _, rfl, e1, c.ic.cl, c.n1, rfl, g_cons (g_var rfl (g_nil ?_))⟩
      refine ⟨t, ts, ps, n, rfl, tz.seq, pr, by omega, n0, n1, fun H1 b xs s1 hb pr1 => g_nil ?_⟩
      refine of_good hb pr1 (multP_good gp n0) (by have z := multP_len ps n; omega) fun H2 x rs hx s2 od lx => ?_
      exact q H2 x rs (none_back s1 hx) (s1.trans s2) od lx
end
end My
set_option Elab.async false
set_option maxRecDepth 100000
set_option maxHeartbeats 8000000
namespace My
open PySem PySem.Spec PyProof.Rows L2
local macro_rules | `(tactic| walk_at "cond") => `(tactic| first
  | exact Or.inr ⟨by decide, by decide⟩ | exact Or.inl ⟨by decide, by decide⟩ | exact ⟨by decide, by decide, by decide⟩ | exact ⟨by decide, by decide⟩
  | (refine Or.inl ⟨?_, ?_⟩ <;> omega) | (refine Or.inr ⟨?_, ?_⟩ <;> omega)
  | (show (0 : Int) < _; omega))
local macro_rules | `(tactic| walk_at "mem") => `(tactic| first | exact List.Mem.head _ | exact List.Mem.tail _ (List.Mem.head _) | exact Put.head | (refine List.Mem.tail _ ?_; walk_at "mem") | (apply Put.tail; walk_at "mem"))
local macro_rules | `(tactic| walk_at "st") => `(tactic| first
  | with_reducible refine g_seq ?_ | with_reducible refine g_asg ?_ | with_reducible refine g_name ?_ | ((with_reducible show tVar _ _ _ _); refine g_var rfl ?_) | with_reducible refine g_c ?_
  | with_reducible refine g_op ?_ | with_reducible refine g_test ?_ | with_reducible refine g_bl ?_
  | with_reducible refine g_cb ?_ | with_reducible refine g_cons ?_ | with_reducible refine g_nil ?_ | with_reducible refine g_tif ?_ | with_reducible refine g_ifs ?_ | with_reducible refine g_ret ?_
  | with_reducible refine g_drop ?_ | with_reducible refine g_next ?_
  | with_reducible refine g_i0 ?_ | ((with_reducible show rI _ _ _ _ _ _); refine g_i (by walk_at "cond") ?_) | with_reducible refine g_int ?_ | with_reducible refine g_abs ?_ | with_reducible refine g_or ?_
  | with_reducible refine g_and ?_ | with_reducible refine g_not ?_ | with_reducible refine g_lst ?_ | with_reducible refine g_tup ?_
  | with_reducible refine iteT ?_ | with_reducible refine iteF ?_ | with_reducible refine g_par ?_ | with_reducible refine g_two ?_ | with_reducible refine g_sub ?_
  | ((with_reducible show rIxL _ (V.ref _) (V.int _) _ _); refine g_ixM (by assumption) (by walk_at "mem") rfl rfl ?_)
  | ((with_reducible show rSetL (V.ref _) (V.int _) _ _ _); refine g_setM (by assumption) rfl (by walk_at "mem") fun _ _ => ?_)
  | with_reducible refine g_xmk ?_ | with_reducible refine g_xmkK ?_
  | ((with_reducible show XNew _ (spI1 _ _) _ _ _); refine g_x1 (by assumption) fun _ _ _ _ => ?_)
  | ((with_reducible show XNewK _ _ (spI1 _ _) _ _ _ _); refine g_x1k (by assumption) fun _ _ _ _ => ?_)
  | ((with_reducible show XNew _ (spI3 _ _ _ _) _ _ _); refine g_x3 (by assumption) fun _ _ _ _ => ?_)
  | ((with_reducible show tXmk0 _ _ _ _); refine g_xmk0 (by assumption) fun _ _ _ => ?_)
  | ((with_reducible show NewO _ _ _ _); refine g_newo (by assumption) (by first | decide | simp) fun _ _ _ _ => ?_)
  | ((with_reducible show rCat (V.ref _) (V.ref _) _ _); refine g_cat (by assumption) (by walk_at "mem") (by walk_at "mem") (by first | decide | simp) fun _ _ _ _ => ?_))
local macro_rules | `(tactic| walk_at "st") => `(tactic| first | with_reducible refine g_tcall ?_ | with_reducible refine g_tb ?_ | with_reducible refine g_andV ?_ | with_reducible refine g_notV ?_ | with_reducible refine g_chain ?_ | with_reducible refine g_un ?_ | with_reducible refine g_rU ?_)
/-- the text of a pair -/
def pairTx (p : Str × Int) : Str := ((Str.empty ++ ((toString p.2 : String) : Str)) ++ (" " : Str)) ++ p.1
def pairsTx (ps : List (Str × Int)) : Str := Txt.join ", " (ps.map pairTx)
/-- names, and counts below 10 ** 64 -/
def SmallP (ps : List (Str × Int)) : Prop := ∀ p ∈ ps, p.1.length ≤ 8 ∧ 0 ≤ p.2 ∧ p.2 < 10 ^ 64
theorem pairTx_len {p : Str × Int} (h : p.1.length ≤ 8 ∧ 0 ≤ p.2 ∧ p.2 < 10 ^ 64) : (pairTx p).length ≤ 1940 := by
  have t := int_text_len_1921 (log_small h.2.1 h.2.2)
  have c0 : Str.empty.length = 0 := rfl
  have c1 : (" " : Str).length = 1 := rfl
  unfold pairTx
  simp only [strLen_append]
  omega
theorem sumLen_le {l : List Str} {k : Nat} (h : ∀ s ∈ l, s.length ≤ k) : (l.map (·.length)).sum ≤ l.length * k := by
  induction l with
  | nil => simp
  | cons a r ih =>
    rw [List.map_cons, List.sum_cons, List.length_cons, Nat.succ_mul]
    have z := ih fun s hs => h s (List.mem_cons_of_mem _ hs)
    have y := h a List.mem_cons_self
    omega
theorem strMono {R : Str → V} : Mono (fun _ v s => v = R s) := fun _ _ _ _ _ h => h
theorem pairedStr {acc : List V} {l : List Str} (h : Paired (fun v s => v = V.str s) acc l) : acc = l.map V.str := by
  induction h with
  | nil => rfl
  | cons a _ ih =>
    rw [List.map_cons, a, ih]
/-- an f-string -/
def tJn (ts : List TE) : TE := fun σ H Q => tJs ts Str.empty σ H fun out H1 => Q (.str out) H1
section
variable {P : Program} {w : World} {K : PySem.W.Frag} {mg : Str → Option Value} {base : Heap}
def spPTx (K : PySem.W.Frag) : Sp := fun vs H Q _ => ∃ (t : Addr) (ts : List V) (ps : List (Str × Int)), vs = [.ref t] ∧ SqT K H t ts ∧ Paired (PairAt H) ts ps ∧ ps.length ≤ 1000 ∧ SmallP ps ∧ ∀ H', Same H H' → Q (.str (pairsTx ps)) H'
abbrev NPt : List Str := ["pairs", "count", "name"]
theorem scPTx : FnScope ["pairs", "name", "count"] ["pairs"] (defScope s_pairs_text) := ⟨rfl, rfl, rfl, by decide +kernel, rfl, by decide +kernel, by decide +kernel⟩
theorem ok_ptx {f : Addr} {fd : FuncData} (F : Fun K "pairs_text" "pairs_text" s_pairs_text f fd) (C1 : Cal P w K mg base 1 "figures_of" ["number"] spFig) : FnOk P w K mg base CX0 2 f fd ["pairs"] (spPTx K) := by
  refine F.ok scPTx (fun vs H Q E h => ?_) (fun cdv A outer s H vs Q E hr h => ?_)
  · obtain ⟨t, _, _, rfl, _⟩ := h
    rfl
  · obtain ⟨t, ts, ps, rfl, hq, pr, few, sm, q⟩ := h
    refine ⟨_, pss_one (ps_ret (pe_join pe_str (pe_lc (te := tJn [tFmt (tCall spFig [] E0 (tCons (tVar 2) tNil)), tC (.str " "), tFmt (tVar 1)]) (own := [("name", 1), ("count", 2)]) (g := gTup K 2 (gCons (gName 1) (gCons (gName 2) gNil))) rfl scPTx.nd (pi_tup (pv 0))
        (blkOk_by (own := [("name", 1), ("count", 2)]) (N := ["pairs", "name", "count"]) (sc := defScope s_pairs_text) (by decide +kernel)) (fun _ _ _ _ _ => pg_tup rfl (pgs_cons (pg_name (i := 1) scPTx.nd rfl (Or.inl rfl)) (pgs_cons (pg_name (i := 2) scPTx.nd rfl (Or.inl rfl)) pgs_nil))) (fun _ _ _ _ _ => pts_nil)
        (fun _ _ _ _ _ => pe_joined (PJ.cons (pe_fmt (pCal C1 hr (pa_cons (pv 2) pa_nil))) (PJ.cons pe_str (PJ.cons (pe_fmt (pv 1)) PJ.nil))))))), ?_⟩
    have lx : ts.length = ps.length := pr.length
    refine g_ret ⟨⟨_, rfl⟩, ?_⟩
    refine g_lctup <| g_var rfl ⟨t, rfl, ⟨ts, hq⟩, fun D hD => lcS walk_tup (fun _ v (s : Str) => v = V.str s) strMono (fun i l => l = (ps.take i).map pairTx) rfl hD (by omega) (fun H1 s1 => Same.seqT' s1 hq) ?_ ?_⟩
    · rintro i x H1 H1' l hi s1 rfl ⟨rfl, hx⟩ KT KF kt kf
      have hi' : i < ps.length := by omega
      obtain ⟨u, rfl, eu⟩ := pairedGet pr hx (List.getElem?_eq_getElem hi')
      have hp := sm ps[i] (List.getElem_mem hi')
      have t1 := int_text_len_1921 (log_small hp.2.1 hp.2.2)
      have c0 : Str.empty.length = 0 := rfl
      have c1 : (" " : Str).length = 1 := rfl
      refine ⟨u, _, rfl, SqT.of (s1 _ _ eu), rfl, _, _, rfl, g_name ⟨_, _, rfl, g_name ⟨rfl, ?_⟩⟩⟩
      refine ⟨rfl, ?_⟩
      unfold tYes
      refine iteT ?_
      show tJn _ _ _ _
      unfold tJn
      refine g_tcall (g_cons (g_var rfl (g_nil ⟨_, rfl, hp.2.1, hp.2.2, fun H2 s2 => ?_⟩)))
      refine .inl ⟨_, rfl, by rw [sizeLine_eq]; omega, _, rfl, by rw [sizeLine_eq]; simp only [strLen_append]; omega, ?_⟩
      refine ⟨_, rfl, by rw [sizeLine_eq]; simp only [strLen_append]; omega, ?_⟩
      refine ⟨V.str ps[i].1, rfl, ?_⟩
      refine Or.inl ⟨_, rfl, by rw [sizeLine_eq]; omega, _, rfl, by rw [sizeLine_eq]; simp only [strLen_append]; omega, ?_⟩
      exact kt _ _ (pairTx ps[i]) s2 (take_map_succ hi').symm rfl
    · rintro H1 acc l s1 d1 pr2 rfl
      rw [lx, List.take_length] at pr2
      have e := pairedStr pr2
      subst e
      refine ⟨", ", D, ps.map pairTx, rfl, rfl, .inl (SqL.of d1), ?_, q H1 s1⟩
      have z := sumLen_le (l := ps.map pairTx) (k := 1940) fun s hs => by
        obtain ⟨p, hp, rfl⟩ := List.mem_map.mp hs
        exact pairTx_len (sm p hp)
      rw [List.length_map] at z ⊢
      have c2 : (", " : Str).length = 2 := rfl
      rw [c2]
      omega
/-- str(load) -/
def spStrL (C : Addr) : Sp := fun vs H Q _ => ∃ a ps, vs = [.ref a] ∧ LoadAt C H a ps ∧ ps.length ≤ 1000 ∧ SmallP ps ∧ ∀ H', Same H H' → Q (.str (pairsTx ps)) H'
theorem scStrL : FnScope ["self"] ["self"] (defScope s_Load___str__) := ⟨rfl, rfl, rfl, by decide +kernel, rfl, by decide +kernel, by decide +kernel⟩
theorem ok_strL {f C : Addr} {fd : FuncData} (F : Fun K "__str__" "Load.__str__" s_Load___str__ f fd) (c : LoadC K C) (mS : mg "str" = none) (C1 : Cal P w K mg base 2 "pairs_text" ["pairs"] (spPTx K)) : FnOk P w K mg base CX0 3 f fd ["self"] (spStrL C) := by
  refine F.ok scStrL (fun vs H Q E h => ?_) (fun cdv A outer s H vs Q E hr h => ?_)
  · obtain ⟨a, _, rfl, _⟩ := h
    rfl
  · obtain ⟨a, ps, rfl, la, few, sm, q⟩ := h
    obtain ⟨dx, t, d, ts, e1, tz, pr, e3⟩ := id la
    refine ⟨_, pss_one (ps_ret (pe_callTy SkE.call_str_str (by rfl) mS PyProof.Rows.boot_str (pa_cons (pCal C1 hr (pa_cons (pe_fld (pv 0) rfl) pa_nil)) pa_nil))), ?_⟩
    refine g_ret (g_cb (g_cons (g_tcall (g_cons (g_fld (g_var rfl ?_))))))
    refine ⟨a, C, dx, _, _, rfl, e1, c.ic.cl, c.n1, rfl, g_nil ?_⟩
    exact ⟨t, ts, ps, rfl, tz.seq, pr, few, sm, fun H1 s1 => g_nil ⟨_, rfl, q H1 s1⟩⟩
end
end My
set_option Elab.async false
set_option maxRecDepth 100000
set_option maxHeartbeats 8000000
namespace My
open PySem PySem.Spec PyProof.Rows L2
local macro_rules | `(tactic| walk_at "cond") => `(tactic| first
  | exact Or.inr ⟨by decide, by decide⟩ | exact Or.inl ⟨by decide, by decide⟩ | exact ⟨by decide, by decide, by decide⟩ | exact ⟨by decide, by decide⟩
  | (refine Or.inl ⟨?_, ?_⟩ <;> omega) | (refine Or.inr ⟨?_, ?_⟩ <;> omega)
  | (show (0 : Int) < _; omega))
local macro_rules | `(tactic| walk_at "mem") => `(tactic| first | exact List.Mem.head _ | exact List.Mem.tail _ (List.Mem.head _) | exact Put.head | (refine List.Mem.tail _ ?_; walk_at "mem") | (apply Put.tail; walk_at "mem"))
local macro_rules | `(tactic| walk_at "st") => `(tactic| first
  | with_reducible refine g_seq ?_ | with_reducible refine g_asg ?_ | with_reducible refine g_name ?_ | ((with_reducible show tVar _ _ _ _); refine g_var rfl ?_) | with_reducible refine g_c ?_
  | with_reducible refine g_op ?_ | with_reducible refine g_test ?_ | with_reducible refine g_bl ?_
  | with_reducible refine g_cb ?_ | with_reducible refine g_cons ?_ | with_reducible refine g_nil ?_ | with_reducible refine g_tif ?_ | with_reducible refine g_ifs ?_ | with_reducible refine g_ret ?_
  | with_reducible refine g_drop ?_ | with_reducible refine g_next ?_
  | with_reducible refine g_i0 ?_ | ((with_reducible show rI _ _ _ _ _ _); refine g_i (by walk_at "cond") ?_) | with_reducible refine g_int ?_ | with_reducible refine g_abs ?_ | with_reducible refine g_or ?_
  | with_reducible refine g_and ?_ | with_reducible refine g_not ?_ | with_reducible refine g_lst ?_ | with_reducible refine g_tup ?_
  | with_reducible refine iteT ?_ | with_reducible refine iteF ?_ | with_reducible refine g_par ?_ | with_reducible refine g_two ?_ | with_reducible refine g_sub ?_
  | ((with_reducible show rIxL _ (V.ref _) (V.int _) _ _); refine g_ixM (by assumption) (by walk_at "mem") rfl rfl ?_)
  | ((with_reducible show rSetL (V.ref _) (V.int _) _ _ _); refine g_setM (by assumption) rfl (by walk_at "mem") fun _ _ => ?_)
  | with_reducible refine g_xmk ?_ | with_reducible refine g_xmkK ?_
  | ((with_reducible show XNew _ (spI1 _ _) _ _ _); refine g_x1 (by assumption) fun _ _ _ _ => ?_)
  | ((with_reducible show XNewK _ _ (spI1 _ _) _ _ _ _); refine g_x1k (by assumption) fun _ _ _ _ => ?_)
  | ((with_reducible show XNew _ (spI3 _ _ _ _) _ _ _); refine g_x3 (by assumption) fun _ _ _ _ => ?_)
  | ((with_reducible show tXmk0 _ _ _ _); refine g_xmk0 (by assumption) fun _ _ _ => ?_)
  | ((with_reducible show NewO _ _ _ _); refine g_newo (by assumption) (by first | decide | simp) fun _ _ _ _ => ?_)
  | ((with_reducible show rCat (V.ref _) (V.ref _) _ _); refine g_cat (by assumption) (by walk_at "mem") (by walk_at "mem") (by first | decide | simp) fun _ _ _ _ => ?_))
local macro_rules | `(tactic| walk_at "st") => `(tactic| first | with_reducible refine g_tcall ?_ | with_reducible refine g_tb ?_ | with_reducible refine g_andV ?_ | with_reducible refine g_notV ?_ | with_reducible refine g_chain ?_ | with_reducible refine g_un ?_ | with_reducible refine g_rU ?_)
theorem Str.nil_of {z : Str} (h : z.cps.toList = []) : z = "" := Str.ext' (Array.toList_inj.mp h)
theorem Str.len_of (z : Str) : z.length = z.cps.toList.length := by
  show z.cps.size = _
  rw [Array.length_toList]
/-- the number with this text (of no more than 64 signs) -/
def figV (z : Str) : Option Int :=
  match z.cps.toList with
  | [] => none
  | c :: r => if allIn z "0123456789" = false then none else if c = 48 ∧ r ≠ [] then none else some ((NumText.digitsVal z.cps.toList : Nat) : Int)
def optI : Option Int → V
  | none => .non
  | some n => .int n
theorem isDigit {c : Nat} (h : c ∈ ("0123456789" : Str).cps.toList) : 48 ≤ c ∧ c ≤ 57 := by
  have e : ("0123456789" : Str).cps.toList = [48, 49, 50, 51, 52, 53, 54, 55, 56, 57] := by decide +kernel
  rw [e] at h
  simp only [List.mem_cons, List.not_mem_nil, or_false] at h
  omega
theorem allIn_digits {z : Str} (h : allIn z "0123456789" = true) : NumText.AllDigits z.cps.toList := fun c hc => isDigit (of_decide_eq_true (List.all_eq_true.mp h c hc))
theorem rng64 : ∀ k : Fin 65, 1 ≤ k.val → Builtin.Range.small 0 (k.val : Int) 64 = true ∧ Builtin.Range.rangeSize 0 (k.val : Int) 64 = 1 := by decide +kernel
theorem RgC.piece {n : Nat} (h1 : 1 ≤ n) (h2 : n ≤ 64) : RgC 0 (n : Int) 64 1 := ⟨by decide, by decide, (rng64 ⟨n, by omega⟩ h1).1, (rng64 ⟨n, by omega⟩ h1).2⟩
theorem cut64 {z : Str} (h : z.length ≤ 64) : cutS z (some 0) (some 64) = z := by
  unfold cutS
  rw [show HT.sIx z.length 0 (some 0) = 0 from by
    show (if (0 : Int) < 0 then ((0 : Int) + (z.length : Int)).toNat else min (0 : Int).toNat z.length) = 0
    rw [if_neg (by decide)]
    exact Nat.zero_min _, show HT.sIx z.length z.length (some 64) = z.length from by
    show (if (64 : Int) < 0 then ((64 : Int) + (z.length : Int)).toNat else min (64 : Int).toNat z.length) = z.length
    rw [if_neg (by decide)]
    exact Nat.min_eq_right h]
  rw [List.drop_zero, Nat.sub_zero, List.take_of_length_le (by rw [← Str.len_of]; exact Nat.le_refl _)]
theorem sign_zero {c : Nat} : (⟨#[c]⟩ : Str) = "0" ↔ c = 48 := ⟨fun e => (List.cons.inj (show [c] = [48] from congrArg (fun x : Str => x.cps.toList) e)).1, fun e => by rw [e]; rfl⟩
structure FigN (mg : Str → Option Value) : Prop where
  all : mg "all" = none
  len : mg "len" = none
  int : mg "int" = none
  range : mg "range" = none
  FIGURES : ∃ t, mg "FIGURES" = some (.str "0123456789" t)
  PIECE : ∃ t, mg "PIECE" = some (.int 64 t)
section
variable {P : Program} {w : World} {K : PySem.W.Frag} {mg : Str → Option Value} {base : Heap}
def spFigV : Sp := fun vs H Q _ => ∃ z, vs = [.str z] ∧ z.length ≤ 64 ∧ ∀ H', Same H H' → Q (optI (figV z)) H'
abbrev NRf : List Str := ["text", "number", "at", "piece", "sign"]
theorem scRf : FnScope NRf ["text"] (defScope s_read_figures) := ⟨rfl, rfl, rfl, by decide +kernel, rfl, by decide +kernel, by decide +kernel⟩
theorem g_eqTx {H : Hp} {Q : VK} {a b : Str} (q : Q (.bl (decide (a = b))) H) : rEq (.str a) (.str b) H Q := by
  refine ⟨rfl, ?_⟩
  rw [show decide (V.str a = V.str b) = decide (a = b) from by
    rw [Bool.eq_iff_iff]
    simp]
  exact q
theorem g_neTx {H : Hp} {Q : VK} {a b : Str} (q : Q (.bl (!decide (a = b))) H) : rNe (.str a) (.str b) H Q := by
  refine ⟨rfl, ?_⟩
  rw [show decide (V.str a = V.str b) = decide (a = b) from by
    rw [Bool.eq_iff_iff]
    simp]
  exact q
theorem g_slS {σ : L2.St} {H : Hp} {Q : VK} {te : TE} {tl th : TO} (h : te σ H fun x H1 => tl σ H1 fun l H2 => th σ H2 fun u H3 => rSlS x l u H3 Q) : tSl rSlS te tl th σ H Q := h
theorem g_part {σ : L2.St} {H : Hp} {Q : Option Int → Hp → Prop} {t : TE} (h : t σ H fun x H1 => ∃ i, x = .int i ∧ Q (some i) H1) : tPart t σ H Q := h
theorem g_rng3 {σ : L2.St} {H : Hp} {R : It → Hp → Prop} {ta : TA} (h : ta σ H fun vs H1 => ∃ (i j c : Int) (n : Nat), vs = [.int i, .int j, .int c] ∧ RgC i j c n ∧ R (Itc i c n) H1) : iRng3 ta σ H R := h
theorem ok_rf {f : Addr} {fd : FuncData} (F : Fun K "read_figures" "read_figures" s_read_figures f fd) (T : FigN mg) : FnOk P w K mg base CX0 1 f fd ["text"] spFigV := by
  obtain ⟨t1, l1⟩ := T.FIGURES
  obtain ⟨t2, l2⟩ := T.PIECE
  refine F.ok scRf (fun vs H Q E h => ?_) (fun cdv A outer s H vs Q E hr h => ?_)
  · obtain ⟨z, rfl, _⟩ := h
    rfl
  · obtain ⟨z, rfl, hz, q⟩ := h
    refine ⟨_, pss_cons (ps_if (PW.pt (pw_or (pt_cmpR op_eq (pv 0) pe_str (nomark _)) (pw_or1 (pt_not (pt_val (pe_callB (cr_all rfl) (by rfl) T.all PyProof.Rows.boot_all (pa_cons (pe_lc (te := tOp (fun x y H Q => ∃ (c : Nat) (z : Str), x = .str ⟨#[c]⟩ ∧ y = .str z ∧ Q (.bl (decide (c ∈ z.cps.toList))) H) (tVar 4) (tC (.str "0123456789"))) (own := [("sign", 4)]) (g := gName 4) rfl scRf.nd (pi_str (pv 0))
          (blkOk_by (own := [("sign", 4)]) (N := NRf) (sc := defScope s_read_figures) (by decide +kernel)) (fun _ _ _ _ _ => pg_name (i := 4) scRf.nd rfl (Or.inl rfl)) (fun _ _ _ _ _ => pts_nil)
          (fun _ _ _ _ _ => pe_cmpR op_in_sign (pv 4) (pe_glob (v := .str "0123456789") rfl l1 ⟨_, rfl⟩) (by rfl))) pa_nil))))))) (pss_one (ps_ret pe_non)) pss_nil)
      (pss_cons (ps_if (PW.pt (pw_and (pt_cmpR op_eq (pe_ix ix_str (pv 0) pe_int (fun _ _ => rfl)) pe_str (nomark _)) (pw_and1 (pt_cmpR op_ne (pv 0) pe_str (nomark _))))) (pss_one (ps_ret pe_non)) pss_nil)
      (pss_cons (ps_set (i := 1) scRf.nd rfl (Or.inl rfl) pe_int)
      (pss_cons (ps_for PassesOwn.never rfl (pi_range3 (by rfl) T.range (pa_cons pe_int (pa_cons (pe_callB call_len_str (by rfl) T.len PySem.boot_len (pa_cons (pv 0) pa_nil)) (pa_cons (pe_glob (v := .int 64) rfl l2 ⟨_, rfl⟩) pa_nil)))) (pg_name (i := 2) scRf.nd rfl (Or.inl rfl))
        (pss_cons (ps_set (i := 3) scRf.nd rfl (Or.inl rfl) (pe_slice sl_str (pv 0) (po_some (pv 2)) (po_some (pe_op op_add (pv 2) (pe_glob (v := .int 64) rfl l2 ⟨_, rfl⟩)))))
        (pss_one (ps_set (i := 1) scRf.nd rfl (Or.inl rfl) (pe_op op_add (pe_op op_mul (pv 1) (pe_op op_pow pe_int (pe_op op_mod (pe_callB call_len_str (by rfl) T.len PySem.boot_len (pa_cons (pv 3) pa_nil)) pe_int))) (pe_callTy call_int_str (by rfl) T.int PyProof.Rows.boot_int (pa_cons (pv 3) pa_nil)))))))
      (pss_one (ps_ret (pv 1)))))), ?_⟩
    repeat walk_at "st"
    refine g_eqTx (g_bl ?_)
    cases hc : z.cps.toList with
    | nil =>
      have e := Str.nil_of hc
      refine g_iteT e ?_
      repeat walk_at "st"
      have q' := q H (Same.refl H)
      unfold figV at q'
      rw [hc] at q'
      exact q'
    | cons c r =>
      have ne : z ≠ "" := fun e => by
        rw [e] at hc
        exact nomatch hc
      refine g_iteF ne ?_
      repeat walk_at "st"
      refine g_ls (g_var rfl ?_)
      refine g_lsM (fun c => .bl (decide (c ∈ ("0123456789" : Str).cps.toList))) (Nat.le_trans hz (by decide)) (fun j c H1 hc1 s1 R kR => ?_) fun D H1 s1 d1 => g_nil ?_
      · refine g_op (g_var rfl (g_c ⟨c, _, rfl, rfl, ?_⟩))
        exact kR H1 (Same.refl H1)
      refine g_allF (bs := z.cps.toList.map fun c => decide (c ∈ ("0123456789" : Str).cps.toList)) (by rw [List.map_map]; exact d1) ?_
      have e2 : ((z.cps.toList.map fun c => decide (c ∈ ("0123456789" : Str).cps.toList)).all id) = allIn z "0123456789" := by
        unfold allIn
        rw [List.all_map]
        rfl
      rw [e2]
      have q' := q H1 s1
      unfold figV at q'
      rw [hc] at q'
      dsimp only at q'
      refine g_bl ?_
      cases ha : allIn z "0123456789" with
      | false =>
        rw [if_pos ha] at q'
        refine iteT ?_
        repeat walk_at "st"
        exact q'
      | true =>
        rw [if_neg (by rw [ha]; decide)] at q'
        have ad := allIn_digits ha
        refine iteF ?_
        repeat walk_at "st"
        refine ⟨z, 0, c, rfl, rfl, Nat.le_trans hz (by decide), by rw [hc]; exact atI_nat (j := 0) rfl, ?_⟩
        repeat walk_at "st"
        refine g_eqTx (g_bl ?_)
        by_cases hb : c = 48 ∧ r ≠ []
        · rw [if_pos hb] at q'
          refine g_iteT (by rw [hb.1]; rfl) ?_
          repeat walk_at "st"
          refine g_neTx (g_bl ?_)
          refine g_iteNT (fun e => hb.2 ?_) ?_
          · rw [e] at hc
            exact (List.cons.inj (hc.symm.trans (show ("0" : Str).cps.toList = [48] by decide +kernel))).2
          · repeat walk_at "st"
            exact q'
        · rw [if_neg hb] at q'
          have ll : 1 ≤ z.length := by
            rw [Str.len_of, hc, List.length_cons]
            omega
          have hz2 : z.length ≤ sizeLine := Nat.le_trans hz (by decide)
          have fv : figV z = some ((NumText.digitsVal (c :: r) : Nat) : Int) := by
            unfold figV
            rw [hc]
            dsimp only
            rw [if_neg (by rw [ha]; decide), if_neg hb]
          refine g_ite (fun c48 => ?sa) (fun c48 => ?sb)
          case' sa =>
            repeat walk_at "st"
            refine g_neTx (g_bl ?_)
            refine g_iteNF ?_ ?_
            case' sa.refine_1 =>
              have e1 : c = 48 := sign_zero.mp c48
              have e2 : r = [] := Classical.byContradiction fun z => hb ⟨e1, z⟩
              apply Str.ext'
              apply Array.toList_inj.mp
              rw [hc, e1, e2]
              decide +kernel
          all_goals
            repeat walk_at "st"
            refine g_for (g_rng3 (g_cons (g_c (g_cons (g_cb (g_cons (g_var rfl (g_nil ⟨z, rfl, hz2, g_cons (g_c (g_nil ⟨0, (z.length : Int), 64, 1, rfl, RgC.piece ll hz, ?_⟩))⟩))))))))
            refine for_rangeC (lo := 0) (c := 64) (n := 1) (fun i σ H2 => ∃ v2 v3, σ = [some (.str z), some (.int (if i = 0 then 0 else ((NumText.digitsVal (c :: r) : Nat) : Int))), v2, v3, none] ∧ Same H1 H2) ⟨none, none, rfl, Same.refl H1⟩ ?_ ?_
            · rintro i σ H2 hi ⟨v2, v3, rfl, s2⟩
              have i0 : i = 0 := by omega
              subst i0
              refine g_name (g_seq (g_asg (g_slS (g_var rfl (g_part (g_var rfl ⟨_, rfl, g_part (g_op (g_var rfl (g_c (g_i0 ⟨_, rfl, z, rfl, hz2, ?_⟩))))⟩))))))
              rw [show cutS z (some (0 + ((0 : Nat) : Int) * 64)) (some (0 + ((0 : Nat) : Int) * 64 + 64)) = z from cut64 hz]
              repeat walk_at "st"
              refine ⟨z, rfl, hz2, ?_⟩
              repeat walk_at "st"
              refine g_i ⟨by omega, by omega, by decide⟩ ?_
              repeat walk_at "st"
              refine ⟨z, _, rfl, intText_digits ad (by rw [hc]; exact fun z => nomatch z) (by omega), by omega, ?_⟩
              repeat walk_at "st"
              refine ⟨some (.int (0 + ((0 : Nat) : Int) * 64)), some (.str z), ?_, s2⟩
              rw [hc, if_pos rfl, if_neg (by decide : ¬ (0 + 1 = 0)), Int.zero_mul]
              simp only [Int.zero_add]
              rfl
            · rintro σ H2 ⟨v2, v3, rfl, s2⟩
              dsimp only
              rw [if_neg (by decide : ¬ (1 = 0))]
              refine g_ret (g_var rfl ?_)
              have z := q H2 (s1.trans s2)
              rw [fv] at z
              exact z
end
end My
set_option Elab.async false
set_option maxRecDepth 100000
set_option maxHeartbeats 8000000
namespace My
open PySem PySem.Spec PyProof.Rows L2
local macro_rules | `(tactic| walk_at "cond") => `(tactic| first
  | exact Or.inr ⟨by decide, by decide⟩ | exact Or.inl ⟨by decide, by decide⟩ | exact ⟨by decide, by decide, by decide⟩ | exact ⟨by decide, by decide⟩
  | (refine Or.inl ⟨?_, ?_⟩ <;> omega) | (refine Or.inr ⟨?_, ?_⟩ <;> omega)
  | (show (0 : Int) < _; omega))
local macro_rules | `(tactic| walk_at "mem") => `(tactic| first | exact List.Mem.head _ | exact List.Mem.tail _ (List.Mem.head _) | exact Put.head | (refine List.Mem.tail _ ?_; walk_at "mem") | (apply Put.tail; walk_at "mem"))
local macro_rules | `(tactic| walk_at "st") => `(tactic| first
  | with_reducible refine g_seq ?_ | with_reducible refine g_asg ?_ | with_reducible refine g_name ?_ | ((with_reducible show tVar _ _ _ _); refine g_var rfl ?_) | with_reducible refine g_c ?_
  | with_reducible refine g_op ?_ | with_reducible refine g_test ?_ | with_reducible refine g_bl ?_
  | with_reducible refine g_cb ?_ | with_reducible refine g_cons ?_ | with_reducible refine g_nil ?_ | with_reducible refine g_tif ?_ | with_reducible refine g_ifs ?_ | with_reducible refine g_ret ?_
  | with_reducible refine g_drop ?_ | with_reducible refine g_next ?_
  | with_reducible refine g_i0 ?_ | ((with_reducible show rI _ _ _ _ _ _); refine g_i (by walk_at "cond") ?_) | with_reducible refine g_int ?_ | with_reducible refine g_abs ?_ | with_reducible refine g_or ?_
  | with_reducible refine g_and ?_ | with_reducible refine g_not ?_ | with_reducible refine g_lst ?_ | with_reducible refine g_tup ?_
  | with_reducible refine iteT ?_ | with_reducible refine iteF ?_ | with_reducible refine g_par ?_ | with_reducible refine g_two ?_ | with_reducible refine g_sub ?_
  | ((with_reducible show rIxL _ (V.ref _) (V.int _) _ _); refine g_ixM (by assumption) (by walk_at "mem") rfl rfl ?_)
  | ((with_reducible show rSetL (V.ref _) (V.int _) _ _ _); refine g_setM (by assumption) rfl (by walk_at "mem") fun _ _ => ?_)
  | with_reducible refine g_xmk ?_ | with_reducible refine g_xmkK ?_
  | ((with_reducible show XNew _ (spI1 _ _) _ _ _); refine g_x1 (by assumption) fun _ _ _ _ => ?_)
  | ((with_reducible show XNewK _ _ (spI1 _ _) _ _ _ _); refine g_x1k (by assumption) fun _ _ _ _ => ?_)
  | ((with_reducible show XNew _ (spI3 _ _ _ _) _ _ _); refine g_x3 (by assumption) fun _ _ _ _ => ?_)
  | ((with_reducible show tXmk0 _ _ _ _); refine g_xmk0 (by assumption) fun _ _ _ => ?_)
  | ((with_reducible show NewO _ _ _ _); refine g_newo (by assumption) (by first | decide | simp) fun _ _ _ _ => ?_)
  | ((with_reducible show rCat (V.ref _) (V.ref _) _ _); refine g_cat (by assumption) (by walk_at "mem") (by walk_at "mem") (by first | decide | simp) fun _ _ _ _ => ?_))
local macro_rules | `(tactic| walk_at "st") => `(tactic| first | with_reducible refine g_tcall ?_ | with_reducible refine g_tb ?_ | with_reducible refine g_andV ?_ | with_reducible refine g_notV ?_ | with_reducible refine g_chain ?_ | with_reducible refine g_un ?_ | with_reducible refine g_rU ?_)
/-- name and count that a part of a text tells -/
def partN (z : Str) : Str := (Txt.partition z " ").2.2
def partF (z : Str) : Option Int := figV (Txt.partition z " ").1
section
variable {P : Program} {w : World} {K : PySem.W.Frag} {mg : Str → Option Value} {base : Heap}
def spPart : Sp := fun vs H Q _ => ∃ z : Str, vs = [.str z] ∧ z.length ≤ sizeLine ∧ (Txt.partition z " ").1.length ≤ 64 ∧ ∀ H' b, Same H H' → H' b = some (.tup [.str (partN z), optI (partF z)]) → Q (.ref b) H'
theorem scPart : FnScope ["text", "count", "_", "name"] ["text"] (defScope s_read_pair) := ⟨rfl, rfl, rfl, by decide +kernel, rfl, by decide +kernel, by decide +kernel⟩
theorem ok_part {f : Addr} {fd : FuncData} (F : Fun K "read_pair" "read_pair" s_read_pair f fd) (C : Cal P w K mg base 1 "read_figures" ["text"] spFigV) : FnOk P w K mg base CX0 2 f fd ["text"] spPart := by
  refine F.ok scPart (fun vs H Q E h => ?_) (fun cdv A outer s H vs Q E hr h => ?_)
  · obtain ⟨z, rfl, _⟩ := h
    rfl
  · obtain ⟨z, rfl, hz, h64, q⟩ := h
    refine ⟨_, pss_cons (ps_asg (pe_partition (pv 0) pe_str) (pg_tup rfl (pgs_cons (pg_name (i := 1) scPart.nd rfl (Or.inl rfl)) (pgs_cons (pg_name (i := 2) scPart.nd rfl (Or.inl rfl)) (pgs_cons (pg_name (i := 3) scPart.nd rfl (Or.inl rfl)) pgs_nil)))))
      (pss_one (ps_ret (pe_tup (pa_cons (pv 3) (pa_cons (pCal C hr (pa_cons (pv 1) pa_nil)) pa_nil))))), ?_⟩
    refine g_seq (g_asg ?_)
    refine g_var rfl ⟨⟨_, rfl⟩, ?_⟩
    refine ⟨z, " ", rfl, rfl, rfl, hz, fun p hp => ?_⟩
    refine ⟨p, _, rfl, SqT.of upd_same, rfl, _, _, rfl, g_name ⟨_, _, rfl, g_name ⟨_, _, rfl, g_name ⟨rfl, ?_⟩⟩⟩⟩
    refine g_ret (g_tup (g_cons (g_var rfl (g_cons (g_tcall (g_cons (g_var rfl (g_nil ⟨_, rfl, h64, fun H1 s1 => g_nil ⟨(by show 2 ≤ sizeLine; decide), fun b hb => ?_⟩⟩))))))))
    exact q _ b (((sameNew hp).trans s1).trans (sameNew hb)) upd_same
/-- are these pairs, ascending, and behind this name? -/
def ascR : Str → List (Option (Str × Int)) → Bool
  | _, [] => true
  | _, none :: _ => false
  | l, some p :: r => if l.cps.toList < p.1.cps.toList then ascR p.1 r else false
def spAsc (K : PySem.W.Frag) : Sp := fun vs H Q _ => ∃ t xs rs, vs = [.ref t] ∧ SqT K H t xs ∧ Paired (PairK K H) xs rs ∧ xs.length ≤ 1000 ∧ ∀ H', Same H H' → Q (.bl (ascR "" rs)) H'
theorem scAsc : FnScope ["pairs", "last", "pair"] ["pairs"] (defScope s_are_ascending) := ⟨rfl, rfl, rfl, by decide +kernel, rfl, by decide +kernel, by decide +kernel⟩
theorem ok_asc {f : Addr} {fd : FuncData} (F : Fun K "are_ascending" "are_ascending" s_are_ascending f fd) (C : Cal P w K mg base 3 "is_pair" ["value"] (spPair K)) : FnOk P w K mg base CX0 4 f fd ["pairs"] (spAsc K) := by
  refine F.ok scAsc (fun vs H Q E h => ?_) (fun cdv A outer s H vs Q E hr h => ?_)
  · obtain ⟨t, _, _, rfl, _⟩ := h
    rfl
  · obtain ⟨t, xs, rs, rfl, hS, pr, hl, q⟩ := h
    refine ⟨_, pss_cons (ps_set (i := 1) scAsc.nd rfl (Or.inl rfl) pe_str)
      (pss_cons (ps_for PassesOwn.never rfl (pi_tup (pv 0)) (pg_name (i := 2) scAsc.nd rfl (Or.inl rfl))
        (pss_cons (ps_if (PW.pt (pw_or (pt_not (pt_val (pCal C hr (pa_cons (pv 2) pa_nil)))) (pw_or1 (pt_cmpR op_le_str (pe_ix ix_tup (pv 2) pe_int (fun _ _ => rfl)) (pv 1) (nomark _))))) (pss_one (ps_ret pe_bl)) pss_nil)
        (pss_one (ps_set (i := 1) scAsc.nd rfl (Or.inl rfl) (pe_ix ix_tup (pv 2) pe_int (fun _ _ => rfl))))))
      (pss_one (ps_ret pe_bl))), ?_⟩
    have lx : xs.length = rs.length := pr.length
    repeat walk_at "st"
    refine g_for (g_itup (g_var rfl ⟨t, rfl, ⟨xs, hS⟩, ?_⟩))
    refine for_tup (xs := xs) (fun i σ H2 => ∃ v2 l, σ = [some (.ref t), some (.str l), v2] ∧ Same H H2 ∧ ascR l (rs.drop i) = ascR "" rs)
      ⟨none, "", rfl, Same.refl H, rfl⟩ (fun i σ H2 _ ⟨_, _, _, s2, _⟩ => Same.seqT' s2 hS) ?_ ?_
    · rintro i x σ H2 hx ⟨v2, l, rfl, s2, e⟩
      have hi : i < rs.length := by
        have z := (List.getElem?_eq_some_iff.mp hx).1
        omega
      have er : rs.drop i = rs[i] :: rs.drop (i + 1) := List.drop_eq_getElem_cons hi
      have pk : PairK K H x rs[i] := pairedGet pr hx (List.getElem?_eq_getElem hi)
      rw [er] at e
      generalize rs[i] = r at pk e
      refine g_name ?_
      repeat walk_at "st"
      refine ⟨x, r, rfl, pk.same s2, fun H3 e3 => ?_⟩
      have s3 := s2.trans e3
      refine g_bl ?_
      cases r with
      | none =>
        refine iteT (iteT ?_)
        repeat walk_at "st"
        have z := q H3 s3
        rw [← e] at z
        exact z
      | some p =>
        obtain ⟨s, n⟩ := p
        obtain ⟨u, rfl, hq, nb, n1, _⟩ := pk.some'
        refine iteF ?_
        repeat walk_at "st"
        refine g_ixTN (Same.seqT' s3 hq) (atI_nat (j := 0) rfl) ?_
        repeat walk_at "st"
        refine ⟨s, l, rfl, rfl, g_bl ?_⟩
        replace e : (if l.cps.toList < s.cps.toList then ascR s (rs.drop (i + 1)) else false) = ascR "" rs := e
        by_cases c : l.cps.toList < s.cps.toList
        · refine g_iteNF c ?_
          rw [if_pos c] at e
          repeat walk_at "st"
          refine g_ixTN (Same.seqT' s3 hq) (atI_nat (j := 0) rfl) ?_
          exact ⟨_, s, rfl, s3, e⟩
        · refine g_iteNT c ?_
          rw [if_neg c] at e
          repeat walk_at "st"
          have z := q H3 s3
          rw [← e] at z
          exact z
    · rintro σ H2 ⟨v2, l, rfl, s2, e⟩
      dsimp only
      rw [lx, List.drop_length] at e
      refine g_ret (g_c ?_)
      have z := q H2 s2
      rw [← e] at z
      exact z
end
end My
set_option Elab.async false
set_option maxRecDepth 100000
set_option maxHeartbeats 8000000
namespace My
open PySem PySem.Spec PyProof.Rows L2
/-! ### names that are drawn -/
def oneS (c : Nat) : Str := ⟨#[c]⟩
def glue (cs : List Nat) : Str := ⟨cs.toArray⟩
theorem str_ext {s t : Str} (h : s.cps.toList = t.cps.toList) : s = t := by
  obtain ⟨a⟩ := s
  obtain ⟨b⟩ := t
  have e : a = b := by
    have z := congrArg List.toArray h
    simpa using z
  rw [e]
def lwL : List Nat := ("abcdefghijklmnopqrstuvwxyz" : Str).cps.toList
def tlL : List Nat := ("abcdefghijklmnopqrstuvwxyz0123456789" : Str).cps.toList
theorem lwL_len : lwL.length = 26 := by decide +kernel
theorem tlL_len : tlL.length = 36 := by decide +kernel
theorem lwL_nd : lwL.Nodup := by decide +kernel
theorem low_tail : ∀ c ∈ lwL, c ∈ tlL := by decide +kernel
theorem joinL_one : ∀ cs : List Nat, TL.joinL [] (cs.map fun c => [c]) = cs
  | [] => rfl
  | [c] => rfl
  | c :: d :: r => by
    show [c] ++ ([] ++ TL.joinL [] ((d :: r).map fun c => [c])) = _
    rw [joinL_one (d :: r)]
    rfl
theorem join_oneS (cs : List Nat) : Txt.join "" (cs.map oneS) = glue cs := by
  apply str_ext
  have h := TL.tl_join "" (cs.map oneS)
  rw [List.map_map] at h
  rw [TL.join_eq]
  have e : (glue cs).cps.toList = cs := by simp [glue]
  rw [e]
  exact h.trans (joinL_one cs)
theorem glue_len (cs : List Nat) : (glue cs).length = cs.length := by
  show cs.toArray.size = _
  simp
theorem glue_nameB {cs : List Nat} (h1 : 1 ≤ cs.length) (h8 : cs.length ≤ 8) (hh : ∀ c, cs[0]? = some c → c ∈ lwL) (ht : ∀ c ∈ cs, c ∈ tlL) : nameB (glue cs) = true := by
  have e : (glue cs).cps.toList = cs := by simp [glue]
  unfold nameB firstIn allIn
  rw [glue_len, e]
  cases cs with
  | nil => simp at h1
  | cons c r =>
    have z := hh c rfl
    simp only [Bool.and_eq_true, decide_eq_true_eq, List.all_eq_true]
    exact ⟨h1, h8, z, fun x hx => ht x hx⟩
theorem glue_inj {a b : List Nat} (h : glue a = glue b) : a = b := by
  have e : (glue a).cps.toList = (glue b).cps.toList := by rw [h]
  simpa [glue] using e
/-- the sign of the k-th name -/
def signAt (b k : Nat) : Nat := lwL.getD ((b + 7 * k) % 26) 0
theorem signAt_get (b k : Nat) : lwL[(b + 7 * k) % 26]? = some (signAt b k) := by
  have h : (b + 7 * k) % 26 < lwL.length := by
    rw [lwL_len]
    exact Nat.mod_lt _ (by decide)
  unfold signAt
  rw [List.getD_eq_getElem?_getD, List.getElem?_eq_getElem h]
  rfl
theorem signAt_low (b k : Nat) : signAt b k ∈ lwL := List.mem_of_getElem? (signAt_get b k)
theorem signAt_inj {b j k : Nat} (hj : j < 26) (hk : k < 26) (h : signAt b j = signAt b k) : j = k := by
  have e1 := signAt_get b j
  have e2 := signAt_get b k
  rw [h, ← e2] at e1
  have hl : (b + 7 * j) % 26 < lwL.length := by
    rw [lwL_len]
    exact Nat.mod_lt _ (by decide)
  have z := (List.getElem?_inj hl lwL_nd).mp e1
  omega
def tagAt (cs : List Nat) (spot b k : Nat) : Str := glue (cs.set spot (signAt b k))
/-- what the drawn signs of all names are -/
structure Spare (cs : List Nat) (spot : Nat) : Prop where
  pos : spot < cs.length
  few : cs.length ≤ 3
  head : ∀ c, cs[0]? = some c → c ∈ lwL
  all : ∀ c ∈ cs, c ∈ tlL
theorem tagAt_ok {cs : List Nat} {spot : Nat} (S : Spare cs spot) (b k : Nat) : nameB (tagAt cs spot b k) = true ∧ (tagAt cs spot b k).length ≤ 5 := by
  have hp := S.pos
  have hf := S.few
  refine ⟨glue_nameB (by rw [List.length_set]; omega) (by rw [List.length_set]; omega) (fun c h => ?_) fun c h => ?_, ?_⟩
  · rw [List.getElem?_set] at h
    by_cases z : spot = 0
    · rw [if_pos z, if_pos (by omega)] at h
      rw [← Option.some.inj h]
      exact signAt_low b k
    · rw [if_neg z] at h
      exact S.head c h
  · rcases List.mem_or_eq_of_mem_set h with h | h
    · exact S.all c h
    · rw [h]
      exact low_tail _ (signAt_low b k)
  · unfold tagAt
    rw [glue_len, List.length_set]
    omega
theorem tagAt_inj {cs : List Nat} {spot b j k : Nat} (S : Spare cs spot) (hj : j < 26) (hk : k < 26) (h : tagAt cs spot b j = tagAt cs spot b k) : j = k := by
  have e := glue_inj h
  have z : (cs.set spot (signAt b j))[spot]? = (cs.set spot (signAt b k))[spot]? := by rw [e]
  rw [List.getElem?_set_self S.pos, List.getElem?_set_self S.pos] at z
  exact signAt_inj hj hk (Option.some.inj z)
/-- names as they are drawn: different ones, short -/
structure Tags (m : Nat) (L : List Str) : Prop where
  len : L.length = m
  nd : L.Nodup
  ok : ∀ s ∈ L, nameB s = true ∧ s.length ≤ 5
theorem nodup_map_range {α : Type} {f : Nat → α} : ∀ {n : Nat}, (∀ i j, i < n → j < n → f i = f j → i = j) → ((List.range n).map f).Nodup := by
  intro n h
  rw [List.nodup_iff_pairwise_ne, List.pairwise_map]
  refine List.Pairwise.imp_of_mem ?_ (List.nodup_iff_pairwise_ne.mp List.nodup_range)
  intro a b ha hb ne e
  exact ne (h a b (List.mem_range.mp ha) (List.mem_range.mp hb) e)
def tagsL (cs : List Nat) (spot b m : Nat) : List Str := (List.range m).map (tagAt cs spot b)
theorem tagsL_ok {cs : List Nat} {spot b m : Nat} (S : Spare cs spot) (hm : m ≤ 26) : Tags m (tagsL cs spot b m) := by
  refine ⟨by unfold tagsL; rw [List.length_map, List.length_range], nodup_map_range fun i j hi hj e => tagAt_inj S (by omega) (by omega) e, fun s hs => ?_⟩
  obtain ⟨k, _, rfl⟩ := List.mem_map.mp hs
  exact tagAt_ok S b k
def wordsL : List Str := ["and", "sends", "takes"]
def wordAt (b k : Nat) : Str := wordsL.getD ((b + k) % 3) ""
theorem wordAt_get (b k : Nat) : wordsL[(b + k) % 3]? = some (wordAt b k) := by
  have h : (b + k) % 3 < wordsL.length := Nat.mod_lt _ (by decide)
  unfold wordAt
  rw [List.getD_eq_getElem?_getD, List.getElem?_eq_getElem h]
  rfl
theorem wordsL_nd : wordsL.Nodup := by decide +kernel
theorem words_ok : ∀ s ∈ wordsL, nameB s = true ∧ s.length ≤ 5 := by decide +kernel
theorem wordAt_inj {b j k : Nat} (hj : j < 3) (hk : k < 3) (h : wordAt b j = wordAt b k) : j = k := by
  have e1 := wordAt_get b j
  have e2 := wordAt_get b k
  rw [h, ← e2] at e1
  have hl : (b + j) % 3 < wordsL.length := Nat.mod_lt _ (by decide)
  have z := (List.getElem?_inj hl wordsL_nd).mp e1
  omega
theorem words_tags {m b : Nat} {L : List Str} (T : Tags m L) (h : ∀ s ∈ wordsL, s ∉ L.drop 3) : Tags m ((List.range (min 3 m)).map (wordAt b) ++ L.drop 3) := by
  refine ⟨?_, ?_, fun s hs => ?_⟩
  · rw [List.length_append, List.length_map, List.length_range, List.length_drop, T.len]
    omega
  · rw [List.nodup_append]
    refine ⟨nodup_map_range fun i j hi hj e => wordAt_inj (b := b) (by omega) (by omega) e, T.nd.sublist (List.drop_sublist 3 L), fun a ha c hc e => ?_⟩
    obtain ⟨k, _, rfl⟩ := List.mem_map.mp ha
    subst e
    exact h _ (List.mem_of_getElem? (wordAt_get b k)) hc
  · rcases List.mem_append.mp hs with h | h
    · obtain ⟨k, _, rfl⟩ := List.mem_map.mp h
      exact words_ok _ (List.mem_of_getElem? (wordAt_get b k))
    · exact T.ok s (List.mem_of_mem_drop h)
end My
set_option Elab.async false
set_option maxRecDepth 100000
set_option maxHeartbeats 8000000
namespace My
open PySem PySem.Spec PyProof.Rows L2
local macro_rules | `(tactic| walk_at "cond") => `(tactic| first
  | exact Or.inr ⟨by decide, by decide⟩ | exact Or.inl ⟨by decide, by decide⟩ | exact ⟨by decide, by decide, by decide⟩ | exact ⟨by decide, by decide⟩
  | (refine Or.inl ⟨?_, ?_⟩ <;> omega) | (refine Or.inr ⟨?_, ?_⟩ <;> omega)
  | (show (0 : Int) < _; omega))
local macro_rules | `(tactic| walk_at "mem") => `(tactic| first | exact List.Mem.head _ | exact List.Mem.tail _ (List.Mem.head _) | exact Put.head | (refine List.Mem.tail _ ?_; walk_at "mem") | (apply Put.tail; walk_at "mem"))
local macro_rules | `(tactic| walk_at "st") => `(tactic| first
  | with_reducible refine g_seq ?_ | with_reducible refine g_asg ?_ | with_reducible refine g_name ?_ | ((with_reducible show tVar _ _ _ _); refine g_var rfl ?_) | with_reducible refine g_c ?_
  | with_reducible refine g_op ?_ | with_reducible refine g_test ?_ | with_reducible refine g_bl ?_
  | with_reducible refine g_cb ?_ | with_reducible refine g_cons ?_ | with_reducible refine g_nil ?_ | with_reducible refine g_tif ?_ | with_reducible refine g_ifs ?_ | with_reducible refine g_ret ?_
  | with_reducible refine g_drop ?_ | with_reducible refine g_next ?_
  | with_reducible refine g_i0 ?_ | ((with_reducible show rI _ _ _ _ _ _); refine g_i (by walk_at "cond") ?_) | with_reducible refine g_int ?_ | with_reducible refine g_abs ?_ | with_reducible refine g_or ?_
  | with_reducible refine g_and ?_ | with_reducible refine g_not ?_ | with_reducible refine g_lst ?_ | with_reducible refine g_tup ?_
  | with_reducible refine iteT ?_ | with_reducible refine iteF ?_ | with_reducible refine g_par ?_ | with_reducible refine g_two ?_ | with_reducible refine g_sub ?_
  | ((with_reducible show rIxL _ (V.ref _) (V.int _) _ _); refine g_ixM (by assumption) (by walk_at "mem") rfl rfl ?_)
  | ((with_reducible show rSetL (V.ref _) (V.int _) _ _ _); refine g_setM (by assumption) rfl (by walk_at "mem") fun _ _ => ?_)
  | with_reducible refine g_xmk ?_ | with_reducible refine g_xmkK ?_
  | ((with_reducible show XNew _ (spI1 _ _) _ _ _); refine g_x1 (by assumption) fun _ _ _ _ => ?_)
  | ((with_reducible show XNewK _ _ (spI1 _ _) _ _ _ _); refine g_x1k (by assumption) fun _ _ _ _ => ?_)
  | ((with_reducible show XNew _ (spI3 _ _ _ _) _ _ _); refine g_x3 (by assumption) fun _ _ _ _ => ?_)
  | ((with_reducible show tXmk0 _ _ _ _); refine g_xmk0 (by assumption) fun _ _ _ => ?_)
  | ((with_reducible show NewO _ _ _ _); refine g_newo (by assumption) (by first | decide | simp) fun _ _ _ _ => ?_)
  | ((with_reducible show rCat (V.ref _) (V.ref _) _ _); refine g_cat (by assumption) (by walk_at "mem") (by walk_at "mem") (by first | decide | simp) fun _ _ _ _ => ?_))
local macro_rules | `(tactic| walk_at "st") => `(tactic| first | with_reducible refine g_tcall ?_ | with_reducible refine g_tb ?_ | with_reducible refine g_andV ?_ | with_reducible refine g_notV ?_ | with_reducible refine g_chain ?_ | with_reducible refine g_un ?_ | with_reducible refine g_rU ?_)
/-- a source of numbers at p, wherever it is -/
def Src (p : Addr) (H : Hp) : Prop := ∃ A S c, SrcAt H p A S c
theorem Src.lst {p : Addr} {H : Hp} (s : Src p H) : ∃ xs, H p = some (.lst xs) := let ⟨_, _, _, h⟩ := s; ⟨_, h.at_⟩
theorem Src.some {p : Addr} {H : Hp} (s : Src p H) : H p ≠ none := fun z => by
  obtain ⟨xs, h⟩ := s.lst
  rw [z] at h
  cases h
theorem Src.of {p : Addr} {H H' : Hp} (s : Src p H) (e : H' p = H p) : Src p H' := by
  obtain ⟨A, S, c, h⟩ := s
  exact ⟨A, S, c, by rw [e]; exact h.at_, h.a0, h.s0, h.s1, h.c0⟩
theorem Src.same {p : Addr} {H H' : Hp} (s : Src p H) (e : Same H H') : Src p H' := by
  obtain ⟨A, S, c, h⟩ := s
  exact ⟨A, S, c, e _ _ h.at_, h.a0, h.s0, h.s1, h.c0⟩
theorem Src.keep {p : Addr} {H H' : Hp} (s : Src p H) (o : Off [p] H H') : Keep H H' := let ⟨_, h⟩ := s.lst; keepOff o.offp h
theorem pull_of {p : Addr} {H : Hp} {Q : VK} {E : XK} {w : Int} (s : Src p H) (w0 : 0 < w) (w1 : w.natAbs.log2 < 9000) (k : ∀ (d : Nat) (H' : Hp), (d : Int) < w → Off [p] H H' → Src p H' → Q (.int d) H') : spPull [.ref p, .int w] H Q E := by
  obtain ⟨A, S, c, h⟩ := s
  refine ⟨p, w, A, S, c, rfl, w0, w1, h, fun d A' S' c' H' d0 d1 hs sr => ?_⟩
  have e : d = ((d.toNat : Nat) : Int) := by omega
  rw [e]
  exact k d.toNat H' (by omega) (Off.one hs.offp) ⟨A', S', c', sr⟩
theorem pull_J (p : Addr) : ∀ H H' : Hp, (∀ m ∈ [p], H' m = H m) → Src p H → Src p H' := fun _ _ e s => s.of (e p List.mem_cons_self)
theorem src_ms {p : Addr} {H : Hp} (s : Src p H) : ∀ m ∈ [p], H m ≠ none := fun m hm => by
  rw [List.mem_singleton.mp hm]
  exact s.some
/-- a comprehension over a range, from its numbers on -/
theorem g_lrng {ta : TA} {g : TG} {tt : TT} {te : TE} {vs : List Nat} {σ : L2.St} {H : Hp} {Q : VK} (h : ta σ H fun us H1 => ∃ j : Int, us = [.int j] ∧ -(2 ^ 62) ≤ j ∧ j < 2 ^ 62 ∧ ∀ D, H1 D = none → ∃ W : Nat → Nat → Hp → Prop, (∃ m, W 0 m (upd H1 D (.lst []))) ∧ ∀ i m H, W i m H →
      ((Itr 0 j.toNat).stop i H ∧ Q (.ref D) H) ∨ ((Itr 0 j.toNat).go i H ∧ ∃ Nx : Hp → Prop, (∀ H', Nx H' → ∃ m', m' < m ∧ W (i + 1) m' H') ∧ ∀ x H', (Itr 0 j.toNat).yld i H x H' → g x (wipe σ vs) H' fun σ2 H2 => wipe σ2 vs = wipe σ vs ∧ tt σ2 H2 fun b H3 =>
        if b = true then te σ2 H3 fun y H4 => ∃ acc, H4 D = some (.lst acc) ∧ acc.length < sizeLine ∧ Nx (upd H4 D (.lst (acc ++ [y]))) else Nx H3)) : tLc (iRng1 ta) g tt te vs σ H Q := h
structure BltT (mg : Str → Option Value) : Prop where
  range : mg "range" = none
  len : mg "len" = none
  list : mg "list" = none
  int : mg "int" = none
  any : mg "any" = none
  min : mg "min" = none
theorem g_lclist {K : PySem.W.Frag} {σ : L2.St} {H : Hp} {Q : VK} {tl : TE} {g : TG} {tt : TT} {te : TE} {vs : List Nat} (h : tl σ H fun x H1 => ∃ a, x = .ref a ∧ (∃ xs, SqL K H1 a xs) ∧ ∀ D, H1 D = none → ∃ W : Nat → Nat → Hp → Prop, (∃ m, W 0 m (upd H1 D (.lst []))) ∧ ∀ i m H, W i m H →
      ((Itl K a).stop i H ∧ Q (.ref D) H) ∨ ((Itl K a).go i H ∧ ∃ Nx : Hp → Prop, (∀ H', Nx H' → ∃ m', m' < m ∧ W (i + 1) m' H') ∧ ∀ x H', (Itl K a).yld i H x H' → g x (wipe σ vs) H' fun σ2 H2 => wipe σ2 vs = wipe σ vs ∧ tt σ2 H2 fun b H3 =>
        if b = true then te σ2 H3 fun y H4 => ∃ acc, H4 D = some (.lst acc) ∧ acc.length < sizeLine ∧ Nx (upd H4 D (.lst (acc ++ [y]))) else Nx H3)) : tLc (iList K tl) g tt te vs σ H Q := h
theorem g_irng {ta : TA} {σ : L2.St} {H : Hp} {R : It → Hp → Prop} (h : ta σ H fun vs H1 => ∃ j : Int, vs = [.int j] ∧ -(2 ^ 62) ≤ j ∧ j < 2 ^ 62 ∧ R (Itr 0 j.toNat) H1) : iRng1 ta σ H R := h
theorem ixN_nat {n j : Nat} (h : j < n) : ixN n (j : Int) = some j := by
  unfold ixN
  rw [if_pos (by omega), if_pos (by omega)]
  simp
theorem cutV_from (xs : List V) (n : Nat) : cutV xs (some (n : Int)) none = xs.drop n := by
  unfold cutV
  rw [HT.sIx_none, HT.sIx_nat]
  by_cases h : n ≤ xs.length
  · rw [Nat.min_eq_left h]
    exact List.take_of_length_le (by rw [List.length_drop]; exact Nat.le_refl _)
  · rw [Nat.min_eq_right (by omega), List.drop_length, List.drop_eq_nil_of_le (by omega)]
    simp
theorem ix_sign {H : Hp} {Q : VK} {z : Str} {l : List Nat} {j : Nat} {c : Nat} (e : z.cps.toList = l) (hz : z.length ≤ sizeLine) (h : l[j]? = some c) (q : Q (.str (oneS c)) H) : rIxS (.str z) (.int (j : Nat)) H Q :=
  ⟨z, _, c, rfl, rfl, hz, by rw [e]; exact atI_nat h, q⟩
theorem small_len : ("abcdefghijklmnopqrstuvwxyz" : Str).length ≤ sizeLine := by decide +kernel
theorem tail_len : ("abcdefghijklmnopqrstuvwxyz0123456789" : Str).length ≤ sizeLine := by decide +kernel
theorem offNew {p D : Addr} {H : Hp} {o : HO} (h : H D = none) : Off [p] H (upd H D o) := Off.of (sameNew h)
theorem g_sum1 : ∀ cs : List Nat, ((cs.map oneS).map (·.length)).sum = cs.length
  | [] => rfl
  | c :: cs => by
    rw [List.map_cons, List.map_cons, List.sum_cons, g_sum1 cs, List.length_cons]
    show 1 + cs.length = _
    omega
theorem g_tyE {K : PySem.W.Frag} {p : Addr} {xs : List V} {H : Hp} {R : Prop} (e : H p = some (.lst xs)) (h : R) : tyV K "list" (.ref p) H ∧ R := ⟨Or.inl ⟨rfl, _, SqL.of e⟩, h⟩
theorem offBack {ms : List Addr} {H H' : Hp} {D : Addr} (o : Off ms H H') (h : H' D = none) (n : D ∉ ms) : H D = none := by
  cases z : H D with
  | none => rfl
  | some u =>
    rw [o _ _ z n] at h
    cases h
theorem g_sl {σ : L2.St} {H : Hp} {Q : VK} {r : V → Option Int → Option Int → Hp → VK → Prop} {te : TE} {tl th : TO} (h : te σ H fun x H1 => tl σ H1 fun l H2 => th σ H2 fun u H3 => r x l u H3 Q) : tSl r te tl th σ H Q := h
def txts (L : List Str) : HO := .lst (L.map V.str)
section
variable {P : Program} {w : World} {K : PySem.W.Frag} {mg : Str → Option Value} {base : Heap}
def spTags : Sp := fun vs H Q _ => ∃ (p : Addr) (m : Nat), vs = [.ref p, .int m] ∧ 1 ≤ m ∧ m ≤ 26 ∧ Src p H ∧ ∀ H' q L, Tags m L → Off [p] H H' → Src p H' → H q = none → H' q = some (.lst (L.map V.str)) → Q (.ref q) H'
abbrev NT : List Str := ["_law_source_here", "_law_many", "_law_small", "_law_tail", "_law_k", "_law_spare", "_law_spot", "_law_begin", "_law_found", "_law_own", "_law_words", "_law_others", "_law_word"]
theorem scTags : FnScope NT ["_law_source_here", "_law_many"] (defScope s__law_tags) := ⟨rfl, rfl, rfl, by decide +kernel, rfl, by decide +kernel, by decide +kernel⟩
theorem ok_tags {f : Addr} {fd : FuncData} (F : Fun K "_law_tags" "_law_tags" s__law_tags f fd) (T : BltT mg) (C : Cal P w K mg base 1 "_law_pull" ["_law_source_here", "_law_width"] spPull) : FnOk P w K mg base CX0 2 f fd ["_law_source_here", "_law_many"] spTags := by
  refine F.ok scTags (fun vs H Q E h => ?_) (fun cdv A outer s H vs Q E hr h => ?_)
  · obtain ⟨p, m, rfl, _⟩ := h
    rfl
  · obtain ⟨p, m, rfl, m1, m26, sr, q⟩ := h
    refine ⟨_, pss_cons (ps_asg (pe_tup (pa_cons pe_str (pa_cons pe_str pa_nil))) (pg_tup rfl (pgs_cons (pg_name (i := 2) scTags.nd rfl (Or.inl rfl)) (pgs_cons (pg_name (i := 3) scTags.nd rfl (Or.inr rfl)) pgs_nil))))
      (pss_cons (ps_set (i := 5) scTags.nd rfl (Or.inl rfl) (pe_op op_cat (pe_lst (pa_cons (pe_ix ix_str (pv 2) (pCal C hr (pa_cons (pv 0) (pa_cons pe_int pa_nil))) (fun _ _ => rfl)) pa_nil))
        (pe_lc (te := tOp rIxS (tVar 3) (tCall spPull [] E0 (tCons (tVar 0) (tCons (tC (.int 36)) tNil)))) (own := [("_law_k", 4)]) (g := gName 4) rfl scTags.nd (pi_range1 rfl T.range (pa_cons (pCal C hr (pa_cons (pv 0) (pa_cons pe_int pa_nil))) pa_nil))
          (blkOk_by (own := [("_law_k", 4)]) (N := NT) (sc := defScope s__law_tags) (by decide +kernel)) (fun _ _ _ _ _ => pg_name (i := 4) scTags.nd rfl (Or.inl rfl)) (fun _ _ _ _ _ => pts_nil)
          (fun _ _ _ _ _ => pe_ix ix_str (pv 3) (pCal C hr (pa_cons (pv 0) (pa_cons pe_int pa_nil))) (fun _ _ => rfl)))))
      (pss_cons (ps_asg (pe_tup (pa_cons (pCal C hr (pa_cons (pv 0) (pa_cons (pLen T.len (pv 5)) pa_nil))) (pa_cons (pCal C hr (pa_cons (pv 0) (pa_cons pe_int pa_nil))) (pa_cons (pe_lst pa_nil) pa_nil))))
        (pg_tup rfl (pgs_cons (pg_name (i := 6) scTags.nd rfl (Or.inl rfl)) (pgs_cons (pg_name (i := 7) scTags.nd rfl (Or.inr rfl)) (pgs_cons (pg_name (i := 8) scTags.nd rfl (Or.inl rfl)) pgs_nil)))))
      (pss_cons (ps_for PassesOwn.never rfl (pi_range1 rfl T.range (pa_cons (pv 1) pa_nil)) (pg_name (i := 4) scTags.nd rfl (Or.inl rfl))
        (pss_cons (ps_set (i := 9) scTags.nd rfl (Or.inl rfl) (pe_callTy call_list_of (by rfl) T.list PyProof.Rows.boot_list (pa_cons (pv 5) pa_nil)))
        (pss_cons (ps_asg (pe_ix ix_str (pv 2) (pe_op op_mod (pInt T.int (pe_op op_add (pv 7) (pe_op op_mul pe_int (pv 4)))) pe_int) (fun _ _ => rfl)) (pg_sub (pv 9) (pv 6) set_list))
        (pss_one (ps_expr (pe_bm PySem.F.plainAttrs_list PySem.F.slot_list_append PySem.F.type_list_append mt_append (pv 8) (pa_cons (pe_join pe_str (pv 9)) pa_nil)))))))
      (pss_cons (ps_asg (pe_tup (pa_cons (pe_lst (pa_cons pe_str (pa_cons pe_str (pa_cons pe_str pa_nil)))) (pa_cons (pe_slice sl_list (pv 8) (po_some pe_int) po_none) pa_nil))) (pg_tup rfl (pgs_cons (pg_name (i := 10) scTags.nd rfl (Or.inr rfl)) (pgs_cons (pg_name (i := 11) scTags.nd rfl (Or.inr rfl)) pgs_nil))))
      (C8.pss_cut (ps_if (PW.pt (pw_and (pt_cmpR op_eq (pCal C hr (pa_cons (pv 0) (pa_cons pe_int pa_nil))) pe_int (nomark _)) (pw_and1 (pt_not (pt_val (pe_callB (cr_any rfl) (by rfl) T.any (by decide +kernel) (pa_cons (pe_lc (te := tOp (rIn K false) (tVar 12) (tVar 11)) (own := [("_law_word", 12)]) (g := gName 12) rfl scTags.nd (pi_list (pv 10))
          (blkOk_by (own := [("_law_word", 12)]) (N := NT) (sc := defScope s__law_tags) (by decide +kernel)) (fun _ _ _ _ _ => pg_name (i := 12) scTags.nd rfl (Or.inl rfl)) (fun _ _ _ _ _ => pts_nil)
          (fun _ _ _ _ _ => pe_cmpR op_in_seq (pv 12) (pv 11) (by rfl))) pa_nil)))))))
        (pss_one (ps_set (i := 8) scTags.nd rfl (Or.inl rfl) (pe_op op_cat (pe_lc (te := tOp (rIxL K) (tVar 10) (tOp (rI (fun _ j => 0 < j) fun i j => .int (i % j)) (tCB rInt (tCons (tOp (rI0 fun i j => .int (i + j)) (tVar 7) (tVar 4)) tNil)) (tC (.int 3)))) (own := [("_law_k", 4)]) (g := gName 4) rfl scTags.nd
          (pi_range1 rfl T.range (pa_cons (pe_callB (r := rMin2) (call_min2 rfl) (by rfl) T.min PyProof.Rows.boot_min (pa_cons pe_int (pa_cons (pv 1) pa_nil))) pa_nil))
          (blkOk_by (own := [("_law_k", 4)]) (N := NT) (sc := defScope s__law_tags) (by decide +kernel)) (fun _ _ _ _ _ => pg_name (i := 4) scTags.nd rfl (Or.inl rfl)) (fun _ _ _ _ _ => pts_nil)
          (fun _ _ _ _ _ => pe_ix ix_list (pv 10) (pe_op op_mod (pInt T.int (pe_op op_add (pv 7) (pv 4))) pe_int) (fun _ _ => rfl))) (pv 11)))) pss_nil)
      (pss_one (ps_ret (pv 8)))))))), ?_⟩
    refine g_seq (g_asg (g_tup (g_cons (g_c (g_cons (g_c (g_nil ⟨(by show 2 ≤ sizeLine; decide), fun T0 hT0 => ?_⟩)))))))
    have o1 : Off [p] H (upd H T0 (.tup [.str "abcdefghijklmnopqrstuvwxyz", .str "abcdefghijklmnopqrstuvwxyz0123456789"])) := offNew hT0
    have s1 : Src p (upd H T0 (.tup [.str "abcdefghijklmnopqrstuvwxyz", .str "abcdefghijklmnopqrstuvwxyz0123456789"])) := sr.same (sameNew hT0)
    refine ⟨T0, _, rfl, SqT.of upd_same, rfl, _, _, rfl, g_name ⟨_, _, rfl, g_name ⟨rfl, ?_⟩⟩⟩
    generalize upd H T0 (.tup [.str "abcdefghijklmnopqrstuvwxyz", .str "abcdefghijklmnopqrstuvwxyz0123456789"]) = H1 at o1 s1
    -- the signs that all names share
    refine g_seq <| g_asg <| g_op <| g_lst <| g_cons <| g_op <| g_var rfl <| g_tcall <| g_cons <| g_var rfl <| g_cons <| g_c <| g_nil ?_
    refine pull_of s1 (by decide) (by decide) fun d0 H2 hd0 o2 s2 => ?_
    obtain ⟨c0, hc0⟩ : ∃ c0, lwL[d0]? = some c0 := ⟨lwL[d0]'(by rw [lwL_len]; omega), List.getElem?_eq_getElem _⟩
    refine ix_sign rfl small_len hc0 (g_nil ⟨(by show 1 ≤ sizeLine; decide), fun D1 hD1 => ?_⟩)
    have o3 : Off [p] H2 (upd H2 D1 (.lst [.str (oneS c0)])) := offNew hD1
    have s3 : Src p (upd H2 D1 (.lst [.str (oneS c0)])) := s2.same (sameNew hD1)
    have e3 : upd H2 D1 (.lst [.str (oneS c0)]) D1 = some (.lst [.str (oneS c0)]) := upd_same
    have n1 : D1 ∉ [p] := fun z => s2.some (by rw [← List.mem_singleton.mp z]; exact hD1)
    generalize upd H2 D1 (.lst [.str (oneS c0)]) = H3 at o3 s3 e3
    refine g_lrng <| g_cons <| g_tcall <| g_cons <| g_var rfl <| g_cons <| g_c <| g_nil ?_
    refine pull_of s3 (by decide) (by decide) fun n H4 hn o4 s4 => g_nil ⟨(n : Int), rfl, by omega, by omega, fun D hD => ?_⟩
    have e4 := o4 _ _ e3 n1
    refine lcW (walk_range (lo := 0) (n := n)) (fun _ v c => v = V.str (oneS c)) (fun _ _ _ _ _ h => h) (fun i l => l.length = i ∧ ∀ c ∈ l, c ∈ tlL) ⟨rfl, fun _ z => nomatch z⟩ [p] (Src p) (pull_J p) (src_ms s4) s4 hD (by omega) (fun _ _ _ => True.intro) ?_ ?_
    · rintro i x H5 H5' l hi o5 s5 ⟨l1, l2⟩ ⟨rfl, rfl⟩ KT KF kt kf
      refine g_name ⟨wipe1 _ 4 _, ?_⟩
      unfold tYes
      refine iteT <| g_op <| g_var rfl <| g_tcall <| g_cons <| g_var rfl <| g_cons <| g_c <| g_nil ?_
      refine pull_of s5 (by decide) (by decide) fun d H6 hd o6 s6 => ?_
      obtain ⟨c, hc⟩ : ∃ c, tlL[d]? = some c := ⟨tlL[d]'(by rw [tlL_len]; omega), List.getElem?_eq_getElem _⟩
      refine ix_sign rfl tail_len hc (kt _ _ c o6 (s5.keep o6) s6 ⟨by rw [List.length_append, l1]; rfl, fun x hx => ?_⟩ rfl)
      rcases List.mem_append.mp hx with hx | hx
      · exact l2 x hx
      · rw [List.mem_singleton.mp hx]
        exact List.mem_of_getElem? hc
    rintro H5 acc l o5 s5 d5 pr ⟨l1, l2⟩
    have ea := pairedEq pr
    subst ea
    have e5 := o5 _ _ e4 n1
    refine ⟨D1, D, _, _, rfl, rfl, e5, d5, ?_, fun D2 hD2 => ?_⟩
    · rw [List.length_map, l1]
      show 1 + n ≤ sizeLine
      exact Nat.le_trans (show 1 + n ≤ 1000 by omega) (by decide)
    have ecs : [V.str (oneS c0)] ++ l.map (fun c => V.str (oneS c)) = (c0 :: l).map fun c => V.str (oneS c) := rfl
    rw [ecs]
    have hcs : (c0 :: l).length = n + 1 := by rw [List.length_cons, l1]
    have hall : ∀ c ∈ c0 :: l, c ∈ tlL := fun c hc => by
      rcases List.mem_cons.mp hc with rfl | hc
      · exact low_tail _ (List.mem_of_getElem? hc0)
      · exact l2 c hc
    have hhead : ∀ c, (c0 :: l)[0]? = some c → c ∈ lwL := fun c hc => by
      cases hc
      exact List.mem_of_getElem? hc0
    generalize c0 :: l = cs at hcs hall hhead
    have o6 : Off [p] H5 (upd H5 D2 (.lst (cs.map fun c => V.str (oneS c)))) := offNew hD2
    have s6 : Src p (upd H5 D2 (.lst (cs.map fun c => V.str (oneS c)))) := s5.same (sameNew hD2)
    have e6 : upd H5 D2 (.lst (cs.map fun c => V.str (oneS c))) D2 = some (.lst (cs.map fun c => V.str (oneS c))) := upd_same
    have n2 : D2 ∉ [p] := fun z => s5.some (by rw [← List.mem_singleton.mp z]; exact hD2)
    generalize upd H5 D2 (.lst (cs.map fun c => V.str (oneS c))) = H6 at o6 s6 e6
    have q6 : Off [p] H H6 := ((((o1.trans o2).trans o3).trans o4).trans o5).trans o6
    clear o1 o2 o3 o4 o5 o6 e3 e4 e5 d5
    -- the place, the beginning
    refine g_name <| g_seq <| g_asg <| g_tup <| g_cons <| g_tcall <| g_cons <| g_var rfl <| g_cons <| g_cb <| g_cons <| g_var rfl <| g_nil <| g_len (.inl (SqL.of e6)) <| g_nil ?_
    rw [List.length_map, hcs]
    refine pull_of s6 (by omega) ?_ fun spot H7 hs o7 s7 => g_cons <| g_tcall <| g_cons <| g_var rfl <| g_cons <| g_c <| g_nil ?_
    · have hn4 : n + 1 ≤ 3 := by omega
      have z : (((n + 1 : Nat) : Int)).natAbs = n + 1 := rfl
      rw [z]
      exact Nat.lt_of_le_of_lt (Nat.log2_le_self _) (by omega)
    refine pull_of s7 (by decide) (by decide) fun b H8 hb o8 s8 => g_cons <| g_lst <| g_nil ⟨(by show 0 ≤ sizeLine; decide), fun D3 hD3 => g_nil ⟨(by show 3 ≤ sizeLine; decide), fun T3 hT3 => ?_⟩⟩
    have S : Spare cs spot := ⟨by omega, by omega, hhead, hall⟩
    have e7 := o7 _ _ e6 n2
    have e8 := o8 _ _ e7 n2
    have n3 : D3 ∉ [p] := fun z => s8.some (by rw [← List.mem_singleton.mp z]; exact hD3)
    have h3 : H D3 = none := offBack ((q6.trans o7).trans o8) hD3 n3
    have x1 : Same H8 (upd H8 D3 (.lst [])) := sameNew hD3
    have e9 : upd H8 D3 (.lst []) D3 = some (.lst []) := upd_same
    have n32 : D3 ≠ D2 := fun z => by
      rw [z, e8] at hD3
      cases hD3
    generalize upd H8 D3 (.lst []) = H9 at x1 e9 hT3
    have x2 : Same H9 (upd H9 T3 (.tup [.int spot, .int b, .ref D3])) := sameNew hT3
    refine ⟨T3, _, rfl, SqT.of upd_same, rfl, _, _, rfl, g_name ⟨_, _, rfl, g_name ⟨_, _, rfl, g_name ⟨rfl, ?_⟩⟩⟩⟩
    generalize upd H9 T3 (.tup [.int spot, .int b, .ref D3]) = H10 at x2
    have q10 : Off [p] H H10 := ((q6.trans o7).trans o8).trans (Off.of (x1.trans x2))
    have s10 : Src p H10 := s8.same (x1.trans x2)
    have e10 : H10 D2 = some (.lst (cs.map fun c => V.str (oneS c))) := (x1.trans x2) _ _ e8
    have f10 : H10 D3 = some (txts []) := x2 _ _ e9
    clear x1 x2 e9 e8 e7 o7 o8 e6
    -- the names, one by one
    have lm : ((m : Int)).toNat = m := rfl
    refine g_seq <| g_for <| g_irng <| g_cons <| g_var rfl <| g_nil ⟨(m : Int), rfl, by omega, by omega, ?_⟩
    rw [lm]
    refine for_it (walk_range (lo := 0) (n := m)) (fun i σ H' => ∃ v4 v9, σ = [some (.ref p), some (.int m), some (.str "abcdefghijklmnopqrstuvwxyz"), some (.str "abcdefghijklmnopqrstuvwxyz0123456789"), v4, some (.ref D2), some (.int spot), some (.int b), some (.ref D3), v9, none, none, none] ∧ Off [p] H H' ∧ Src p H' ∧ H' D2 = some (.lst (cs.map fun c => V.str (oneS c))) ∧ H' D3 = some (txts (tagsL cs spot b i)))
      ⟨none, none, rfl, q10, s10, e10, f10⟩ (fun _ _ _ _ _ => True.intro) ?_ ?_
    · rintro i x σ H11 H11' hi ⟨v4, v9, rfl, q11, s11, e11, f11⟩ ⟨rfl, rfl⟩
      refine g_name <| g_seq <| g_asg <| g_cb <| g_cons <| g_var rfl <| g_nil ⟨D2, _, rfl, .inl (SqL.of e11), fun D9 hD9 => ?_⟩
      have x1 := sameNew (o := .lst (cs.map fun c => V.str (oneS c))) hD9
      have e12 : upd H11' D9 (.lst (cs.map fun c => V.str (oneS c))) D9 = some (.lst (cs.map fun c => V.str (oneS c))) := upd_same
      have n9 : D9 ≠ D3 := fun z => by
        rw [z, f11] at hD9
        cases hD9
      have n92 : D9 ≠ D2 := fun z => by
        rw [z, e11] at hD9
        cases hD9
      have n9p : D9 ≠ p := fun z => s11.some (by rw [← z]; exact hD9)
      generalize upd H11' D9 (.lst (cs.map fun c => V.str (oneS c))) = H12 at x1 e12
      refine g_name <| g_seq <| g_asg <| g_op <| g_var rfl <| g_op <| g_cb <| g_cons <| g_op <| g_var rfl <| g_op <| g_c <| g_var rfl ?_
      refine g_i (.inl ⟨by decide, by decide⟩) <| g_i0 <| g_nil <| g_int <| g_c <| g_i (by show (0 : Int) < 26; decide) ?_
      have ez : ((b : Int) + 7 * (0 + (i : Nat))) % 26 = (((b + 7 * i) % 26 : Nat) : Int) := by omega
      rw [ez]
      refine ix_sign rfl small_len (signAt_get b i) <| g_sub <| g_var rfl <| g_var rfl ?_
      have hsp : spot < (cs.map fun c => V.str (oneS c)).length := by
        rw [List.length_map]
        exact S.pos
      refine ⟨D9, _, _, spot, rfl, rfl, e12, ixN_nat hsp, ?_⟩
      have ey : (cs.map fun c => V.str (oneS c)).set spot (.str (oneS (signAt b i))) = ((cs.set spot (signAt b i)).map oneS).map V.str := by
        rw [List.map_map, List.map_set]
        rfl
      rw [ey]
      have e13 : upd H12 D9 (.lst (((cs.set spot (signAt b i)).map oneS).map V.str)) D9 = some (.lst (((cs.set spot (signAt b i)).map oneS).map V.str)) := upd_same
      have x13 : ∀ b' o, H12 b' = some o → b' ≠ D9 → upd H12 D9 (.lst (((cs.set spot (signAt b i)).map oneS).map V.str)) b' = some o := fun b' o h n => by
        rw [upd_ne n]
        exact h
      generalize upd H12 D9 (.lst (((cs.set spot (signAt b i)).map oneS).map V.str)) = H13 at e13 x13
      have f13 : H13 D3 = some (txts (tagsL cs spot b i)) := x13 _ _ (x1 _ _ f11) n9.symm
      refine g_drop <| g_bm2 <| g_var rfl <| g_tyE f13 <| g_cons ?_
      refine ⟨⟨_, rfl⟩, ?_⟩
      refine ⟨.ref D9, rfl, "", D9, _, rfl, rfl, .inl (SqL.of e13), ?_, ?_⟩
      · have hl := S.few
        have z := g_sum1 (cs.set spot (signAt b i))
        rw [z, List.length_map, List.length_set]
        show cs.length + cs.length * ("" : Str).length ≤ 16777216
        have e0 : ("" : Str).length = 0 := rfl
        rw [e0]
        omega
      rw [join_oneS]
      refine g_nil ⟨D3, _, _, rfl, rfl, f13, ?_, ?_⟩
      · rw [List.length_map]
        unfold tagsL
        rw [List.length_map, List.length_range]
        exact small1000 (by omega)
      have ef : ((tagsL cs spot b i).map V.str) ++ [V.str (glue (cs.set spot (signAt b i)))] = (tagsL cs spot b (i + 1)).map V.str := by
        unfold tagsL
        rw [List.range_succ, List.map_append, List.map_append]
        rfl
      rw [ef]
      refine ⟨_, _, rfl, fun b' o h n => ?_, ?_, ?_, upd_same⟩
      · have y := q11 b' o h n
        have n3' : b' ≠ D3 := fun z => by
          rw [z, h3] at h
          cases h
        have n9' : b' ≠ D9 := fun z => by
          rw [z, hD9] at y
          cases y
        rw [upd_ne n3']
        exact x13 _ _ (x1 _ _ y) n9'
      · obtain ⟨A', S', c', hs'⟩ := s11
        refine ⟨A', S', c', ?_, hs'.a0, hs'.s0, hs'.s1, hs'.c0⟩
        rw [upd_ne (fun z => n3 (by rw [← z]; exact List.mem_cons_self))]
        exact x13 _ _ (x1 _ _ hs'.at_) n9p.symm
      · rw [upd_ne n32.symm]
        exact x13 _ _ (x1 _ _ e11) n92.symm
    rintro σ H11 ⟨v4, v9, rfl, q11, s11, e11, f11⟩
    have TT := tagsL_ok (b := b) (m := m) S m26
    generalize tagsL cs spot b m = L at f11 TT
    clear e11 e10 f10 s10 q10 hall hhead hcs hc0
    dsimp only
    refine g_seq <| g_asg <| g_tup <| g_cons <| g_lst <| g_cons <| g_c <| g_cons <| g_c <| g_cons <| g_c <| g_nil ⟨(by show 3 ≤ sizeLine; decide), fun D10 hD10 => g_cons <| g_sl <| g_var rfl ?_⟩
    have x1 : Same H11 (upd H11 D10 (txts wordsL)) := sameNew hD10
    have e12 : upd H11 D10 (txts wordsL) D10 = some (txts wordsL) := upd_same
    have ew : upd H11 D10 (.lst [.str "and", .str "sends", .str "takes"]) = upd H11 D10 (txts wordsL) := rfl
    rw [ew]
    generalize upd H11 D10 (txts wordsL) = H12 at x1 e12
    have f12 := x1 _ _ f11
    refine ⟨3, rfl, D3, _, rfl, SqL.of f12, fun D11 hD11 => ?_⟩
    have ec : cutV (L.map V.str) (some 3) none = (L.drop 3).map V.str := by
      rw [List.map_drop]
      exact cutV_from (L.map V.str) 3
    rw [ec]
    have x2 : Same H12 (upd H12 D11 (txts (L.drop 3))) := sameNew hD11
    have e13 : upd H12 D11 (txts (L.drop 3)) D11 = some (txts (L.drop 3)) := upd_same
    have ew2 : upd H12 D11 (.lst ((L.drop 3).map V.str)) = upd H12 D11 (txts (L.drop 3)) := rfl
    rw [ew2]
    generalize upd H12 D11 (txts (L.drop 3)) = H13 at x2 e13
    refine g_nil ⟨(by show 2 ≤ sizeLine; decide), fun T4 hT4 => ?_⟩
    have x3 : Same H13 (upd H13 T4 (.tup [.ref D10, .ref D11])) := sameNew hT4
    refine ⟨T4, _, rfl, SqT.of upd_same, rfl, _, _, rfl, g_name ⟨_, _, rfl, g_name ⟨rfl, ?_⟩⟩⟩
    generalize upd H13 T4 (.tup [.ref D10, .ref D11]) = H14 at x3
    have x14 := (x1.trans x2).trans x3
    have q14 : Off [p] H H14 := q11.trans (Off.of x14)
    have s14 := s11.same x14
    have f14 := x14 _ _ f11
    have w14 := (x2.trans x3) _ _ e12
    have o14 := x3 _ _ e13
    have h10 : D10 ∉ [p] := fun z => s11.some (by rw [← List.mem_singleton.mp z]; exact hD10)
    have h11 : D11 ∉ [p] := fun z => (s11.same x1).some (by rw [← List.mem_singleton.mp z]; exact hD11)
    clear x1 x2 x3 x14 e12 e13 f11 f12 q11 s11
    refine ⟨fun σ' H' => ∃ D' L', σ'[8]? = some (some (.ref D')) ∧ Tags m L' ∧ Off [p] H H' ∧ Src p H' ∧ H D' = none ∧ H' D' = some (txts L'), ?_, ?_⟩
    · refine g_ifs <| g_and <| g_test <| g_op <| g_tcall <| g_cons <| g_var rfl <| g_cons <| g_c <| g_nil ?_
      refine pull_of s14 (by decide) (by decide) fun d H15 hd o15 s15 => g_c ⟨rfl, g_bl ?_⟩
      have f15 := o15 _ _ f14 n3
      have w15 := o15 _ _ w14 h10
      have o15' := o15 _ _ o14 h11
      have q15 := q14.trans o15
      refine g_ite (fun _ => ?_) (fun _ => ?_)
      · refine g_not <| g_tb <| g_cb <| g_cons <| g_lclist <| g_var rfl ⟨D10, rfl, ⟨_, SqL.of w15⟩, fun D hD => ?_⟩
        refine lcS walk_list (fun _ v b => v = V.bl b) (fun _ _ _ _ _ h => h) (fun i l => l = (wordsL.take i).map fun w => decide (w ∈ L.drop 3)) rfl hD (by rw [List.length_map]; decide) (fun H1 s1 => SqL.of (s1 _ _ w15)) ?_ ?_
        · rintro i x H16 H16' l hi s16 rfl ⟨rfl, hx⟩ KT KF kt kf
          rw [List.length_map] at hi
          have ex : x = .str wordsL[i] := by
            rw [List.getElem?_map, List.getElem?_eq_getElem hi] at hx
            exact (Option.some.inj hx).symm
          subst ex
          refine g_name ⟨wipe1 _ 12 _, ?_⟩
          unfold tYes
          refine iteT <| g_op <| g_var rfl <| g_var rfl ?_
          refine ⟨D11, _, rfl, .inl (SqL.of (s16 _ _ o15')), rfl, flat_str _, ?_⟩
          rw [inV_str]
          exact kt _ _ _ (Same.refl _) (take_map_succ hi).symm rfl
        rintro H16 acc l s16 d16 pr rfl
        have ea := pairedEq pr
        rw [List.length_map, List.take_length] at ea
        subst ea
        refine g_nil ⟨D, _, rfl, SqL.of d16, ⟨_, rfl, ?_⟩⟩
        have q16 := q15.trans (Off.of s16)
        have s16' := s15.same s16
        cases ha : (wordsL.map fun w => decide (w ∈ L.drop 3)).any id with
        | true =>
          refine iteF ?_
          exact ⟨D3, L, rfl, TT, q16, s16', h3, s16 _ _ f15⟩
        | false =>
          refine iteT ?_
          have hno : ∀ s ∈ wordsL, s ∉ L.drop 3 := fun s hs hin => by
            rw [List.any_eq_false] at ha
            have z := ha (decide (s ∈ L.drop 3)) (List.mem_map.mpr ⟨s, hs, rfl⟩)
            exact z (decide_eq_true hin)
          have w16 := s16 _ _ w15
          have o16 := s16 _ _ o15'
          refine g_asg <| g_op <| g_lrng <| g_cons <| g_cb <| g_cons <| g_c <| g_cons <| g_var rfl <| g_nil ⟨3, (m : Int), rfl, g_nil ?_⟩
          have em : (if (m : Int) < 3 then (m : Int) else 3) = ((min 3 m : Nat) : Int) := by
            split <;> omega
          rw [em]
          refine ⟨_, rfl, by omega, by omega, fun D2 hD2 => ?_⟩
          have en : (((min 3 m : Nat) : Int)).toNat = min 3 m := rfl
          rw [en]
          refine lcS (walk_range (lo := 0) (n := min 3 m)) (fun _ v s => v = V.str s) (fun _ _ _ _ _ h => h) (fun i l => l = (List.range i).map (wordAt b)) rfl hD2 (by omega) (fun _ _ => True.intro) ?_ ?_
          · rintro i x H17 H17' l hi s17 rfl ⟨rfl, rfl⟩ KT KF kt kf
            refine g_name ⟨wipe1 _ 4 _, ?_⟩
            unfold tYes
            refine iteT <| g_op <| g_var rfl <| g_op <| g_cb <| g_cons <| g_op <| g_var rfl <| g_var rfl <| g_i0 <| g_nil <| g_int <| g_c <| g_i (by show (0 : Int) < 3; decide) ?_
            have ez : ((b : Int) + (0 + (i : Nat))) % 3 = (((b + i) % 3 : Nat) : Int) := by omega
            rw [ez]
            refine ⟨D10, wordsL.map V.str, _, .str (wordAt b i), rfl, rfl, SqL.of (s17 _ _ w16), atI_nat (by rw [List.getElem?_map, wordAt_get]; rfl), ?_⟩
            refine kt _ _ (wordAt b i) (Same.refl _) ?_ rfl
            rw [List.range_succ, List.map_append]
            rfl
          rintro H17 acc l s17 d17 pr rfl
          have ea := pairedEq pr
          subst ea
          refine g_var rfl ⟨D2, D11, _, _, rfl, rfl, d17, s17 _ _ o16, ?_, fun D3' hD3' => ?_⟩
          · rw [List.length_map, List.length_map, List.length_map, List.length_range, List.length_drop, TT.len]
            exact Nat.le_trans (show min 3 m + (m - 3) ≤ 1000 by omega) (by decide)
          have TW := words_tags (b := b) TT hno
          have el : ((List.range (min 3 m)).map (wordAt b)).map V.str ++ (L.drop 3).map V.str = ((List.range (min 3 m)).map (wordAt b) ++ L.drop 3).map V.str := by rw [List.map_append]
          rw [el]
          have s17' := s16'.same s17
          refine ⟨D3', _, rfl, TW, (q16.trans (Off.of s17)).trans (offNew hD3'), s17'.same (sameNew hD3'), offBack (q16.trans (Off.of s17)) hD3' (fun z => s17'.some (by rw [← List.mem_singleton.mp z]; exact hD3')), upd_same⟩
      · exact ⟨D3, L, rfl, TT, q15, s15, h3, f15⟩
    · rintro σ' H' ⟨D', L', e8, T', o', s', n', e'⟩
      refine g_ret <| g_var e8 ?_
      exact q H' D' L' T' o' s' n' e'
end
end My
set_option Elab.async false
set_option maxRecDepth 100000
set_option maxHeartbeats 8000000
namespace My
open PySem PySem.Spec PyProof.Rows L2
local macro_rules | `(tactic| walk_at "cond") => `(tactic| first
  | exact Or.inr ⟨by decide, by decide⟩ | exact Or.inl ⟨by decide, by decide⟩ | exact ⟨by decide, by decide, by decide⟩ | exact ⟨by decide, by decide⟩
  | (refine Or.inl ⟨?_, ?_⟩ <;> omega) | (refine Or.inr ⟨?_, ?_⟩ <;> omega)
  | (show (0 : Int) < _; omega))
local macro_rules | `(tactic| walk_at "mem") => `(tactic| first | exact List.Mem.head _ | exact List.Mem.tail _ (List.Mem.head _) | exact Put.head | (refine List.Mem.tail _ ?_; walk_at "mem") | (apply Put.tail; walk_at "mem"))
local macro_rules | `(tactic| walk_at "st") => `(tactic| first
  | with_reducible refine g_seq ?_ | with_reducible refine g_asg ?_ | with_reducible refine g_name ?_ | ((with_reducible show tVar _ _ _ _); refine g_var rfl ?_) | with_reducible refine g_c ?_
  | with_reducible refine g_op ?_ | with_reducible refine g_test ?_ | with_reducible refine g_bl ?_
  | with_reducible refine g_cb ?_ | with_reducible refine g_cons ?_ | with_reducible refine g_nil ?_ | with_reducible refine g_tif ?_ | with_reducible refine g_ifs ?_ | with_reducible refine g_ret ?_
  | with_reducible refine g_drop ?_ | with_reducible refine g_next ?_
  | with_reducible refine g_i0 ?_ | ((with_reducible show rI _ _ _ _ _ _); refine g_i (by walk_at "cond") ?_) | with_reducible refine g_int ?_ | with_reducible refine g_abs ?_ | with_reducible refine g_or ?_
  | with_reducible refine g_and ?_ | with_reducible refine g_not ?_ | with_reducible refine g_lst ?_ | with_reducible refine g_tup ?_
  | with_reducible refine iteT ?_ | with_reducible refine iteF ?_ | with_reducible refine g_par ?_ | with_reducible refine g_two ?_ | with_reducible refine g_sub ?_
  | ((with_reducible show rIxL _ (V.ref _) (V.int _) _ _); refine g_ixM (by assumption) (by walk_at "mem") rfl rfl ?_)
  | ((with_reducible show rSetL (V.ref _) (V.int _) _ _ _); refine g_setM (by assumption) rfl (by walk_at "mem") fun _ _ => ?_)
  | with_reducible refine g_xmk ?_ | with_reducible refine g_xmkK ?_
  | ((with_reducible show XNew _ (spI1 _ _) _ _ _); refine g_x1 (by assumption) fun _ _ _ _ => ?_)
  | ((with_reducible show XNewK _ _ (spI1 _ _) _ _ _ _); refine g_x1k (by assumption) fun _ _ _ _ => ?_)
  | ((with_reducible show XNew _ (spI3 _ _ _ _) _ _ _); refine g_x3 (by assumption) fun _ _ _ _ => ?_)
  | ((with_reducible show tXmk0 _ _ _ _); refine g_xmk0 (by assumption) fun _ _ _ => ?_)
  | ((with_reducible show NewO _ _ _ _); refine g_newo (by assumption) (by first | decide | simp) fun _ _ _ _ => ?_)
  | ((with_reducible show rCat (V.ref _) (V.ref _) _ _); refine g_cat (by assumption) (by walk_at "mem") (by walk_at "mem") (by first | decide | simp) fun _ _ _ _ => ?_))
local macro_rules | `(tactic| walk_at "st") => `(tactic| first | with_reducible refine g_tcall ?_ | with_reducible refine g_tb ?_ | with_reducible refine g_andV ?_ | with_reducible refine g_notV ?_ | with_reducible refine g_chain ?_ | with_reducible refine g_un ?_ | with_reducible refine g_rU ?_)
def PartOk (p : Str) : Prop := p.length ≤ sizeLine ∧ (Txt.partition p " ").1.length ≤ 64 ∧ (partN p).length ≤ sizeLine
def nameO (s : Str) : Option Str := if nameB s = true then some s else none
def cntO : Option Int → Option Int
  | some n => if 1 ≤ n then some n else none
  | none => none
/-- what a part of a text is as a pair -/
def partR (z : Str) : Option (Str × Int) := pairOf (nameO (partN z)) (cntO (partF z))
/-- the pairs that a text tells -/
def readR (z : Str) : Option (List (Str × Int)) :=
  if z = "" then some [] else if ascR "" ((Txt.split z ", ").map partR) = true then some (((Txt.split z ", ").map partR).filterMap id) else none
theorem ascR_some : ∀ {l : Str} {rs : List (Option (Str × Int))}, ascR l rs = true → rs = (rs.filterMap id).map some
  | _, [], _ => rfl
  | _, none :: _, h => nomatch h
  | l, some p :: r, h => by
    have h' : (if l.cps.toList < p.1.cps.toList then ascR p.1 r else false) = true := h
    by_cases c : l.cps.toList < p.1.cps.toList
    · rw [if_pos c] at h'
      have z := ascR_some h'
      show some p :: r = some p :: (r.filterMap id).map some
      rw [← z]
    · rw [if_neg c] at h'
      exact nomatch h'
section
variable {P : Program} {w : World} {K : PySem.W.Frag} {mg : Str → Option Value} {base : Heap}
/-- the tuple of a part that was read -/
def PartAt (H : Hp) (v : V) (p : Str) : Prop := ∃ u, v = .ref u ∧ H u = some (.tup [.str (partN p), optI (partF p)])
theorem PartAt.keep : Mono PartAt := fun H H' v q e h => by
  obtain ⟨u, rfl, z⟩ := h
  exact ⟨u, rfl, e _ _ z (fun _ y => nomatch y)⟩
theorem PartAt.k {H : Hp} {v : V} {p : Str} (h : PartAt H v p) (ok : PartOk p) : PairK K H v (partR p) := by
  obtain ⟨u, rfl, e⟩ := h
  have q : CountK K H (optI (partF p)) (cntO (partF p)) := by
    cases partF p with
    | none => exact .other (b1 := false) (b2 := false) (.base .non) (kit_ty (by decide +kernel)) (fun z => nomatch z) rfl
    | some n => exact .int
  exact PairK.two (SqT.of e) (.str ok.2.2) q
theorem PartAt.ks {H : Hp} : ∀ {xs : List V} {ps : List Str}, Paired (PartAt H) xs ps → (∀ p ∈ ps, PartOk p) → Paired (PairK K H) xs (ps.map partR)
  | _, _, .nil, _ => .nil
  | _, _, .cons a b, h => .cons (PartAt.k a (h _ List.mem_cons_self)) (PartAt.ks b fun p hp => h p (List.mem_cons_of_mem _ hp))
/-- where the parts are pairs, the tuples are these -/
theorem PartAt.at {H : Hp} : ∀ {xs : List V} {ps : List Str} {l : Str}, Paired (PartAt H) xs ps → ascR l (ps.map partR) = true → Paired (PairAt H) xs ((ps.map partR).filterMap id)
  | _, _, _, .nil, _ => .nil
  | _, _, l, @Paired.cons _ _ _ v p xs ps a b, h => by
    obtain ⟨u, rfl, e⟩ := a
    have hh : ascR l (partR p :: ps.map partR) = true := h
    show Paired (PairAt H) _ ((partR p :: ps.map partR).filterMap id)
    cases hp : partR p with
    | none =>
      rw [hp] at hh
      exact nomatch hh
    | some q =>
      rw [hp] at hh
      have h' : (if l.cps.toList < q.1.cps.toList then ascR q.1 (ps.map partR) else false) = true := hh
      by_cases c : l.cps.toList < q.1.cps.toList
      · rw [if_pos c] at h'
        refine .cons ⟨u, rfl, ?_⟩ (PartAt.at b h')
        rw [e]
        unfold partR nameO at hp
        by_cases c1 : nameB (partN p) = true
        · rw [if_pos c1] at hp
          cases hf : partF p with
          | none =>
            rw [hf] at hp
            exact nomatch hp
          | some n =>
            rw [hf] at hp
            replace hp : pairOf (some (partN p)) (if 1 ≤ n then some n else none) = some q := hp
            by_cases c2 : 1 ≤ n
            · rw [if_pos c2] at hp
              cases hp
              rfl
            · rw [if_neg c2] at hp
              exact nomatch hp
        · rw [if_neg c1] at hp
          exact nomatch hp
      · rw [if_neg c] at h'
        exact nomatch h'
def spReadP (K : PySem.W.Frag) : Sp := fun vs H Q _ => ∃ z : Str, vs = [.str z] ∧ z.length + 2 ≤ sizeLine ∧ (∀ p ∈ Txt.split z ", ", PartOk p) ∧ (Txt.split z ", ").length ≤ 1000 ∧
  ((readR z = none ∧ ∀ H', Same H H' → Q .non H') ∨ ∃ ps, readR z = some ps ∧ ∀ H' b ts, Same H H' → SqT K H' b ts → Paired (PairAt H') ts ps → Q (.ref b) H')
abbrev NRds : List Str := ["text", "pairs", "part"]
theorem scRds : FnScope NRds ["text"] (defScope s_read_pairs) := ⟨rfl, rfl, rfl, by decide +kernel, rfl, by decide +kernel, by decide +kernel⟩
theorem ok_readPairs {f : Addr} {fd : FuncData} (F : Fun K "read_pairs" "read_pairs" s_read_pairs f fd) (mT : mg "tuple" = none) (C1 : Cal P w K mg base 2 "read_pair" ["text"] spPart) (C2 : Cal P w K mg base 4 "are_ascending" ["pairs"] (spAsc K)) : FnOk P w K mg base CX0 5 f fd ["text"] (spReadP K) := by
  refine F.ok scRds (fun vs H Q E h => ?_) (fun cdv A outer s H vs Q E hr h => ?_)
  · obtain ⟨z, rfl, _⟩ := h
    rfl
  · obtain ⟨z, rfl, hz, ok, few, q⟩ := h
    refine ⟨_, pss_cons (ps_if (pt_cmpR op_eq (pv 0) pe_str (nomark _)) (pss_one (ps_ret (pe_tup pa_nil))) pss_nil)
      (pss_cons (ps_set (i := 1) scRds.nd rfl (Or.inl rfl) (pe_callTy (r := rTupZ K) call_tupZ (by rfl) mT PyProof.Rows.boot_tuple (pa_cons (pe_lc (te := tCall spPart [] E0 (tCons (tVar 2) tNil)) (own := [("part", 2)]) (g := gName 2) rfl scRds.nd (pi_list (pe_split (pv 0) pe_str))
          (blkOk_by (own := [("part", 2)]) (N := NRds) (sc := defScope s_read_pairs) (by decide +kernel)) (fun _ _ _ _ _ => pg_name (i := 2) scRds.nd rfl (Or.inl rfl)) (fun _ _ _ _ _ => pts_nil)
          (fun _ _ _ _ _ => pCal C1 (hr.mono (by decide : 2 ≤ 4)) (pa_cons (pv 2) pa_nil))) pa_nil)))
      (pss_one (ps_ret (pe_ifExp (pt_val (pCal C2 hr (pa_cons (pv 1) pa_nil))) (pv 1) pe_non)))), ?_⟩
    repeat walk_at "st"
    refine g_eqTx (g_bl ?_)
    by_cases c : z = ""
    · refine g_iteT c ?_
      repeat walk_at "st"
      refine ⟨(by show 0 ≤ sizeLine; decide), fun b hb => ?_⟩
      have e : readR z = some [] := if_pos c
      rcases q with ⟨n, _⟩ | ⟨ps, n, q⟩
      · rw [e] at n
        exact nomatch n
      · rw [e] at n
        cases n
        exact q _ b [] (sameNew hb) (SqT.of upd_same) .nil
    · refine g_iteF c ?_
      have er : readR z = (if ascR "" ((Txt.split z ", ").map partR) = true then some (((Txt.split z ", ").map partR).filterMap id) else none) := if_neg c
      generalize hps : Txt.split z ", " = pz at *
      repeat walk_at "st"
      refine g_lclist <| g_var rfl ⟨⟨_, rfl⟩, ?_⟩
      refine ⟨z, ", ", rfl, rfl, rfl, hz, fun p hp => ?_⟩
      rw [hps]
      have s0 : Same H (upd H p (.lst (pz.map V.str))) := sameNew hp
      have p0 : upd H p (.lst (pz.map V.str)) p = some (.lst (pz.map V.str)) := upd_same
      generalize upd H p (.lst (pz.map V.str)) = H0 at s0 p0
      refine ⟨p, rfl, ⟨_, SqL.of p0⟩, fun D hD => lcS walk_list PartAt PartAt.keep (fun i l => l = pz.take i) rfl hD (by rw [List.length_map]; omega) (fun H1 s1 => SqL.of (s1 _ _ p0)) ?_ ?_⟩
      · rintro i x H1 H1' l hi s1 rfl ⟨rfl, hx⟩ KT KF kt kf
        rw [List.length_map] at hi
        have ex : x = .str pz[i] := by
          rw [List.getElem?_map, List.getElem?_eq_getElem hi] at hx
          exact (Option.some.inj hx).symm
        subst ex
        refine g_name ⟨wipe1 _ 2 _, ?_⟩
        unfold tYes
        refine iteT (g_tcall (g_cons (g_var rfl (g_nil ?_))))
        have po := ok pz[i] (List.getElem_mem hi)
        exact ⟨_, rfl, po.1, po.2.1, fun H2 b s2 e2 => kt _ H2 pz[i] s2 (by rw [List.take_add_one, List.getElem?_eq_getElem hi]; rfl) ⟨b, rfl, e2⟩⟩
      · rintro H1 acc l s1 d1 pr2 rfl
        rw [List.length_map, List.take_length] at pr2
        have la := pr2.length
        refine g_nil ⟨D, acc, rfl, SqL.of d1, fun b o hb _ => ?_⟩
        have s2 : Same H1 (upd H1 b (.frz o (.tup acc))) := sameNew hb
        have b2 : upd H1 b (.frz o (.tup acc)) b = some (.frz o (.tup acc)) := upd_same
        generalize upd H1 b (.frz o (.tup acc)) = H2 at s2 b2
        have pr3 : Paired (PartAt H2) acc pz := pairedMono (fun _ _ h => PartAt.keep _ _ _ _ (Keep.of s2) h) pr2
        have sq : SqT K H2 b acc := .inl (.inr ⟨o, b2⟩)
        have pk : Paired (PairK K H2) acc (pz.map partR) := by
          exact PartAt.ks pr3 ok
        refine g_name ?_
        dsimp only
        repeat walk_at "st"
        refine ⟨b, acc, pz.map partR, rfl, sq, pk, by omega, fun H3 s3 => ?_⟩
        have s4 := ((s0.trans s1).trans s2).trans s3
        cases ha : ascR "" (pz.map partR) with
        | false =>
          rw [if_neg (by rw [ha]; decide)] at er
          refine g_bl (iteF ?_)
          rcases q with ⟨n, q⟩ | ⟨ps, n, q⟩
          · exact q H3 s4
          · rw [er] at n
            exact nomatch n
        | true =>
          rw [if_pos ha] at er
          refine g_bl (iteT ?_)
          rcases q with ⟨n, q⟩ | ⟨ps, n, q⟩
          · rw [er] at n
            exact nomatch n
          · rw [er] at n
            cases n
            refine g_var rfl ?_
            exact q H3 b acc s4 (Same.seqT' s3 sq) (pairedMono (fun _ _ h => PairAt.same h s3) (PartAt.at pr3 ha))
end
end My
set_option Elab.async false
set_option maxRecDepth 100000
set_option maxHeartbeats 8000000
namespace My
open PySem PySem.Spec PyProof.Rows L2
/-- the ends of a suite whose name goes behind it -/
def endsOff (i : Nat) (D : Ends) : Ends where
  nx := fun τ G => D.nx (τ.set i none) G
  rt := D.rt
  bk := fun τ G => D.bk (τ.set i none) G
  ct := fun τ G => D.ct (τ.set i none) G
/-- what several clauses 'except X as n' wish of an exception of the body -/
def wAsL (K : PySem.W.Frag) (i : Nat) (Wout : WX) (D : Ends) : List (Value × (Addr → Value → Option Addr → TS)) → WX
  | [] => Wout
  | (c, ts) :: more => fun cls d τ G =>
    ∃ b, PySem.W.exmOne K cls c = some b ∧ (b = true → ∀ a, G a = none → i < τ.length → ts a cls d (endsOff i D) (τ.set i (some (.ref a))) G) ∧ (b = false → wAsL K i Wout D more cls d τ G)
inductive HdsAs (X : Cx) (n : Str) : List ExceptHandler → List (Value × (Addr → Value → Option Addr → TS)) → Prop
  | nil : HdsAs X n [] []
  | cons {x : Str} {c : Value} {ts : Addr → Value → Option Addr → TS} {b0 : Stmt} {st : List Stmt} {p1 p2 : Pos} {more : List ExceptHandler} {l : List (Value × (Addr → Value → Option Addr → TS))} (nm : Names X x c)
      (su : ∀ (a : Addr) (o : Obj) (cls : Value) (d : Option Addr) (pn : List (Addr × Obj)), Zc cls d o → (∃ us, o.data = .fields us) → PSs (X.suite a ((a, o) :: pn)) (b0 :: st) (ts a cls d)) (r : HdsAs X n more l) :
      HdsAs X n (.ExceptHandler (some (.Name x p1)) (some n) (b0 :: st) p2 :: more) ((c, ts) :: l)
section
variable {X : Cx} {i : Nat} {n : Str} {Wout : WX} {D : Ends} {pins : List (Addr × Obj)} {a : Addr} {B g : Heap} {sI s : Shared} {τ : L2.St} {G : Hp} {cls : Value} {d : Option Addr}
/-- the clauses, one behind the other -/
theorem as_clauses (stk : X.stack = X.env :: X.outer) (fr : X.env.frame = some X.env.locals) (nd : X.N.Nodup) (at_ : X.N[i]? = some n) (lo : X.env.kindOf n = some .local) (tk : Takes X Wout)
    (J : Inv X pins τ G sI) (nb : ∀ b o, sI.heap.get? b = some o → b ∉ frs X.stack → B.get? b = some o) (up : sI.heap.UpToSlots g) (fl : HandSPX.FlyingZ B (X.env :: X.outer) a (Zc cls d) g) (na : G a = none) (os : s.os = sI.os) (ag : AllBare s.gens) :
    ∀ {hds : List ExceptHandler} {l : List (Value × (Addr → Value → Option Addr → TS))}, HdsAs X n hds l → wAsL X.K i Wout D l cls d τ G →
      wpAny (model X.prog X.w) X.A (handleBy (.ref a) X.env hds) (SP X pins D) X.xe { s with heap := g } := by
  have loc : Loc X.env.scope n := .inl lo
  have nofr : ∀ {h : Heap} {o : Obj} {us : Array Value}, h.FunFrames B (X.env :: X.outer) → h.get? a = some o → o.data = .fields us → a ∉ frs (X.env :: X.outer) := fun {h o us} ff e dd m => by
    obtain ⟨_, o2, e2, nf⟩ := ff.mem m
    rw [e] at e2
    cases e2
    exact nf _ dd
  obtain ⟨o1, us1, ho1, z1, dd1⟩ := fl.there
  have nA := nofr fl.2.2.1 ho1 dd1
  have nLoc : a ≠ X.env.locals := fun z => nA (List.mem_filterMap.mpr ⟨X.env, List.mem_cons_self, by rw [fr, z]⟩)
  have nFs : a ∉ X.fs := fun m => by
    obtain ⟨e, he, q⟩ := List.mem_filterMap.mp m
    exact nA (List.mem_filterMap.mpr ⟨e, List.mem_cons_of_mem _ he, q⟩)
  have J1 : Inv X pins τ G { s with heap := g } := J.landed nb fl.1 up os ag
  have S1 := J1.suite ho1 dd1 na nLoc nFs
  intro hds l hk
  induction hk with
  | nil =>
    intro w
    refine wpAny_handleBy_nil ?_
    obtain ⟨_, _, _, oe, us, T, _, _, ho, _, hd, h1, _⟩ := id fl
    have last : wpAny (model X.prog X.w) X.A (setFlight (.ref a) X.env.frame) (fun _ s4 => wpAny (model X.prog X.w) X.A (throw (.ref a) : Sem Flow) (SP X pins D) X.xe s4) X.xe { s with heap := g } := by
      rw [fr]
      exact HandSPX.setFlight_upZ fl fun g2 hh up2 => wpAny_throw (tk _ _ ⟨a, B, sI, pins, τ, G, cls, d, rfl, J, nb, up.trans up2, .inr (.inr (by rw [stk]; exact hh)), na, os, ag, w⟩)
    unfold PySem.passOn
    refine wpAny_bind (wpAny_field ho hd h1 ?_)
    rw [if_neg (show ¬ ((Value.ref T == Value.none) = true) by simp)]
    first
      | exact wpAny_bind (wpAny_pure (wpAny_bind last))
      | exact wpAny_bind last
  | @cons x c ts b0 st p1 p2 more l2 nm su r ih =>
    intro w
    obtain ⟨b, hb, yes, no⟩ := w
    have ty : PySem.W.Looks (model X.prog X.w) g (typeOf (.ref a)) cls := fun A Q E s' k q => wpAny_typeOf_ref (k _ _ ho1) (by rw [z1.1]; exact q)
    have mt := PySem.W.exm_one (M := model X.prog X.w) J1.kIn ty hb
    have ask : ∀ {Q E : Value → Shared → Prop}, Q c { s with heap := g } → wpAny (model X.prog X.w) (X.A.mark (some (.ref a))) (eval (.Name x p1) X.env) Q E { s with heap := g } := fun {Q E} q => by
      obtain ⟨hg, hdb, hm | ⟨hm, hv, hn⟩⟩ := nm
      · exact ld_glob (X := X.suite a ((a, o1) :: (X.pn ++ pins))) S1 hg hm q hdb
      · exact ld_blt (X := X.suite a ((a, o1) :: (X.pn ++ pins))) S1 hg hm hv q hn hdb
    refine wpAny_handleBy_cons (codeAny_handlers_test (ask (mt.here ?_))) (by intro q; cases q)
    cases b with
    | false => exact ih (no rfl)
    | true =>
      refine codeAny_handlers_suite_as (HandSPX.lands_againZ fl fun g2 fl2 up2 => ?_)
      have J2 : Inv X pins τ G { s with heap := g2 } := J.landed nb fl2.1 (up.trans up2) os ag
      obtain ⟨o2, us2, ho2, z2, dd2⟩ := fl2.there
      have S2 := J2.suite ho2 dd2 na nLoc nFs
      refine store_ok (X := X.suite a ((a, o2) :: (X.pn ++ pins))) (v := .ref a) S2 nd at_ loc rfl (fun s3 S3 => ?_) (.inr lo)
      refine wpAny_mono ((su a o2 cls d (X.pn ++ pins) z2 ⟨_, dd2⟩).run [] s3 _ G _ S3 (yes rfl a na (by rw [J.len]; exact (List.getElem?_eq_some_iff.mp at_).1))) (fun f s4 sp => ?_) fun _ _ z => z.elim
      have goes : ∀ {τ4 : L2.St} {G4 : Hp} {Q : Shared → Prop}, Inv (X.suite a ((a, o2) :: (X.pn ++ pins))) [] τ4 G4 s4 → (∀ s5, Inv X pins (τ4.set i none) G4 s5 → Q s5) → wpAny (model X.prog X.w) X.A (do bindName X.env n .none; unbindBehindTheSuite X.env n p2) (fun _ s5 => Q s5) X.xe s4 :=
        fun S4 hq => gone_ok (S4.unsuite J.ok) nd at_ lo hq
      rcases f with v | _ | _ | _
      all_goals first
        | (obtain ⟨τ4, G4, S4, q4⟩ := sp
           exact goes S4 fun s5 J5 => ⟨_, _, J5, q4⟩)
        | (obtain ⟨v4, τ4, G4, S4, r4, q4⟩ := sp
           exact goes S4 fun s5 J5 => ⟨_, _, _, J5, r4, q4⟩)
/-- try: .. except X as n: .. except Y as n: .. -/
theorem ps_try_asL {body : List Stmt} {h0 : ExceptHandler} {more : List ExceptHandler} {l : List (Value × (Addr → Value → Option Addr → TS))} {pos : Pos} {tb : WX → TS} (stk : X.stack = X.env :: X.outer) (fr : X.env.frame = some X.env.locals) (nd : X.N.Nodup) (at_ : X.N[i]? = some n)
    (lo : X.env.kindOf n = some .local) (tk : Takes X Wout) (hb : ∀ (W : WX) (pn : List (Addr × Obj)) (xe : Value → Shared → Prop), Takes (X.tr pn xe) W → PassesOwn (model X.prog X.w) X.A X.env xe → PSs (X.tr pn xe) body (tb W)) (hh : HdsAs X n (h0 :: more) l) :
    PS X (.Try body (h0 :: more) [] [] pos) (fun D τ G => tb (wAsL X.K i Wout D l) D τ G) := by
  refine ⟨fun pins s τ G D I h => ?_⟩
  have frm : X.A.frames = some (X.env :: X.outer) := by rw [I.ok.frames, stk]
  refine wpAny_Try_except ?_
  let caught : Value → Shared → Prop := fun e s1 => wpAny (model X.prog X.w) X.A (noteFrame e X.env) (fun _ s2 => wpAny (model X.prog X.w) X.A (setFlight e none) (fun _ s3 => wpAny (model X.prog X.w) X.A (handleBy e X.env (h0 :: more)) (SP X pins D) X.xe s3) X.xe s2) X.xe s1
  refine wpAny_mono ((hb (wAsL X.K i Wout D l) (X.pn ++ pins) caught (fun u s1 xx => ?_) PassesOwn.looking).run [] s τ G D (I.toTry _) h) (fun f s1 sp => ?_) fun e s1 he => he
  · obtain ⟨a, B, sI, pins1, τ1, G1, cls, d, rfl, J1, nb, up, sky, na, os, ag, w⟩ := xx
    have sky1 : Sky B (X.env :: X.outer) a (Zc cls d) X.env.locals s1.heap := by
      rw [← stk]
      exact sky
    exact Sky.land Zc.steady frm fr sky1 fun g fl up1 => as_clauses stk fr nd at_ lo tk (J1.ofTry I.ok) nb (up.trans up1) fl na os ag hh w
  · rcases f with v | _ | _ | _
    all_goals first
      | (obtain ⟨v1, τ1, G1, J1, r, q⟩ := sp
         exact ⟨v1, τ1, G1, J1.ofTry I.ok, r, q⟩)
      | (obtain ⟨τ1, G1, J1, q⟩ := sp
         exact wpAny_execs_nil ⟨τ1, G1, J1.ofTry I.ok, q⟩)
      | (obtain ⟨τ1, G1, J1, q⟩ := sp
         exact ⟨τ1, G1, J1.ofTry I.ok, q⟩)
end
end My
set_option Elab.async false
set_option maxRecDepth 100000
set_option maxHeartbeats 8000000
namespace My
open PySem PySem.Spec PyProof.Rows L2
local macro_rules | `(tactic| walk_at "cond") => `(tactic| first
  | exact Or.inr ⟨by decide, by decide⟩ | exact Or.inl ⟨by decide, by decide⟩ | exact ⟨by decide, by decide, by decide⟩ | exact ⟨by decide, by decide⟩
  | (refine Or.inl ⟨?_, ?_⟩ <;> omega) | (refine Or.inr ⟨?_, ?_⟩ <;> omega)
  | (show (0 : Int) < _; omega))
local macro_rules | `(tactic| walk_at "mem") => `(tactic| first | exact List.Mem.head _ | exact List.Mem.tail _ (List.Mem.head _) | exact Put.head | (refine List.Mem.tail _ ?_; walk_at "mem") | (apply Put.tail; walk_at "mem"))
local macro_rules | `(tactic| walk_at "st") => `(tactic| first
  | with_reducible refine g_seq ?_ | with_reducible refine g_asg ?_ | with_reducible refine g_name ?_ | ((with_reducible show tVar _ _ _ _); refine g_var rfl ?_) | with_reducible refine g_c ?_
  | with_reducible refine g_op ?_ | with_reducible refine g_test ?_ | with_reducible refine g_bl ?_
  | with_reducible refine g_cb ?_ | with_reducible refine g_cons ?_ | with_reducible refine g_nil ?_ | with_reducible refine g_tif ?_ | with_reducible refine g_ifs ?_ | with_reducible refine g_ret ?_
  | with_reducible refine g_drop ?_ | with_reducible refine g_next ?_
  | with_reducible refine g_i0 ?_ | ((with_reducible show rI _ _ _ _ _ _); refine g_i (by walk_at "cond") ?_) | with_reducible refine g_int ?_ | with_reducible refine g_abs ?_ | with_reducible refine g_or ?_
  | with_reducible refine g_and ?_ | with_reducible refine g_not ?_ | with_reducible refine g_lst ?_ | with_reducible refine g_tup ?_
  | with_reducible refine iteT ?_ | with_reducible refine iteF ?_ | with_reducible refine g_par ?_ | with_reducible refine g_two ?_ | with_reducible refine g_sub ?_
  | ((with_reducible show rIxL _ (V.ref _) (V.int _) _ _); refine g_ixM (by assumption) (by walk_at "mem") rfl rfl ?_)
  | ((with_reducible show rSetL (V.ref _) (V.int _) _ _ _); refine g_setM (by assumption) rfl (by walk_at "mem") fun _ _ => ?_)
  | with_reducible refine g_xmk ?_ | with_reducible refine g_xmkK ?_
  | ((with_reducible show XNew _ (spI1 _ _) _ _ _); refine g_x1 (by assumption) fun _ _ _ _ => ?_)
  | ((with_reducible show XNewK _ _ (spI1 _ _) _ _ _ _); refine g_x1k (by assumption) fun _ _ _ _ => ?_)
  | ((with_reducible show XNew _ (spI3 _ _ _ _) _ _ _); refine g_x3 (by assumption) fun _ _ _ _ => ?_)
  | ((with_reducible show tXmk0 _ _ _ _); refine g_xmk0 (by assumption) fun _ _ _ => ?_)
  | ((with_reducible show NewO _ _ _ _); refine g_newo (by assumption) (by first | decide | simp) fun _ _ _ _ => ?_)
  | ((with_reducible show rCat (V.ref _) (V.ref _) _ _); refine g_cat (by assumption) (by walk_at "mem") (by walk_at "mem") (by first | decide | simp) fun _ _ _ _ => ?_))
local macro_rules | `(tactic| walk_at "st") => `(tactic| first | with_reducible refine g_tcall ?_ | with_reducible refine g_tb ?_ | with_reducible refine g_andV ?_ | with_reducible refine g_notV ?_ | with_reducible refine g_chain ?_ | with_reducible refine g_un ?_ | with_reducible refine g_rU ?_)
/-! ### a caught exception, looked at -/
/-- isinstance(e, c) of the exception that the suite holds -/
def rIsH (K : PySem.W.Frag) (a : Addr) (cls : Value) (d : Option Addr) : List V → Hp → VK → Prop := fun xs H Q => ∃ (c : V) (u : Value) (b : Bool) (C dd : Addr) (fs : List (Str × V)) (newId : String) (bmB : List Value),
  xs = [.ref a, c] ∧ cls = .ref C ∧ d = some dd ∧ OxC K C newId bmB ∧ OxI K C ∧ OxG K ∧ ClsV c u ∧ H dd = some (.xd fs) ∧ PySem.W.kitOne K (.ref C) u = some b ∧ Q (.bl b) H
theorem call_isH {X : Cx} {a : Addr} {oe : Obj} {cls : Value} {d : Option Addr} {pn : List (Addr × Obj)} (hz : Zc cls d oe) (hf : ∃ us, oe.data = .fields us) : CallR (X.suite a ((a, oe) :: pn)) (.builtin "isinstance") (rIsH X.K a cls d) := by
  intro pins s σ H xs us Q I r h
  obtain ⟨c, u, b, C, dd, fs, newId, bmB, rfl, rfl, rfl, O, J, G, cv, ed, k, q⟩ := h
  obtain ⟨u1, u2, rfl, r1, r2⟩ := vals2 r
  obtain rfl : u1 = Value.ref a := r1
  obtain rfl := cv.eq r2
  obtain ⟨ha, _⟩ := I.pin (a, oe) (List.mem_append_left _ List.mem_cons_self)
  obtain ⟨us, hd⟩ := hf
  obtain ⟨mA, hns, _⟩ := (show ObjOk X.prog X.w H s.heap dd (.xd fs) from I.hok dd _ ed)
  obtain ⟨od, hod, _⟩ := lookIn_ns hns
  have at_ : PySem.W.InstAt s.heap a oe C (some od) := ⟨ha, hz.1, by unfold PySem.W.notCls; rw [hd] <;> rfl, by rw [hz.2]; exact hod⟩
  exact PySem.W.kia_one (kitExc O J G) I.kIn at_ k (fun z => nomatch z) fun tk => ⟨.bl b, H, I.tok tk, rfl, q⟩
/-- what the law asks of a class of errors -/
structure ErrC (K : PySem.W.Frag) (C : Addr) (f : Str) (VF : Addr) : Prop where
  O : ∃ newId bmB, OxC K C newId bmB
  J : OxI K C
  no : PySem.W.findIn K (.ref C) f = some none
  k1 : PySem.W.kitOne K (.ref C) (.ref VF) = some true
  k2 : PySem.W.kitOne K (.ref C) (.type "ValueError") = some true
theorem ErrC.xf {K : PySem.W.Frag} {C : Addr} {f : Str} {VF : Addr} (h : ErrC K C f VF) : XfC K C := let ⟨_, _, O⟩ := h.O; ⟨O.ga, O.gg, O.exC, O.hd⟩
/-- what a row of _law_error shows: the class's name, its attribute, True -/
def RowW (x : Str) (C : Addr) (f : Str) (cls : Value) (d : Option Addr) (H : Hp) (Q : VK) : Prop :=
  ∃ (v : V) (dd : Addr) (fs : List (Str × V)), cls = .ref C ∧ d = some dd ∧ H dd = some (.xd fs) ∧ fs.lookup f = some v ∧ ∀ p, H p = none → Q (.ref p) (upd H p (.lst [.str x, v, .bl true]))
section
variable {X : Cx} {a VF C : Addr} {oe : Obj} {cls : Value} {d : Option Addr} {pn : List (Addr × Obj)} {x f : Str} {i : Nat} {n : Str}
theorem g_xf {σ : L2.St} {H : Hp} {Q : VK} {te : TE} (h : te σ H fun x H1 => x = .ref a ∧ cls = .ref C ∧ ∃ (dd : Addr) (fs : List (Str × V)) (v : V), d = some dd ∧ H1 dd = some (.xd fs) ∧ fs.lookup f = some v ∧ Q v H1) : tXf a cls d C f te σ H Q := h
theorem pIsH {ea eb : Expr} {ta tb : TE} {p pos : Pos} (hz : Zc cls d oe) (hf : ∃ us, oe.data = .fields us) (z : X.mg "isinstance" = none) (ha : PE (X.suite a ((a, oe) :: pn)) ea ta) (hb : PE (X.suite a ((a, oe) :: pn)) eb tb) (hg : Gl (X.suite a ((a, oe) :: pn)) "isinstance" := by rfl)
    (hs : starEach [ea, eb] X.env = (false, eval ea X.env) :: starEach [eb] X.env := by rfl) (hs2 : starEach [eb] X.env = (false, eval eb X.env) :: starEach [] X.env := by rfl) (hpl : (backTo pos (starEach [eb] X.env)).any (·.1) = false := by rfl) :
    PE (X.suite a ((a, oe) :: pn)) (.Call (.Name "isinstance" p) [ea, eb] [] pos) (tCB (rIsH X.K a cls d) (tCons ta (tCons tb tNil))) :=
  pe_callB (call_isH hz hf) hg z PyProof.Rows.boot_isinstance (pa_cons ha (pa_cons hb pa_nil hs2) hs) (he := hs) (hpl := hpl)
end
/-- the reading of a clause of _law_error -/
def tRow (K : PySem.W.Frag) (x : Str) (C : Addr) (f : Str) (VF : Addr) (a : Addr) (cls : Value) (d : Option Addr) : TS :=
  tRet (tLst (tCons (tC (.str x)) (tCons (tXf a cls d C f (tVar 2)) (tCons (tAndV (tCB (rIsH K a cls d) (tCons (tVar 2) (tCons (tC (.ref VF)) tNil))) (tCB (rIsH K a cls d) (tCons (tVar 2) (tCons (tC (.ty "ValueError")) tNil)))) tNil))))
theorem row_ok {K : PySem.W.Frag} {x f : Str} {C VF a : Addr} {cls : Value} {d : Option Addr} {H : Hp} {D : Ends} {τ : L2.St} (e : ErrC K C f VF) (G : OxG K) (hl : 2 < τ.length) (h : RowW x C f cls d H D.rt) : tRow K x C f VF a cls d D (τ.set 2 (some (.ref a))) H := by
  obtain ⟨v, dd, fs, rfl, rfl, hd, hv, q⟩ := h
  obtain ⟨newId, bmB, O⟩ := e.O
  have h2 : (τ.set 2 (some (V.ref a)))[2]? = some (some (.ref a)) := List.getElem?_set_self hl
  unfold tRow
  refine g_ret <| g_lst <| g_cons <| g_c <| g_cons <| g_xf <| g_var h2 ⟨rfl, rfl, dd, fs, v, rfl, hd, hv, ?_⟩
  refine g_cons <| g_andV <| g_cb <| g_cons <| g_var h2 <| g_cons <| g_c <| g_nil ⟨.ref VF, .ref VF, true, C, dd, fs, newId, bmB, rfl, rfl, rfl, O, e.J, G, .own VF, hd, e.k1, ?_⟩
  refine ⟨true, rfl, ?_⟩
  refine iteT ?_
  refine g_cb <| g_cons <| g_var h2 <| g_cons <| g_c <| g_nil ⟨.ty "ValueError", .type "ValueError", true, C, dd, fs, newId, bmB, rfl, rfl, rfl, O, e.J, G, .ty _, hd, e.k2, ?_⟩
  exact g_nil ⟨(by show 3 ≤ sizeLine; decide), fun p hp => q p hp⟩
/-- behind what it asks, where nothing is raised -/
def ToldK (f : Addr) (Q : VK) : VK := fun v H1 => gName 1 v (L2.start ["_law_ask", "_law_told", "e"] [V.ref f]) H1 fun τ G => tRet (tLst (tCons (tC (.str "told")) (tCons (tVar 1) tNil))) { nx := fun _ H' => Q .non H', rt := Q } τ G
theorem told_ok {f : Addr} {Q : VK} {v : V} {H : Hp} (q : ∀ p, H p = none → Q (.ref p) (upd H p (.lst [.str "told", v]))) : ToldK f Q v H := by
  unfold ToldK
  exact g_name <| g_ret <| g_lst <| g_cons <| g_c <| g_cons <| g_var rfl <| g_nil ⟨(by show 2 ≤ sizeLine; decide), fun p hp => q p hp⟩
/-- what it makes of an error -/
def ErrW (CL CK CU : Addr) (Q : VK) : XK := fun cls d H' => RowW "NotALoad" CL "value" cls d H' Q ∨ RowW "InvalidKinds" CK "index" cls d H' Q ∨ RowW "UnknownKind" CU "value" cls d H' Q
/-- what _law_error makes of what it asks -/
def TErr (CL CK CU : Addr) : (XK → Hp → VK → Prop) → Hp → VK → Prop := fun tl H Q => ∀ f, tl (ErrW CL CK CU Q) H (ToldK f Q)
/-- of two classes, which one an exception of the one is -/
structure Apart (K : PySem.W.Frag) (A B : Addr) : Prop where
  own : PySem.W.exmOne K (.ref A) (.ref A) = some true
  other : PySem.W.exmOne K (.ref A) (.ref B) = some false
structure ErrK (K : PySem.W.Frag) (mg : Str → Option Value) (CL CK CU VF : Addr) : Prop where
  G : OxG K
  eL : ErrC K CL "value" VF
  eK : ErrC K CK "index" VF
  eU : ErrC K CU "value" VF
  mL : mg "NotALoad" = some (.ref CL)
  mK : mg "InvalidKinds" = some (.ref CK)
  mU : mg "UnknownKind" = some (.ref CU)
  mV : mg "ValueFault" = some (.ref VF)
  isi : mg "isinstance" = none
  bV : mg "ValueError" = none
  LL : PySem.W.exmOne K (.ref CL) (.ref CL) = some true
  KL : PySem.W.exmOne K (.ref CK) (.ref CL) = some false
  KK : PySem.W.exmOne K (.ref CK) (.ref CK) = some true
  UL : PySem.W.exmOne K (.ref CU) (.ref CL) = some false
  UK : PySem.W.exmOne K (.ref CU) (.ref CK) = some false
  UU : PySem.W.exmOne K (.ref CU) (.ref CU) = some true
def tryHds : List Stmt → List ExceptHandler
  | .Try _ hs _ _ _ :: _ => hs
  | _ => []
end My
set_option Elab.async false
set_option maxRecDepth 100000
set_option maxHeartbeats 8000000
namespace My
open PySem PySem.Spec PyProof.Rows L2
/-! ### zip(t, l), t a tuple, l a list -/
def ItzM (K : PySem.W.Frag) (a b : Addr) : It :=
  ⟨fun i H => ∃ (xs ys : List V) (x y : V), SqT K H a xs ∧ SqL K H b ys ∧ xs[i]? = some x ∧ ys[i]? = some y,
    fun i H v H' => ∃ T x y, v = .ref T ∧ H T = none ∧ H' = upd H T (.tup [x, y]) ∧ (∀ xs, SqT K H a xs → xs[i]? = some x) ∧ ∀ ys, SqL K H b ys → ys[i]? = some y,
    fun i H => ∃ xs ys : List V, SqT K H a xs ∧ SqL K H b ys ∧ (i = xs.length ∧ i ≤ ys.length ∨ i = ys.length ∧ i ≤ xs.length)⟩
/-- what stands while it is walked -/
structure ZmSt (N : Nat) (a b : Addr) (i : Nat) (h : Heap) : Prop where
  z : IsZip h (N + 4) (N + 2) (N + 3) .none
  ti : IsTupOf2 h (N + 2) (.ref N) (.ref (N + 1))
  to : ∃ x y, IsTupOf2 h (N + 3) x y
  it1 : h.IsTupleIter N a i
  it2 : h.IsListIter (N + 1) b i
def zmCells (N : Nat) : List Addr := [N + 4, N + 2, N + 3, N, N + 1]
theorem zm_cases {N : Nat} {c : Addr} (h : c ∈ zmCells N) : c = N + 4 ∨ c = N + 2 ∨ c = N + 3 ∨ c = N ∨ c = N + 1 := by
  simpa [zmCells] using h
theorem zm_ge {N : Nat} {c : Addr} (h : c ∈ zmCells N) : N ≤ c := by
  rcases zm_cases h with q | q | q | q | q
  · rw [q]; exact Nat.le_add_right _ _
  · rw [q]; exact Nat.le_add_right _ _
  · rw [q]; exact Nat.le_add_right _ _
  · rw [q]; exact Nat.le_refl _
  · rw [q]; exact Nat.le_add_right _ _
theorem turn_zipM {P : Program} {w : World} {K : PySem.W.Frag} {elts : List Expr} {kk : Nat} {tpos : Pos} {N : Nat} {a b : Addr} (ha : a < N) (hb : b < N) : Turn P w K (.Tuple elts kk tpos) (ItzM K a b) (zmCells N) (N + 4) (ZmSt N a b) where
  mem := by simp [zmCells]
  obj := fun i h st c hc => by
    obtain ⟨e4, e2, ⟨x, y, e3⟩, ⟨o1, g1, _, d1⟩, ⟨o2, g2, _, d2⟩⟩ := st
    rcases zm_cases hc with q | q | q | q | q
    · rw [q]; exact ⟨_, e4, fun v z => nomatch z⟩
    · rw [q]; exact ⟨_, e2, fun v z => nomatch z⟩
    · rw [q]; exact ⟨_, e3, fun v z => nomatch z⟩
    · rw [q]; exact ⟨o1, g1, fun v z => by rw [d1] at z; cases z⟩
    · rw [q]; exact ⟨o2, g2, fun v z => by rw [d2] at z; cases z⟩
  keep := fun i h h' st k => by
    obtain ⟨e4, e2, ⟨x, y, e3⟩, h1, h2⟩ := st
    exact ⟨k _ (by simp [zmCells]) _ e4, k _ (by simp [zmCells]) _ e2, ⟨x, y, k _ (by simp [zmCells]) _ e3⟩, h1.at fun o q => k _ (by simp [zmCells]) o q, h2.at fun o q => k _ (by simp [zmCells]) o q⟩
  item := by
    intro X hP hw hK hc i pins s σ H E I hf st hg
    subst hP hw hK
    obtain ⟨e4, e2, ⟨x0, y0, e3⟩, h1, h2⟩ := st
    obtain ⟨xs, ys, x, y, hx, hy, ex, ey⟩ := hg
    obtain ⟨us, ru, tp, _⟩ := I.tuple hx
    obtain ⟨vs, rv, lp, _⟩ := I.list hy
    obtain ⟨u, eu, rxu⟩ := ru.get ex
    obtain ⟨v, ev, ryv⟩ := rv.get ey
    have calm : X.A.in1.handled = Option.none := I.ok.hd hc
    have lu : i < us.toArray.size := by simpa using (List.getElem?_eq_some_iff.mp eu).1
    have lv : i < vs.toArray.size := by simpa using (List.getElem?_eq_some_iff.mp ev).1
    have big : N + 4 < s.heap.objs.size := Heap.lt_size e4
    have sep := zip_sep2 (N := N) (fp1 := [a]) (fp2 := [b]) (fun c hc => by rw [List.mem_singleton.mp hc]; exact ha) (fun c hc => by rw [List.mem_singleton.mp hc]; exact hb)
    refine wpAny_pyNext_zipD2_item sep (Draws.tuple calm N a (Nat.ne_of_lt ha) us.toArray) (Draws.list calm (N + 1) b (Nat.ne_of_lt (Nat.lt_succ_of_lt hb)) vs.toArray) e4 e2 e3 ⟨h1, isTup_of tp⟩ ⟨h2, lp.isList⟩ lu lv fun u1 v1 h' tk p1 p2 z' to' s1 s2 new sz kp => ?_
    obtain rfl : u1 = u := by
      have q : us[i]? = some u1 := by simpa using p1
      rw [eu] at q
      exact (Option.some.inj q).symm
    obtain rfl : v1 = v := by
      have q : vs[i]? = some v1 := by simpa using p2
      rw [ev] at q
      exact (Option.some.inj q).symm
    refine ⟨_, rfl, wpAny_letOwnedTupleGo_zip (s := { s with heap := h', toks := tk }) z' fun g z2 sb => ?_⟩
    have kg : ∀ c o, c ∉ zmCells N → s.heap.get? c = some o → g.get? c = some o := fun c o hcm q =>
      (sb.2 c (fun z => hcm (by simp [zmCells, z]))).trans (kp c o (fun z => hcm (by simp [zmCells, z])) (fun z => hcm (by simp [zmCells, z])) (fun z => hcm (by simp [zmCells, z])) (fun z => hcm (by simp [zmCells, z])) q)
    have newG : g.get? s.heap.objs.size = some { cls := .type "tuple", data := .seq #[u1, v1] } := (sb.2 _ (Nat.ne_of_gt big)).trans new
    have ok : ObjOk X.prog X.w (upd H s.heap.objs.size (.tup [x, y])) g s.heap.objs.size (.tup [x, y]) := ⟨(by show 2 ≤ sizeLine; decide), [u1, v1], .cons rxu (.cons ryv .nil), ⟨_, newG, rfl, _, rfl⟩⟩
    have J : Inv X pins σ (upd H s.heap.objs.size (.tup [x, y])) { s with heap := g, toks := tk } := I.turnedNew (ch := zmCells N) kg hf (Nat.le_refl _) ok
    have n24 : (N + 2 : Nat) ≠ N + 4 := by omega
    have n34 : (N + 3 : Nat) ≠ N + 4 := by omega
    have n04 : (N : Nat) ≠ N + 4 := by omega
    have n14 : (N + 1 : Nat) ≠ N + 4 := by omega
    have t2 : h'.get? (N + 2) = some { cls := .type "tuple", data := .seq #[.ref N, .ref (N + 1)] } := kp _ _ n24 (show (N + 2 : Nat) ≠ N + 3 by omega) (show (N + 2 : Nat) ≠ N by omega) (show (N + 2 : Nat) ≠ N + 1 by omega) e2
    refine ⟨.ref s.heap.objs.size, _, J, rfl, ⟨_, x, y, rfl, I.hok.fresh (Nat.le_refl _), rfl, (fun l hl => by rw [I.tuple_inj hl hx]; exact ex), fun l hl => by rw [I.list_inj hl hy]; exact ey⟩, ⟨z2, (sb.2 _ n24).trans t2, ⟨u1, v1, (sb.2 _ n34).trans to'⟩, s1.1.at fun o q => (sb.2 _ n04).trans q, s2.1.at fun o q => (sb.2 _ n14).trans q⟩, fun c hcm => ?_⟩
    have lt : c < s.heap.objs.size := by
      have lt4 : (N + 4 : Nat) < s.heap.objs.size := big
      rcases zm_cases hcm with q | q | q | q | q
      · rw [q]; exact lt4
      · rw [q]; exact Heap.lt_size e2
      · rw [q]; exact Heap.lt_size e3
      · rw [q]; obtain ⟨_, g1, _⟩ := h1; exact Heap.lt_size g1
      · rw [q]; obtain ⟨_, g2, _⟩ := h2; exact Heap.lt_size g2
    rw [upd_ne (Nat.ne_of_lt lt)]
    exact (hf c hcm).1
  done := by
    intro X hP hw hK hc i pins s σ H E I hf st hg
    subst hP hw hK
    obtain ⟨e4, e2, ⟨x0, y0, e3⟩, h1, h2⟩ := st
    obtain ⟨xs, ys, hx, hy, en⟩ := hg
    obtain ⟨us, ru, tp, _⟩ := I.tuple hx
    obtain ⟨vs, rv, lp, _⟩ := I.list hy
    have calm : X.A.in1.handled = Option.none := I.ok.hd hc
    have l1 := ru.length
    have l2 := rv.length
    have sep := zip_sep2 (N := N) (fp1 := [a]) (fp2 := [b]) (fun c hc => by rw [List.mem_singleton.mp hc]; exact ha) (fun c hc => by rw [List.mem_singleton.mp hc]; exact hb)
    have en' : i ≤ us.toArray.size ∧ i ≤ vs.toArray.size ∧ (i = us.toArray.size ∨ i = vs.toArray.size) := by
      simp only [List.size_toArray]
      rcases en with ⟨q1, q2⟩ | ⟨q1, q2⟩ <;> omega
    refine wpAny_pyNext_zipD2_end sep (Draws.tuple calm N a (Nat.ne_of_lt ha) us.toArray) (Draws.list calm (N + 1) b (Nat.ne_of_lt (Nat.lt_succ_of_lt hb)) vs.toArray) e4 e2 e3 ⟨h1, isTup_of tp⟩ ⟨h2, lp.isList⟩ en'.1 en'.2.1 en'.2.2 fun h' tk kp => ⟨rfl, ?_⟩
    exact I.turnedL (t' := tk) (ch := zmCells N) (fun c o hcm q => kp c o (fun z => hcm (by simp [zmCells, z])) (fun z => hcm (by simp [zmCells, z])) (fun z => hcm (by simp [zmCells, z])) (fun z => hcm (by simp [zmCells, z])) q) hf
  self := fun A i s Q E st h => wpAny_pyIter_zip st.z h
def iZipM (K : PySem.W.Frag) (ta : TA) : TI := fun σ H R => ta σ H fun vs H1 => ∃ a b xs ys, vs = [.ref a, .ref b] ∧ SqT K H1 a xs ∧ SqL K H1 b ys ∧ R (ItzM K a b) H1
theorem pi_zipM {X : Cx} {e e2 : Expr} {ta : TA} {p pos tpos : Pos} {elts : List Expr} {kk : Nat} (hg : Gl X "zip") (hm : X.mg "zip" = none) (ha : PA X [e, e2] ta)
    (hs : starEach [e, e2] X.env = (false, eval e X.env) :: starEach [e2] X.env := by rfl) (hpl : (backTo pos (starEach [e2] X.env)).any (·.1) = false := by rfl) :
    PI X (.Tuple elts kk tpos) (.Call (.Name "zip" p) [e, e2] [] pos) (iZipM X.K ta) := by
  refine ⟨fun pins s σ H R I h => ?_⟩
  refine Call_ (ld_blt I hg hm PyProof.Rows.boot_zip (PyProof.Rows.callWith_type1 (thn (ha.run pos pins s σ H _ I h) fun us s1 ⟨vs, H1, I1, r1, q1⟩ => ?_) hs hpl))
  obtain ⟨a, b, xs, ys, rfl, hx, hy, q⟩ := q1
  obtain ⟨u1, u2, rfl, ra, rb⟩ := vals2 r1
  cases ra
  cases rb
  obtain ⟨us, ru, tp, _⟩ := I1.tuple hx
  obtain ⟨ws, rv, lp, _⟩ := I1.list hy
  have la : a < s1.heap.objs.size := by
    obtain ⟨o, z, _⟩ := isTup_of tp
    exact Heap.lt_size z
  refine zip_begins2 (begins_tuple a us.toArray) (begins_list b ws.toArray) (isTup_of tp) lp.isList fun h' z4 z2 z3 g1 g2 sz kp => wpAny_pyIter_zip z4 ?_
  have I2 : Inv X pins σ H1 { s1 with heap := h' } := I1.kept (t' := s1.toks) kp
  exact ⟨s1.heap.objs.size + 4, zmCells s1.heap.objs.size, _, _, H1, rfl, I2, turn_zipM la lp.lt, ⟨z4, z2, ⟨_, _, z3⟩, ⟨_, g1, rfl, rfl⟩, ⟨_, g2, rfl, rfl⟩⟩, (fun c hc => I1.fpOk (zm_ge hc) (I1.hok.fresh (zm_ge hc))), q⟩
theorem walk_zipM {K : PySem.W.Frag} {a b : Addr} {xs ys : List V} (hn : xs.length = ys.length) : Walk (ItzM K a b) xs.length (fun H => SqT K H a xs ∧ SqL K H b ys) (YPair (fun i => xs[i]?) (fun i => ys[i]?)) := by
  refine ⟨fun i H hi q => ⟨xs, ys, xs[i], ys[i]'(hn ▸ hi), q.1, q.2, List.getElem?_eq_getElem _, List.getElem?_eq_getElem _⟩, fun H q => ⟨xs, ys, q.1, q.2, .inl ⟨rfl, Nat.le_of_eq hn⟩⟩, fun i H v H' _ q y => ?_⟩
  obtain ⟨T, x, z, h1, h2, h3, h4, h5⟩ := y
  exact ⟨T, x, z, h1, h2, h3, h4 xs q.1, h5 ys q.2⟩
theorem walk_zipTT {K : PySem.W.Frag} {a b : Addr} {xs ys : List V} (hn : xs.length = ys.length) : Walk (RZ.ItzT K a b) xs.length (fun H => SqT K H a xs ∧ SqT K H b ys) (YPair (fun i => xs[i]?) (fun i => ys[i]?)) := by
  refine ⟨fun i H hi q => ⟨xs, ys, xs[i], ys[i]'(hn ▸ hi), q.1, q.2, List.getElem?_eq_getElem _, List.getElem?_eq_getElem _⟩, fun H q => ⟨xs, ys, q.1, q.2, .inl (Nat.le_refl _)⟩, fun i H v H' _ q y => ?_⟩
  obtain ⟨T, x, z, h1, h2, h3, h4, h5⟩ := y
  exact ⟨T, x, z, h1, h2, h3, h4 xs q.1, h5 ys q.2⟩
end My
set_option Elab.async false
set_option maxRecDepth 100000
set_option maxHeartbeats 8000000
namespace My
open PySem PySem.Spec PyProof.Rows L2
local macro_rules | `(tactic| walk_at "cond") => `(tactic| first
  | exact Or.inr ⟨by decide, by decide⟩ | exact Or.inl ⟨by decide, by decide⟩ | exact ⟨by decide, by decide, by decide⟩ | exact ⟨by decide, by decide⟩
  | (refine Or.inl ⟨?_, ?_⟩ <;> omega) | (refine Or.inr ⟨?_, ?_⟩ <;> omega)
  | (show (0 : Int) < _; omega))
local macro_rules | `(tactic| walk_at "mem") => `(tactic| first | exact List.Mem.head _ | exact List.Mem.tail _ (List.Mem.head _) | exact Put.head | (refine List.Mem.tail _ ?_; walk_at "mem") | (apply Put.tail; walk_at "mem"))
local macro_rules | `(tactic| walk_at "st") => `(tactic| first
  | with_reducible refine g_seq ?_ | with_reducible refine g_asg ?_ | with_reducible refine g_name ?_ | ((with_reducible show tVar _ _ _ _); refine g_var rfl ?_) | with_reducible refine g_c ?_
  | with_reducible refine g_op ?_ | with_reducible refine g_test ?_ | with_reducible refine g_bl ?_
  | with_reducible refine g_cb ?_ | with_reducible refine g_cons ?_ | with_reducible refine g_nil ?_ | with_reducible refine g_tif ?_ | with_reducible refine g_ifs ?_ | with_reducible refine g_ret ?_
  | with_reducible refine g_drop ?_ | with_reducible refine g_next ?_
  | with_reducible refine g_i0 ?_ | ((with_reducible show rI _ _ _ _ _ _); refine g_i (by walk_at "cond") ?_) | with_reducible refine g_int ?_ | with_reducible refine g_abs ?_ | with_reducible refine g_or ?_
  | with_reducible refine g_and ?_ | with_reducible refine g_not ?_ | with_reducible refine g_lst ?_ | with_reducible refine g_tup ?_
  | with_reducible refine iteT ?_ | with_reducible refine iteF ?_ | with_reducible refine g_par ?_ | with_reducible refine g_two ?_ | with_reducible refine g_sub ?_
  | ((with_reducible show rIxL _ (V.ref _) (V.int _) _ _); refine g_ixM (by assumption) (by walk_at "mem") rfl rfl ?_)
  | ((with_reducible show rSetL (V.ref _) (V.int _) _ _ _); refine g_setM (by assumption) rfl (by walk_at "mem") fun _ _ => ?_)
  | with_reducible refine g_xmk ?_ | with_reducible refine g_xmkK ?_
  | ((with_reducible show XNew _ (spI1 _ _) _ _ _); refine g_x1 (by assumption) fun _ _ _ _ => ?_)
  | ((with_reducible show XNewK _ _ (spI1 _ _) _ _ _ _); refine g_x1k (by assumption) fun _ _ _ _ => ?_)
  | ((with_reducible show XNew _ (spI3 _ _ _ _) _ _ _); refine g_x3 (by assumption) fun _ _ _ _ => ?_)
  | ((with_reducible show tXmk0 _ _ _ _); refine g_xmk0 (by assumption) fun _ _ _ => ?_)
  | ((with_reducible show NewO _ _ _ _); refine g_newo (by assumption) (by first | decide | simp) fun _ _ _ _ => ?_)
  | ((with_reducible show rCat (V.ref _) (V.ref _) _ _); refine g_cat (by assumption) (by walk_at "mem") (by walk_at "mem") (by first | decide | simp) fun _ _ _ _ => ?_))
local macro_rules | `(tactic| walk_at "st") => `(tactic| first | with_reducible refine g_tcall ?_ | with_reducible refine g_tb ?_ | with_reducible refine g_andV ?_ | with_reducible refine g_notV ?_ | with_reducible refine g_chain ?_ | with_reducible refine g_un ?_ | with_reducible refine g_rU ?_)
/-- all rows of n + 1 counts with the sum s, in order -/
def sizedL : Nat → Nat → List (List Nat)
  | 0, s => [[s]]
  | n + 1, s => (List.range (s + 1)).flatMap fun i => (sizedL n i).map fun more => (s - i) :: more
theorem sized_len : ∀ (n s : Nat), ∀ ns ∈ sizedL n s, ns.length = n + 1
  | 0, s, ns, h => by
    rw [List.mem_singleton.mp (show ns ∈ [[s]] from h)]
    rfl
  | n + 1, s, ns, h => by
    obtain ⟨i, _, hi⟩ := List.mem_flatMap.mp (show ns ∈ (List.range (s + 1)).flatMap _ from h)
    obtain ⟨more, hm, rfl⟩ := List.mem_map.mp hi
    rw [List.length_cons, sized_len n i more hm]
theorem sized_few : ∀ n ≤ 2, ∀ s ≤ 3, (sizedL n s).length ≤ 10 := by decide +kernel
def natV (ns : List Nat) : List V := ns.map fun n => V.int (n : Nat)
/-- the tuple of these counts stands at v -/
def TupN (H : Hp) (v : V) (ns : List Nat) : Prop := ∃ u, v = .ref u ∧ H u = some (.tup (natV ns))
theorem TupN.keep : Mono TupN := fun H H' v q e h => by
  obtain ⟨u, rfl, z⟩ := h
  exact ⟨u, rfl, e _ _ z (fun _ y => nomatch y)⟩
theorem TupN.same {H H' : Hp} {v : V} {q : List Nat} (h : TupN H v q) (e : Same H H') : TupN H' v q := TupN.keep _ _ _ _ (Keep.of e) h
/-- the rows up to the i-th first count -/
def sizedUp (m s i : Nat) : List (List Nat) := (List.range i).flatMap fun j => (sizedL m j).map fun more => (s - j) :: more
theorem sizedUp_succ (m s i : Nat) : sizedUp m s (i + 1) = sizedUp m s i ++ (sizedL m i).map fun more => (s - i) :: more := by
  unfold sizedUp
  rw [List.range_succ, List.flatMap_append]
  simp
theorem g_irng3 {ta : TA} {σ : L2.St} {H : Hp} {R : It → Hp → Prop} (h : ta σ H fun vs H1 => ∃ (i j c : Int) (n : Nat), vs = [.int i, .int j, .int c] ∧ RgC i j c n ∧ R (Itc i c n) H1) : iRng3 ta σ H R := h
section
variable {P : Program} {w : World} {K : PySem.W.Frag} {mg : Str → Option Value} {base : Heap}
def spSized (K : PySem.W.Frag) (n : Nat) : Sp := fun vs H Q _ => ∃ (t : Addr) (xs : List V) (s : Nat), vs = [.ref t, .int s] ∧ SqT K H t xs ∧ xs.length = n + 1 ∧ s ≤ 3 ∧ ∀ H' q ts, H q = none → Same H H' → H' q = some (.lst ts) → Paired (TupN H') ts (sizedL n s) → Q (.ref q) H'
def spRec (K : PySem.W.Frag) : Nat → Sp
  | 0 => fun _ _ _ _ => False
  | m + 1 => spSized K m
abbrev NS : List Str := ["_law_sorts", "_law_size", "_law_found", "_law_first", "_law_more"]
end
end My
set_option Elab.async false
set_option maxRecDepth 100000
set_option maxHeartbeats 8000000
namespace My
open PySem PySem.Spec PyProof.Rows L2
local macro_rules | `(tactic| walk_at "cond") => `(tactic| first
  | exact Or.inr ⟨by decide, by decide⟩ | exact Or.inl ⟨by decide, by decide⟩ | exact ⟨by decide, by decide, by decide⟩ | exact ⟨by decide, by decide⟩
  | (refine Or.inl ⟨?_, ?_⟩ <;> omega) | (refine Or.inr ⟨?_, ?_⟩ <;> omega)
  | (show (0 : Int) < _; omega))
local macro_rules | `(tactic| walk_at "mem") => `(tactic| first | exact List.Mem.head _ | exact List.Mem.tail _ (List.Mem.head _) | exact Put.head | (refine List.Mem.tail _ ?_; walk_at "mem") | (apply Put.tail; walk_at "mem"))
local macro_rules | `(tactic| walk_at "st") => `(tactic| first
  | with_reducible refine g_seq ?_ | with_reducible refine g_asg ?_ | with_reducible refine g_name ?_ | ((with_reducible show tVar _ _ _ _); refine g_var rfl ?_) | with_reducible refine g_c ?_
  | with_reducible refine g_op ?_ | with_reducible refine g_test ?_ | with_reducible refine g_bl ?_
  | with_reducible refine g_cb ?_ | with_reducible refine g_cons ?_ | with_reducible refine g_nil ?_ | with_reducible refine g_tif ?_ | with_reducible refine g_ifs ?_ | with_reducible refine g_ret ?_
  | with_reducible refine g_drop ?_ | with_reducible refine g_next ?_
  | with_reducible refine g_i0 ?_ | ((with_reducible show rI _ _ _ _ _ _); refine g_i (by walk_at "cond") ?_) | with_reducible refine g_int ?_ | with_reducible refine g_abs ?_ | with_reducible refine g_or ?_
  | with_reducible refine g_and ?_ | with_reducible refine g_not ?_ | with_reducible refine g_lst ?_ | with_reducible refine g_tup ?_
  | with_reducible refine iteT ?_ | with_reducible refine iteF ?_ | with_reducible refine g_par ?_ | with_reducible refine g_two ?_ | with_reducible refine g_sub ?_
  | ((with_reducible show rIxL _ (V.ref _) (V.int _) _ _); refine g_ixM (by assumption) (by walk_at "mem") rfl rfl ?_)
  | ((with_reducible show rSetL (V.ref _) (V.int _) _ _ _); refine g_setM (by assumption) rfl (by walk_at "mem") fun _ _ => ?_)
  | with_reducible refine g_xmk ?_ | with_reducible refine g_xmkK ?_
  | ((with_reducible show XNew _ (spI1 _ _) _ _ _); refine g_x1 (by assumption) fun _ _ _ _ => ?_)
  | ((with_reducible show XNewK _ _ (spI1 _ _) _ _ _ _); refine g_x1k (by assumption) fun _ _ _ _ => ?_)
  | ((with_reducible show XNew _ (spI3 _ _ _ _) _ _ _); refine g_x3 (by assumption) fun _ _ _ _ => ?_)
  | ((with_reducible show tXmk0 _ _ _ _); refine g_xmk0 (by assumption) fun _ _ _ => ?_)
  | ((with_reducible show NewO _ _ _ _); refine g_newo (by assumption) (by first | decide | simp) fun _ _ _ _ => ?_)
  | ((with_reducible show rCat (V.ref _) (V.ref _) _ _); refine g_cat (by assumption) (by walk_at "mem") (by walk_at "mem") (by first | decide | simp) fun _ _ _ _ => ?_))
local macro_rules | `(tactic| walk_at "st") => `(tactic| first | with_reducible refine g_tcall ?_ | with_reducible refine g_tb ?_ | with_reducible refine g_andV ?_ | with_reducible refine g_notV ?_ | with_reducible refine g_chain ?_ | with_reducible refine g_un ?_ | with_reducible refine g_rU ?_)
theorem seqLS {K : PySem.W.Frag} {H H' : Hp} {a : Addr} {xs : List V} (e : Same H H') (h : SqL K H a xs) : SqL K H' a xs := by
  rcases h with (h | ⟨o, h⟩) | h
  · exact .inl (.inl (e _ _ h))
  · exact .inl (.inr ⟨o, e _ _ h⟩)
  · exact .inr h
/-- the pairs of the names with a count -/
def pairsOf (ks : List Str) (ns : List Int) : List (Str × Int) := (ks.zip ns).filter fun p => decide (0 < p.2)
theorem zip_sub : ∀ (ks : List Str) (ns : List Int), ((ks.zip ns).map (·.1)).Sublist ks
  | [], _ => by simp
  | _ :: _, [] => by simp
  | k :: ks, n :: ns => by
    rw [List.zip_cons_cons, List.map_cons]
    exact (zip_sub ks ns).cons₂ k
theorem pairsOf_sub (ks : List Str) (ns : List Int) : ((pairsOf ks ns).map (·.1)).Sublist ks := (List.filter_sublist.map _).trans (zip_sub ks ns)
theorem pairsOf_good {ks : List Str} {ns : List Int} (h1 : ∀ k ∈ ks, nameB k = true) (h2 : ks.Nodup) : GoodP (pairsOf ks ns) where
  name := fun p hp => h1 _ ((pairsOf_sub ks ns).subset (List.mem_map_of_mem hp))
  count := fun p hp => by
    have z := of_decide_eq_true (List.mem_filter.mp hp).2
    omega
  nd := h2.sublist (pairsOf_sub ks ns)
theorem pairsOf_len (ks : List Str) (ns : List Int) : (pairsOf ks ns).length ≤ ks.length := by
  have z := (pairsOf_sub ks ns).length_le
  rwa [List.length_map] at z
theorem g_lczA {K : PySem.W.Frag} {ta : TA} {g : TG} {tt : TT} {te : TE} {vs : List Nat} {σ : L2.St} {H : Hp} {Q : VK} (h : ta σ H fun us H1 => ∃ a b xs ys, us = [.ref a, .ref b] ∧ (SqL K H1 a xs ∧ SqL K H1 b ys ∧ (∀ D, H1 D = none → ∃ W : Nat → Nat → Hp → Prop, (∃ m, W 0 m (upd H1 D (.lst []))) ∧ ∀ i m H, W i m H →
      ((Itz K a b).stop i H ∧ Q (.ref D) H) ∨ ((Itz K a b).go i H ∧ ∃ Nx : Hp → Prop, (∀ H', Nx H' → ∃ m', m' < m ∧ W (i + 1) m' H') ∧ ∀ x H', (Itz K a b).yld i H x H' → g x (wipe σ vs) H' fun σ2 H2 => wipe σ2 vs = wipe σ vs ∧ tt σ2 H2 fun b H3 =>
        if b = true then te σ2 H3 fun y H4 => ∃ acc, H4 D = some (.lst acc) ∧ acc.length < sizeLine ∧ Nx (upd H4 D (.lst (acc ++ [y]))) else Nx H3)) ∨ SqT K H1 a xs ∧ SqT K H1 b ys ∧ ∀ D, H1 D = none → ∃ W : Nat → Nat → Hp → Prop, (∃ m, W 0 m (upd H1 D (.lst []))) ∧ ∀ i m H, W i m H →
      ((RZ.ItzT K a b).stop i H ∧ Q (.ref D) H) ∨ ((RZ.ItzT K a b).go i H ∧ ∃ Nx : Hp → Prop, (∀ H', Nx H' → ∃ m', m' < m ∧ W (i + 1) m' H') ∧ ∀ x H', (RZ.ItzT K a b).yld i H x H' → g x (wipe σ vs) H' fun σ2 H2 => wipe σ2 vs = wipe σ vs ∧ tt σ2 H2 fun b H3 =>
        if b = true then te σ2 H3 fun y H4 => ∃ acc, H4 D = some (.lst acc) ∧ acc.length < sizeLine ∧ Nx (upd H4 D (.lst (acc ++ [y]))) else Nx H3))) : tLc (RZ.iZipA K ta) g tt te vs σ H Q := h
theorem g_lczM {K : PySem.W.Frag} {ta : TA} {g : TG} {tt : TT} {te : TE} {vs : List Nat} {σ : L2.St} {H : Hp} {Q : VK} (h : ta σ H fun us H1 => ∃ a b xs ys, us = [.ref a, .ref b] ∧ SqT K H1 a xs ∧ SqL K H1 b ys ∧ ∀ D, H1 D = none → ∃ W : Nat → Nat → Hp → Prop, (∃ m, W 0 m (upd H1 D (.lst []))) ∧ ∀ i m H, W i m H →
      ((ItzM K a b).stop i H ∧ Q (.ref D) H) ∨ ((ItzM K a b).go i H ∧ ∃ Nx : Hp → Prop, (∀ H', Nx H' → ∃ m', m' < m ∧ W (i + 1) m' H') ∧ ∀ x H', (ItzM K a b).yld i H x H' → g x (wipe σ vs) H' fun σ2 H2 => wipe σ2 vs = wipe σ vs ∧ tt σ2 H2 fun b H3 =>
        if b = true then te σ2 H3 fun y H4 => ∃ acc, H4 D = some (.lst acc) ∧ acc.length < sizeLine ∧ Nx (upd H4 D (.lst (acc ++ [y]))) else Nx H3)) : tLc (iZipM K ta) g tt te vs σ H Q := h
section
variable {P : Program} {w : World} {K : PySem.W.Frag} {mg : Str → Option Value} {base : Heap}
def intV (ns : List Int) : List V := ns.map V.int
theorem load_it {J : It} {n : Nat} {G : Hp → Prop} {ks : List Str} {ns : List Int} (w : Walk J n G (YPair (fun i => (ks.map V.str)[i]?) (fun i => (intV ns)[i]?))) (hn : n = ks.length) (hl : ks.length = ns.length) (few : ks.length < 64) {H1 : Hp} {D t c : Addr} {Qd : Hp → Prop} (hG : ∀ H, Same H1 H → G H) (hD : H1 D = none)
    (hd : ∀ H' acc, Same H1 H' → H' D = some (.lst acc) → Paired (PairAt H') acc (pairsOf ks ns) → Qd H') :
    ∃ W : Nat → Nat → Hp → Prop, (∃ m, W 0 m (upd H1 D (.lst []))) ∧ ∀ i m H, W i m H →
      (J.stop i H ∧ Qd H) ∨ (J.go i H ∧ ∃ Nx : Hp → Prop, (∀ H', Nx H' → ∃ m', m' < m ∧ W (i + 1) m' H') ∧ ∀ x H', J.yld i H x H' → gTup K 2 (gCons (gName 2) (gCons (gName 3) gNil)) x (wipe [some (.ref t), some (.ref c), none, none] [2, 3]) H' fun σ2 H2 => wipe σ2 [2, 3] = wipe [some (.ref t), some (.ref c), none, none] [2, 3] ∧ tTest (tOp (rI0 fun i j => .bl (decide (j < i))) (tVar 3) (tC (.int 0))) σ2 H2 fun b H3 =>
        if b = true then tTup (tCons (tVar 2) (tCons (tVar 3) tNil)) σ2 H3 fun y H4 => ∃ acc, H4 D = some (.lst acc) ∧ acc.length < sizeLine ∧ Nx (upd H4 D (.lst (acc ++ [y]))) else Nx H3) := by
  refine lcS w PairAt PairAt.keep (fun i l => l = ((ks.zip ns).take i).filter fun p => decide (0 < p.2)) rfl hD (by omega) hG ?_ ?_
  · rintro i x H H' l hi s1 rfl ⟨T, x0, y0, rfl, hT, rfl, hx, hy⟩ KT KF kt kf
    have hk : i < ks.length := by omega
    have hi2 : i < ns.length := by omega
    have hz : i < (ks.zip ns).length := by
      rw [List.length_zip]
      omega
    dsimp only at hx hy
    have ex : x0 = .str ks[i] := by
      rw [List.getElem?_map, List.getElem?_eq_getElem hk] at hx
      exact (Option.some.inj hx).symm
    have ey : y0 = .int ns[i] := by
      unfold intV at hy
      rw [List.getElem?_map, List.getElem?_eq_getElem hi2] at hy
      exact (Option.some.inj hy).symm
    subst ex ey
    have s2 : Same H (upd H T (.tup [.str ks[i], .int ns[i]])) := sameNew hT
    have e2 : upd H T (.tup [.str ks[i], .int ns[i]]) T = some (.tup [.str ks[i], .int ns[i]]) := upd_same
    generalize upd H T (.tup [.str ks[i], .int ns[i]]) = H2 at s2 e2
    have nx : ((ks.zip ns).take (i + 1)).filter (fun p => decide (0 < p.2)) = ((ks.zip ns).take i).filter (fun p => decide (0 < p.2)) ++ if 0 < ns[i] then [(ks[i], ns[i])] else [] := by
      rw [List.take_add_one, List.getElem?_eq_getElem hz, List.filter_append, List.getElem_zip]
      congr 1
      show List.filter _ [(ks[i], ns[i])] = _
      by_cases h : 0 < ns[i]
      · rw [if_pos h, List.filter_cons_of_pos (by simpa using h)]
        rfl
      · rw [if_neg h, List.filter_cons_of_neg (by simpa using h)]
        rfl
    refine ⟨T, _, rfl, SqT.of e2, rfl, _, _, rfl, g_name ⟨_, _, rfl, g_name ⟨rfl, ?_⟩⟩⟩
    refine ⟨rfl, ?_⟩
    repeat walk_at "st"
    by_cases h : 0 < ns[i]
    · rw [if_pos h] at nx
      refine g_iteT h ?_
      refine g_tup <| g_cons <| g_var rfl <| g_cons <| g_var rfl <| g_nil ⟨(by show 2 ≤ sizeLine; decide), fun p hp => ?_⟩
      exact kt _ _ (ks[i], ns[i]) (s2.trans (sameNew hp)) nx.symm ⟨p, rfl, upd_same⟩
    · rw [if_neg h, List.append_nil] at nx
      refine g_iteF h ?_
      exact kf _ s2 nx.symm
  · rintro H acc l s1 d1 pr rfl
    rw [show n = (ks.zip ns).length by rw [List.length_zip]; omega, List.take_length] at pr
    exact hd H acc s1 d1 pr
def spLoad (K : PySem.W.Frag) (C : Addr) : Sp := fun vs H Q _ => ∃ (t c : Addr) (ks : List Str) (ns : List Int), vs = [.ref t, .ref c] ∧ SqT K H t (ks.map V.str) ∧ (SqT K H c (intV ns) ∨ SqL K H c (intV ns)) ∧ ks.length = ns.length ∧ ks.length < 64 ∧ (∀ k ∈ ks, nameB k = true) ∧ ks.Nodup ∧
  ∀ H' x rs, H x = none → Same H H' → Ordered (pairsOf ks ns) rs → LoadAt C H' x rs → Q (.ref x) H'
abbrev NL : List Str := ["_law_sorts", "_law_counts", "_law_kind", "_law_count"]
end
end My
set_option Elab.async false
set_option maxRecDepth 100000
set_option maxHeartbeats 8000000
namespace My
open PySem PySem.Spec PyProof.Rows L2
local macro_rules | `(tactic| walk_at "cond") => `(tactic| first
  | exact Or.inr ⟨by decide, by decide⟩ | exact Or.inl ⟨by decide, by decide⟩ | exact ⟨by decide, by decide, by decide⟩ | exact ⟨by decide, by decide⟩
  | (refine Or.inl ⟨?_, ?_⟩ <;> omega) | (refine Or.inr ⟨?_, ?_⟩ <;> omega)
  | (show (0 : Int) < _; omega))
local macro_rules | `(tactic| walk_at "mem") => `(tactic| first | exact List.Mem.head _ | exact List.Mem.tail _ (List.Mem.head _) | exact Put.head | (refine List.Mem.tail _ ?_; walk_at "mem") | (apply Put.tail; walk_at "mem"))
local macro_rules | `(tactic| walk_at "st") => `(tactic| first
  | with_reducible refine g_seq ?_ | with_reducible refine g_asg ?_ | with_reducible refine g_name ?_ | ((with_reducible show tVar _ _ _ _); refine g_var rfl ?_) | with_reducible refine g_c ?_
  | with_reducible refine g_op ?_ | with_reducible refine g_test ?_ | with_reducible refine g_bl ?_
  | with_reducible refine g_cb ?_ | with_reducible refine g_cons ?_ | with_reducible refine g_nil ?_ | with_reducible refine g_tif ?_ | with_reducible refine g_ifs ?_ | with_reducible refine g_ret ?_
  | with_reducible refine g_drop ?_ | with_reducible refine g_next ?_
  | with_reducible refine g_i0 ?_ | ((with_reducible show rI _ _ _ _ _ _); refine g_i (by walk_at "cond") ?_) | with_reducible refine g_int ?_ | with_reducible refine g_abs ?_ | with_reducible refine g_or ?_
  | with_reducible refine g_and ?_ | with_reducible refine g_not ?_ | with_reducible refine g_lst ?_ | with_reducible refine g_tup ?_
  | with_reducible refine iteT ?_ | with_reducible refine iteF ?_ | with_reducible refine g_par ?_ | with_reducible refine g_two ?_ | with_reducible refine g_sub ?_
  | ((with_reducible show rIxL _ (V.ref _) (V.int _) _ _); refine g_ixM (by assumption) (by walk_at "mem") rfl rfl ?_)
  | ((with_reducible show rSetL (V.ref _) (V.int _) _ _ _); refine g_setM (by assumption) rfl (by walk_at "mem") fun _ _ => ?_)
  | with_reducible refine g_xmk ?_ | with_reducible refine g_xmkK ?_
  | ((with_reducible show XNew _ (spI1 _ _) _ _ _); refine g_x1 (by assumption) fun _ _ _ _ => ?_)
  | ((with_reducible show XNewK _ _ (spI1 _ _) _ _ _ _); refine g_x1k (by assumption) fun _ _ _ _ => ?_)
  | ((with_reducible show XNew _ (spI3 _ _ _ _) _ _ _); refine g_x3 (by assumption) fun _ _ _ _ => ?_)
  | ((with_reducible show tXmk0 _ _ _ _); refine g_xmk0 (by assumption) fun _ _ _ => ?_)
  | ((with_reducible show NewO _ _ _ _); refine g_newo (by assumption) (by first | decide | simp) fun _ _ _ _ => ?_)
  | ((with_reducible show rCat (V.ref _) (V.ref _) _ _); refine g_cat (by assumption) (by walk_at "mem") (by walk_at "mem") (by first | decide | simp) fun _ _ _ _ => ?_))
local macro_rules | `(tactic| walk_at "st") => `(tactic| first | with_reducible refine g_tcall ?_ | with_reducible refine g_tb ?_ | with_reducible refine g_andV ?_ | with_reducible refine g_notV ?_ | with_reducible refine g_chain ?_ | with_reducible refine g_un ?_ | with_reducible refine g_rU ?_)
def leftP (ps qs : List (Str × Int)) : List (Str × Int) := ps.map fun p => (p.1, p.2 - countOf qs p.1)
def takenP (ps qs : List (Str × Int)) : List (Str × Int) := (leftP ps qs).filter fun p => decide (0 < p.2)
theorem takenP_good {ps qs : List (Str × Int)} (g : GoodP ps) : GoodP (takenP ps qs) := by
  have sub : ((takenP ps qs).map (·.1)).Sublist (ps.map (·.1)) := by
    have z : ((leftP ps qs).map (·.1)) = ps.map (·.1) := by
      unfold leftP
      rw [List.map_map]
      rfl
    rw [← z]
    exact List.filter_sublist.map _
  refine ⟨fun p hp => ?_, fun p hp => ?_, g.nd.sublist sub⟩
  · obtain ⟨r, hr, e⟩ := List.mem_map.mp (sub.subset (List.mem_map_of_mem hp))
    rw [← e]
    exact g.name r hr
  · have z := of_decide_eq_true (List.mem_filter.mp hp).2
    omega
theorem takenP_len (ps qs : List (Str × Int)) : (takenP ps qs).length ≤ ps.length := by
  have z := List.length_filter_le (fun p : Str × Int => decide (0 < p.2)) (leftP ps qs)
  have e : (leftP ps qs).length = ps.length := by
    unfold leftP
    rw [List.length_map]
  unfold takenP
  omega
section
variable {P : Program} {w : World} {K : PySem.W.Frag} {mg : Str → Option Value} {base : Heap}
def spTaken (K : PySem.W.Frag) : Sp := fun vs H Q _ => ∃ (t d : Addr) (ts : List V) (ps qs : List (Str × Int)), vs = [.ref t, .ref d] ∧ SqT K H t ts ∧ Paired (PairAt H) ts ps ∧ ps.length ≤ 1000 ∧ H d = some (.dK (kvOf qs)) ∧ ∀ H' b xs, Same H H' → SqT K H' b xs → Paired (PairAt H') xs (takenP ps qs) → Q (.ref b) H'
abbrev NTk : List Str := ["pairs", "counts", "left", "name", "count"]
theorem scTaken : FnScope NTk ["pairs", "counts"] (defScope s_taken_away) := ⟨rfl, rfl, rfl, by decide +kernel, rfl, by decide +kernel, by decide +kernel⟩
theorem ok_taken {f : Addr} {fd : FuncData} (F : Fun K "taken_away" "taken_away" s_taken_away f fd) (mT : mg "tuple" = none) : FnOk P w K mg base CX0 1 f fd ["pairs", "counts"] (spTaken K) := by
  refine F.ok scTaken (fun vs H Q E h => ?_) (fun cdv A outer s H vs Q E hr h => ?_)
  · obtain ⟨t, d, _, _, _, rfl, _⟩ := h
    rfl
  · obtain ⟨t, d, ts, ps, qs, rfl, hq, pr, few, hd, q⟩ := h
    have hu := hu_of hr
    refine ⟨_, pss_cons (ps_setLc (te := tTup (tCons (tVar 3) (tCons (tOp (rI0 fun i j => .int (i - j)) (tVar 4) (tDGet2 (tVar 1) (tVar 3) (tC (.int 0)))) tNil))) (i := 2) (own := [("name", 3), ("count", 4)]) (g := gTup K 2 (gCons (gName 3) (gCons (gName 4) gNil))) rfl scTaken.nd rfl rfl (sw_true rfl rfl rfl (by decide +kernel)) (pi_tup (pv 0))
        (blkOk_by (own := [("name", 3), ("count", 4)]) (N := NTk) (sc := defScope s_taken_away) (by decide +kernel)) (fun _ _ _ _ _ => pg_tup rfl (pgs_cons (pg_name (i := 3) scTaken.nd rfl (Or.inl rfl)) (pgs_cons (pg_name (i := 4) scTaken.nd rfl (Or.inl rfl)) pgs_nil))) (fun _ _ _ _ _ => pts_nil)
        (fun _ _ _ _ _ => pe_tup (pa_cons (pv 3) (pa_cons (pe_op op_sub (pv 4) (pe_dget2 hu (pv 1) (pv 3) pe_int ⟨rfl, rfl, rfl, rfl⟩)) pa_nil))))
      (pss_one (ps_ret (pe_callTy (r := rTupZ K) call_tupZ (by rfl) mT PyProof.Rows.boot_tuple (pa_cons (pe_lc (te := tTup (tCons (tVar 3) (tCons (tVar 4) tNil))) (own := [("name", 3), ("count", 4)]) (g := gTup K 2 (gCons (gName 3) (gCons (gName 4) gNil))) rfl scTaken.nd (pi_list (pv 2))
        (blkOk_by (own := [("name", 3), ("count", 4)]) (N := NTk) (sc := defScope s_taken_away) (by decide +kernel)) (fun _ _ _ _ _ => pg_tup rfl (pgs_cons (pg_name (i := 3) scTaken.nd rfl (Or.inl rfl)) (pgs_cons (pg_name (i := 4) scTaken.nd rfl (Or.inl rfl)) pgs_nil))) (fun _ _ _ _ _ => pts_one (pt_cmpR op_gt (pv 4) pe_int (nomark _)))
        (fun _ _ _ _ _ => pe_tup (pa_cons (pv 3) (pa_cons (pv 4) pa_nil)))) pa_nil)))), ?_⟩
    have lx : ts.length = ps.length := pr.length
    refine g_seq <| g_asg <| g_lctup <| g_var rfl ⟨t, rfl, ⟨ts, hq⟩, fun D hD => lcS walk_tup PairAt PairAt.keep (fun i l => l = (ps.take i).map fun p => (p.1, p.2 - countOf qs p.1)) rfl hD (by omega) (fun H1 s1 => Same.seqT' s1 hq) ?_ ?_⟩
    · rintro i x H1 H1' l hi s1 rfl ⟨rfl, hx⟩ KT KF kt kf
      have hi' : i < ps.length := by omega
      obtain ⟨u, rfl, eu⟩ := pairedGet pr hx (List.getElem?_eq_getElem hi')
      have d1 := s1 _ _ hd
      refine ⟨u, _, rfl, SqT.of (s1 _ _ eu), rfl, _, _, rfl, g_name ⟨_, _, rfl, g_name ⟨rfl, ?_⟩⟩⟩
      refine ⟨rfl, ?_⟩
      unfold tYes
      refine iteT <| g_tup <| g_cons <| g_var rfl <| g_cons <| g_op <| g_var rfl <| g_dget2 (g_var rfl ⟨d, rfl, .inl ⟨_, .inl d1⟩, g_var rfl (g_c ⟨_, DGet.k (k := Sum.inr ps[i].1) d1, ?_⟩)⟩)
      rw [kv_count]
      refine g_i0 <| g_nil ⟨(by show 2 ≤ sizeLine; decide), fun p hp => ?_⟩
      exact kt _ _ (ps[i].1, ps[i].2 - countOf qs ps[i].1) (sameNew hp) (take_map_succ hi').symm ⟨p, rfl, upd_same⟩
    rintro H1 acc l s1 d1 pr2 rfl
    rw [lx, List.take_length] at pr2
    replace pr2 : Paired (PairAt H1) acc (leftP ps qs) := pr2
    have la := pr2.length
    have ll : (leftP ps qs).length = ps.length := by
      unfold leftP
      rw [List.length_map]
    refine g_name ?_
    dsimp only
    refine g_ret <| g_cb <| g_cons <| g_lclist <| g_var rfl ⟨D, rfl, ⟨_, SqL.of d1⟩, fun D2 hD2 => lcS walk_list PairAt PairAt.keep (fun i l => l = ((leftP ps qs).take i).filter fun p => decide (0 < p.2)) rfl hD2 (by omega) (fun H2 s2 => SqL.of (s2 _ _ d1)) ?_ ?_⟩
    · rintro i x H2 H2' l hi s2 rfl ⟨rfl, hx⟩ KT KF kt kf
      have hi' : i < (leftP ps qs).length := by omega
      obtain ⟨u, rfl, eu⟩ := pairedGet pr2 hx (List.getElem?_eq_getElem hi')
      have nx : ((leftP ps qs).take (i + 1)).filter (fun p => decide (0 < p.2)) = ((leftP ps qs).take i).filter (fun p => decide (0 < p.2)) ++ if 0 < ((leftP ps qs)[i]).2 then [(leftP ps qs)[i]] else [] := by
        rw [List.take_add_one, List.getElem?_eq_getElem hi', List.filter_append]
        congr 1
        show List.filter _ [(leftP ps qs)[i]] = _
        by_cases h : 0 < ((leftP ps qs)[i]).2
        · rw [if_pos h, List.filter_cons_of_pos (by simpa using h)]
          rfl
        · rw [if_neg h, List.filter_cons_of_neg (by simpa using h)]
          rfl
      refine ⟨u, _, rfl, SqT.of (s2 _ _ eu), rfl, _, _, rfl, g_name ⟨_, _, rfl, g_name ⟨rfl, ?_⟩⟩⟩
      refine ⟨rfl, ?_⟩
      repeat walk_at "st"
      by_cases h : 0 < ((leftP ps qs)[i]).2
      · rw [if_pos h] at nx
        refine g_iteT h ?_
        refine g_tup <| g_cons <| g_var rfl <| g_cons <| g_var rfl <| g_nil ⟨(by show 2 ≤ sizeLine; decide), fun p hp => ?_⟩
        exact kt _ _ (leftP ps qs)[i] (sameNew hp) nx.symm ⟨p, rfl, upd_same⟩
      · rw [if_neg h, List.append_nil] at nx
        exact g_iteF h (kf _ (Same.refl _) nx.symm)
    · rintro H2 acc2 l s2 d2 pr3 rfl
      rw [la, List.take_length] at pr3
      refine g_nil ⟨D2, acc2, rfl, SqL.of d2, fun b o hb _ => ?_⟩
      have s3 : Same H2 (upd H2 b (.frz o (.tup acc2))) := sameNew hb
      exact q _ b acc2 ((s1.trans s2).trans s3) (.inl (.inr ⟨o, upd_same⟩)) (pairedMono (fun _ _ h => PairAt.same h s3) pr3)
end
end My
set_option Elab.async false
set_option maxRecDepth 100000
set_option maxHeartbeats 8000000
namespace My
open PySem PySem.Spec PyProof.Rows L2
local macro_rules | `(tactic| walk_at "cond") => `(tactic| first
  | exact Or.inr ⟨by decide, by decide⟩ | exact Or.inl ⟨by decide, by decide⟩ | exact ⟨by decide, by decide, by decide⟩ | exact ⟨by decide, by decide⟩
  | (refine Or.inl ⟨?_, ?_⟩ <;> omega) | (refine Or.inr ⟨?_, ?_⟩ <;> omega)
  | (show (0 : Int) < _; omega))
local macro_rules | `(tactic| walk_at "mem") => `(tactic| first | exact List.Mem.head _ | exact List.Mem.tail _ (List.Mem.head _) | exact Put.head | (refine List.Mem.tail _ ?_; walk_at "mem") | (apply Put.tail; walk_at "mem"))
local macro_rules | `(tactic| walk_at "st") => `(tactic| first
  | with_reducible refine g_seq ?_ | with_reducible refine g_asg ?_ | with_reducible refine g_name ?_ | ((with_reducible show tVar _ _ _ _); refine g_var rfl ?_) | with_reducible refine g_c ?_
  | with_reducible refine g_op ?_ | with_reducible refine g_test ?_ | with_reducible refine g_bl ?_
  | with_reducible refine g_cb ?_ | with_reducible refine g_cons ?_ | with_reducible refine g_nil ?_ | with_reducible refine g_tif ?_ | with_reducible refine g_ifs ?_ | with_reducible refine g_ret ?_
  | with_reducible refine g_drop ?_ | with_reducible refine g_next ?_
  | with_reducible refine g_i0 ?_ | ((with_reducible show rI _ _ _ _ _ _); refine g_i (by walk_at "cond") ?_) | with_reducible refine g_int ?_ | with_reducible refine g_abs ?_ | with_reducible refine g_or ?_
  | with_reducible refine g_and ?_ | with_reducible refine g_not ?_ | with_reducible refine g_lst ?_ | with_reducible refine g_tup ?_
  | with_reducible refine iteT ?_ | with_reducible refine iteF ?_ | with_reducible refine g_par ?_ | with_reducible refine g_two ?_ | with_reducible refine g_sub ?_
  | ((with_reducible show rIxL _ (V.ref _) (V.int _) _ _); refine g_ixM (by assumption) (by walk_at "mem") rfl rfl ?_)
  | ((with_reducible show rSetL (V.ref _) (V.int _) _ _ _); refine g_setM (by assumption) rfl (by walk_at "mem") fun _ _ => ?_)
  | with_reducible refine g_xmk ?_ | with_reducible refine g_xmkK ?_
  | ((with_reducible show XNew _ (spI1 _ _) _ _ _); refine g_x1 (by assumption) fun _ _ _ _ => ?_)
  | ((with_reducible show XNewK _ _ (spI1 _ _) _ _ _ _); refine g_x1k (by assumption) fun _ _ _ _ => ?_)
  | ((with_reducible show XNew _ (spI3 _ _ _ _) _ _ _); refine g_x3 (by assumption) fun _ _ _ _ => ?_)
  | ((with_reducible show tXmk0 _ _ _ _); refine g_xmk0 (by assumption) fun _ _ _ => ?_)
  | ((with_reducible show NewO _ _ _ _); refine g_newo (by assumption) (by first | decide | simp) fun _ _ _ _ => ?_)
  | ((with_reducible show rCat (V.ref _) (V.ref _) _ _); refine g_cat (by assumption) (by walk_at "mem") (by walk_at "mem") (by first | decide | simp) fun _ _ _ _ => ?_))
local macro_rules | `(tactic| walk_at "st") => `(tactic| first | with_reducible refine g_tcall ?_ | with_reducible refine g_tb ?_ | with_reducible refine g_andV ?_ | with_reducible refine g_notV ?_ | with_reducible refine g_chain ?_ | with_reducible refine g_un ?_ | with_reducible refine g_rU ?_)
section
variable {P : Program} {w : World} {K : PySem.W.Frag} {mg : Str → Option Value} {base : Heap}
def spSub (K : PySem.W.Frag) (C CL CA : Addr) : Sp := fun vs H Q E => ∃ a ps v r, vs = [.ref a, v] ∧ LoadAt C H a ps ∧ LoadK K C H v r ∧ match r with
  | none => BadV CL "value" v H E
  | some qs => GoodP ps ∧ ps.length < 64 ∧ match lackOf qs ps with
    | some s => BadV CA "name" (.str s) H E
    | none => ∀ H' x rs, H x = none → Same H H' → Ordered (takenP ps qs) rs → LoadAt C H' x rs → Q (.ref x) H'
theorem scSub : FnScope ["self", "other", "name"] ["self", "other"] (defScope s_Load___sub__) := ⟨rfl, rfl, rfl, by decide +kernel, rfl, by decide +kernel, by decide +kernel⟩
theorem ok_sub {f C CL CA CP fI fI2 p gO : Addr} {mc : Value} {fd fdN fdA fdO : FuncData} {B newId initId B2 newId2 initId2 : String} {bmB bmB2 : List Value} (F : Fun K "__sub__" "Load.__sub__" s_Load___sub__ f fd) (c : LoadC K C) (mI : mg "isinstance" = none) (mL : mg "Load" = some (.ref C))
    (TN : XCls P w K mg base "NotALoad" CL fI B newId initId bmB ["self", "value"] (spI1 CL "value") fdN) (TA_ : XCls P w K mg base "Lacking" CA fI2 B2 newId2 initId2 bmB2 ["self", "name"] (spI1 CA "name") fdA)
    (SM : SMet K C mc "of" p gO) (FO : FnOk P w K mg base (L2.CX P w) 7 gO fdO ["pairs"] (spOf K C CP)) (bO : Binds K fdO ["pairs"] []) (CF : Cal P w K mg base 1 "first_lacking" ["pairs", "counts"] (spLack K)) (CT : Cal P w K mg base 1 "taken_away" ["pairs", "counts"] (spTaken K)) :
    FnOk P w K mg base (L2.CX P w) 8 f fd ["self", "other"] (spSub K C CL CA) := by
  refine F.okX scSub (fun vs H Q E h => ?_) (fun cdv A outer s H vs Q E hr h => ?_)
  · obtain ⟨a, _, v, _, rfl, _⟩ := h
    rfl
  · obtain ⟨a, ps, v, r, rfl, la, lk, q⟩ := h
    have hr1 := hr.mono (by decide : 1 ≤ 7)
    have hr2 := hr.mono (by decide : 2 ≤ 7)
    have tk := takes_of (X := cxOf (L2.CX P w) P w K mg base ["self", "other", "name"] "Load.__sub__" (defScope s_Load___sub__) f cdv A outer s H E) (E := E) rfl rfl rfl rfl
    refine ⟨_, pss_cons (ps_if (pt_not (pt_val (pIsi mI (pv 1) (pG mL)))) (pss_one (ps_raise rfl tk (pmk_x TN hr2 rfl (pa_cons (pv 1) pa_nil)))) pss_nil)
      (pss_cons (ps_set (i := 2) scSub.nd rfl (Or.inl rfl) (pCal CF hr1 (pa_cons (pe_fld (pv 1) rfl) (pa_cons (pe_fld (pv 0) rfl) pa_nil))))
      (pss_cons (ps_if (pt_cmpR op_notN (pv 2) pe_non (nomark _)) (pss_one (ps_raise rfl tk (pmk_x TA_ hr2 rfl (pa_cons (pv 2) pa_nil)))) pss_nil)
      (pss_one (ps_ret (pe_smeth (pG mL) SM FO hr bO (passes_call tk fun _ _ _ _ h => h) (pa_cons (pCal CT hr1 (pa_cons (pe_fld (pv 0) rfl) (pa_cons (pe_fld (pv 1) rfl) pa_nil))) pa_nil)))))), ?_⟩
    repeat walk_at "st"
    refine loadK_isi c lk ?_
    refine g_bl ?_
    cases lk with
    | no ty k =>
      refine iteT ?_
      refine g_cons (g_var rfl (g_nil ?_))
      exact rx1_ok fun d hd => q H d (Same.refl H) hd
    | @load b qs lb =>
      obtain ⟨gp, few, q⟩ := q
      obtain ⟨dx, t, d, ts, e1, tz, pr, e3⟩ := la
      obtain ⟨dx', t', d', ts', e1', tz', pr', e3'⟩ := lb
      refine iteF ?_
      repeat walk_at "st"
      refine g_fld (g_var rfl ?_)
      refine ⟨b, C, dx', _, _, rfl, e1', c.ic.cl, c.n1, rfl, g_cons (g_fld (g_var rfl ?_))⟩
      refine ⟨a, C, dx, _, _, rfl, e1, c.ic.cl, c.n2, rfl, g_nil ?_⟩
      refine ⟨t', d, ts', qs, ps, rfl, tz'.seq, pr', e3, fun H1 s1 => ?_⟩
      cases hl : lackOf qs ps with
      | some s =>
        rw [hl] at q
        repeat walk_at "st"
        refine ⟨rfl, ?_⟩
        refine g_bl (iteT ?_)
        refine g_cons (g_var rfl (g_nil ?_))
        exact rx1_ok fun d hd => q H1 d s1 hd
      | none =>
        rw [hl] at q
        repeat walk_at "st"
        refine ⟨rfl, ?_⟩
        refine g_bl (iteF ?_)
        repeat walk_at "st"
        refine ⟨rfl, ?_⟩
        refine g_cons (g_tcall (g_cons (g_fld (g_var rfl ?_))))
        refine ⟨a, C, dx, _, _, rfl, s1 _ _ e1, c.ic.cl, c.n1, rfl, g_cons (g_fld (g_var rfl ?_))⟩
        refine ⟨b, C, dx', _, _, rfl, s1 _ _ e1', c.ic.cl, c.n2, rfl, g_nil ?_⟩
        refine ⟨t, d', ts, ps, qs, rfl, (tz.same s1).seq, pairedMono (fun _ _ h => PairAt.same h s1) pr, by omega, s1 _ _ e3', fun H2 u xs s2 hu pr2 => g_nil ?_⟩
        refine of_good hu pr2 (takenP_good gp) (by have z := takenP_len ps qs; omega) fun H3 x rs hx s3 od lx => ?_
        exact q H3 x rs (none_back (s1.trans s2) hx) ((s1.trans s2).trans s3) od lx
end
end My
set_option Elab.async false
set_option maxRecDepth 100000
set_option maxHeartbeats 8000000
namespace My
open PySem PySem.Spec PyProof.Rows L2
local macro_rules | `(tactic| walk_at "cond") => `(tactic| first
  | exact Or.inr ⟨by decide, by decide⟩ | exact Or.inl ⟨by decide, by decide⟩ | exact ⟨by decide, by decide, by decide⟩ | exact ⟨by decide, by decide⟩
  | (refine Or.inl ⟨?_, ?_⟩ <;> omega) | (refine Or.inr ⟨?_, ?_⟩ <;> omega)
  | (show (0 : Int) < _; omega))
local macro_rules | `(tactic| walk_at "mem") => `(tactic| first | exact List.Mem.head _ | exact List.Mem.tail _ (List.Mem.head _) | exact Put.head | (refine List.Mem.tail _ ?_; walk_at "mem") | (apply Put.tail; walk_at "mem"))
local macro_rules | `(tactic| walk_at "st") => `(tactic| first
  | with_reducible refine g_seq ?_ | with_reducible refine g_asg ?_ | with_reducible refine g_name ?_ | ((with_reducible show tVar _ _ _ _); refine g_var rfl ?_) | with_reducible refine g_c ?_
  | with_reducible refine g_op ?_ | with_reducible refine g_test ?_ | with_reducible refine g_bl ?_
  | with_reducible refine g_cb ?_ | with_reducible refine g_cons ?_ | with_reducible refine g_nil ?_ | with_reducible refine g_tif ?_ | with_reducible refine g_ifs ?_ | with_reducible refine g_ret ?_
  | with_reducible refine g_drop ?_ | with_reducible refine g_next ?_
  | with_reducible refine g_i0 ?_ | ((with_reducible show rI _ _ _ _ _ _); refine g_i (by walk_at "cond") ?_) | with_reducible refine g_int ?_ | with_reducible refine g_abs ?_ | with_reducible refine g_or ?_
  | with_reducible refine g_and ?_ | with_reducible refine g_not ?_ | with_reducible refine g_lst ?_ | with_reducible refine g_tup ?_
  | with_reducible refine iteT ?_ | with_reducible refine iteF ?_ | with_reducible refine g_par ?_ | with_reducible refine g_two ?_ | with_reducible refine g_sub ?_
  | ((with_reducible show rIxL _ (V.ref _) (V.int _) _ _); refine g_ixM (by assumption) (by walk_at "mem") rfl rfl ?_)
  | ((with_reducible show rSetL (V.ref _) (V.int _) _ _ _); refine g_setM (by assumption) rfl (by walk_at "mem") fun _ _ => ?_)
  | with_reducible refine g_xmk ?_ | with_reducible refine g_xmkK ?_
  | ((with_reducible show XNew _ (spI1 _ _) _ _ _); refine g_x1 (by assumption) fun _ _ _ _ => ?_)
  | ((with_reducible show XNewK _ _ (spI1 _ _) _ _ _ _); refine g_x1k (by assumption) fun _ _ _ _ => ?_)
  | ((with_reducible show XNew _ (spI3 _ _ _ _) _ _ _); refine g_x3 (by assumption) fun _ _ _ _ => ?_)
  | ((with_reducible show tXmk0 _ _ _ _); refine g_xmk0 (by assumption) fun _ _ _ => ?_)
  | ((with_reducible show NewO _ _ _ _); refine g_newo (by assumption) (by first | decide | simp) fun _ _ _ _ => ?_)
  | ((with_reducible show rCat (V.ref _) (V.ref _) _ _); refine g_cat (by assumption) (by walk_at "mem") (by walk_at "mem") (by first | decide | simp) fun _ _ _ _ => ?_))
local macro_rules | `(tactic| walk_at "st") => `(tactic| first | with_reducible refine g_tcall ?_ | with_reducible refine g_tb ?_ | with_reducible refine g_andV ?_ | with_reducible refine g_notV ?_ | with_reducible refine g_chain ?_ | with_reducible refine g_un ?_ | with_reducible refine g_rU ?_)
def gr1 (ps : List (Str × Int)) (q : Str × Int) : List (Str × Int) := if countOf ps q.1 < q.2 then put1 ps q.1 (q.2 - countOf ps q.1) else ps
/-- the greater counts of both -/
def grP (ps : List (Str × Int)) : List (Str × Int) → List (Str × Int)
  | [] => ps
  | q :: qs => grP (gr1 ps q) qs
theorem grP_app : ∀ (l ps : List (Str × Int)) (q : Str × Int), grP ps (l ++ [q]) = gr1 (grP ps l) q
  | [], _, _ => rfl
  | x :: l, ps, q => grP_app l (gr1 ps x) q
theorem gr1_nd {ps : List (Str × Int)} {q : Str × Int} (nd : (ps.map (·.1)).Nodup) : ((gr1 ps q).map (·.1)).Nodup := by
  unfold gr1
  split
  · exact put1_nd nd _ _
  · exact nd
theorem grP_nd : ∀ {qs ps : List (Str × Int)}, (ps.map (·.1)).Nodup → ((grP ps qs).map (·.1)).Nodup
  | [], _, h => h
  | q :: qs, ps, h => grP_nd (qs := qs) (ps := gr1 ps q) (gr1_nd h)
theorem gr1_len (ps : List (Str × Int)) (q : Str × Int) : (gr1 ps q).length ≤ ps.length + 1 := by
  unfold gr1
  split
  · exact put1_len _ _ _
  · omega
theorem grP_len : ∀ {qs ps : List (Str × Int)}, (grP ps qs).length ≤ ps.length + qs.length
  | [], _ => Nat.le_refl _
  | q :: qs, ps => by
    have z := grP_len (qs := qs) (ps := gr1 ps q)
    have y := gr1_len ps q
    rw [List.length_cons]
    show (grP (gr1 ps q) qs).length ≤ _
    omega
theorem gr1_good {ps : List (Str × Int)} {q : Str × Int} (g : GoodP ps) (h : nameB q.1 = true) : GoodP (gr1 ps q) := by
  unfold gr1
  split
  · exact put1_good g h (by omega)
  · exact g
theorem grP_good : ∀ {qs ps : List (Str × Int)}, GoodP ps → (∀ p ∈ qs, nameB p.1 = true) → GoodP (grP ps qs)
  | [], _, g, _ => g
  | q :: qs, ps, g, h => grP_good (qs := qs) (ps := gr1 ps q) (gr1_good g (h q List.mem_cons_self)) fun p hp => h p (List.mem_cons_of_mem _ hp)
section
variable {P : Program} {w : World} {K : PySem.W.Frag} {mg : Str → Option Value} {base : Heap}
def spGreater (K : PySem.W.Frag) : Sp := fun vs H Q _ => ∃ (t1 t2 : Addr) (ts1 ts2 : List V) (ps qs : List (Str × Int)), vs = [.ref t1, .ref t2] ∧ TupZ H t1 ts1 ∧ Paired (PairAt H) ts1 ps ∧ (ps.map (·.1)).Nodup ∧ TupZ H t2 ts2 ∧ Paired (PairAt H) ts2 qs ∧ ps.length + qs.length < 64 ∧
  ∀ H' p ts rs, H p = none → Same H H' → TupZ H' p ts → Ordered (grP ps qs) rs → Paired (PairAt H') ts rs → Q (.ref p) H'
theorem scGreater : FnScope ["pairs", "more", "counts", "name", "count"] ["pairs", "more"] (defScope s_greater_of_both) := ⟨rfl, rfl, rfl, by decide +kernel, rfl, by decide +kernel, by decide +kernel⟩
theorem ok_greater {f : Addr} {fd : FuncData} (F : Fun K "greater_of_both" "greater_of_both" s_greater_of_both f fd) (mD : mg "dict" = none) (C1 : Cal P w K mg base 1 "by_name" ["counts"] (spByName K)) : FnOk P w K mg base CX0 2 f fd ["pairs", "more"] (spGreater K) := by
  refine F.ok scGreater (fun vs H Q E h => ?_) (fun cdv A outer s H vs Q E hr h => ?_)
  · obtain ⟨t1, t2, _, _, _, _, rfl, _⟩ := h
    rfl
  · obtain ⟨t1, t2, ts1, ts2, ps, qs, rfl, tz1, pr1, nd, tz2, pr2, few, q⟩ := h
    have hu := hu_of hr
    refine ⟨_, pss_cons (ps_set (i := 2) scGreater.nd rfl (Or.inl rfl) (pe_callTy (r := rDictZ) (call_dictZ rfl) (by rfl) mD PyProof.Rows.boot_dict (pa_cons (pv 0) pa_nil)))
      (pss_cons (ps_for PassesOwn.never rfl (pi_tup (pv 1)) (pg_tup rfl (pgs_cons (pg_name (i := 3) scGreater.nd rfl (Or.inl rfl)) (pgs_cons (pg_name (i := 4) scGreater.nd rfl (Or.inl rfl)) pgs_nil)))
        (pss_one (ps_if (pt_cmpR op_lt (pe_dget2 hu (pv 2) (pv 3) pe_int ⟨rfl, rfl, rfl, rfl⟩) (pv 4) (nomark _)) (pss_one (ps_dput hu (pv 2) (pv 3) (pv 4) rfl)) pss_nil)))
      (pss_one (ps_ret (pCal C1 hr (pa_cons (pv 2) pa_nil))))), ?_⟩
    refine g_seq (g_asg (g_cb (g_cons (g_var rfl (g_nil ?_)))))
    refine ⟨t1, ts1, ps, rfl, tz1, pr1, nd, fun d hd => ?_⟩
    have sd : Same H (upd H d (.dK (kvOf ps))) := sameNew hd
    have hd1 : upd H d (.dK (kvOf ps)) d = some (.dK (kvOf ps)) := upd_same
    generalize upd H d (.dK (kvOf ps)) = H1 at sd hd1
    have lx : ts2.length = qs.length := pr2.length
    refine g_name (g_seq ?_)
    refine ⟨_, rfl, t2, rfl, ⟨ts2, Same.seqT' sd tz2.seq⟩, for_tup (xs := ts2) (fun i σ H2 => ∃ v3 v4, σ = [some (.ref t1), some (.ref t2), some (.ref d), v3, v4] ∧ Same H H2 ∧ H2 d = some (.dK (kvOf (grP ps (qs.take i)))))
      ⟨none, none, rfl, sd, hd1⟩ (fun i σ H2 _ ⟨_, _, _, s2, _⟩ => Same.seqT' s2 tz2.seq) ?_ ?_⟩
    · rintro i x σ H2 hx ⟨v3, v4, rfl, s2, d2⟩
      have hi : i < qs.length := by
        have z := (List.getElem?_eq_some_iff.mp hx).1
        omega
      obtain ⟨u, rfl, eu⟩ := pairedGet pr2 hx (List.getElem?_eq_getElem hi)
      refine ⟨u, _, rfl, SqT.of (s2 _ _ eu), rfl, _, _, rfl, g_name ⟨_, _, rfl, g_name ⟨rfl, ?_⟩⟩⟩
      have la : (grP ps (qs.take i)).length ≤ 1000 := by
        have z := grP_len (qs := qs.take i) (ps := ps)
        rw [List.length_take] at z
        omega
      have e : qs.take (i + 1) = qs.take i ++ [qs[i]] := by rw [List.take_add_one, List.getElem?_eq_getElem hi]; rfl
      refine g_ifs <| g_test <| g_op <| g_dget2 (g_var rfl ⟨d, rfl, .inl ⟨_, .inl d2⟩, g_var rfl (g_c ⟨_, DGet.k (k := Sum.inr qs[i].1) d2, ?_⟩)⟩)
      rw [kv_count]
      refine g_var rfl <| g_i0 <| g_bl ?_
      by_cases c : countOf (grP ps (qs.take i)) qs[i].1 < qs[i].2
      · refine g_iteT c ?_
        refine g_dput (g_var rfl ?_)
        refine g_var rfl (g_var rfl ?_)
        refine ⟨d, _, rfl, DPut.k (k := Sum.inr qs[i].1) d2 (small1000 (by unfold kvOf; rw [List.length_map]; exact la)), ?_⟩
        have z := kv_put1 (grP ps (qs.take i)) qs[i].1 (qs[i].2 - countOf (grP ps (qs.take i)) qs[i].1)
        rw [show countOf (grP ps (qs.take i)) qs[i].1 + (qs[i].2 - countOf (grP ps (qs.take i)) qs[i].1) = qs[i].2 by omega] at z
        rw [z]
        refine ⟨_, _, rfl, fun b o y => ?_, ?_⟩
        · rw [upd_ne (ne_of_none y hd)]
          exact s2 _ _ y
        · rw [upd_same, e, grP_app]
          unfold gr1
          rw [if_pos c]
      · refine g_iteF c ?_
        refine ⟨_, _, rfl, s2, ?_⟩
        rw [e, grP_app]
        unfold gr1
        rw [if_neg c]
        exact d2
    · rintro σ H2 ⟨v3, v4, rfl, s2, d2⟩
      dsimp only
      rw [lx, List.take_length] at d2
      refine g_ret (g_tcall (g_cons (g_var rfl (g_nil ?_))))
      have la := grP_len (qs := qs) (ps := ps)
      exact ⟨d, grP ps qs, rfl, d2, grP_nd nd, by omega, fun H' p ts rs hp s3 tz od pr => q H' p ts rs (none_back s2 hp) (s2.trans s3) tz od pr⟩
def spOr (K : PySem.W.Frag) (C CL : Addr) : Sp := fun vs H Q E => ∃ a ps v r, vs = [.ref a, v] ∧ LoadAt C H a ps ∧ LoadK K C H v r ∧ match r with
  | none => BadV CL "value" v H E
  | some qs => GoodP ps ∧ GoodP qs ∧ ps.length + qs.length < 64 ∧ ∀ H' x rs, H x = none → Same H H' → Ordered (grP ps qs) rs → LoadAt C H' x rs → Q (.ref x) H'
theorem scOr : FnScope ["self", "other"] ["self", "other"] (defScope s_Load___or__) := ⟨rfl, rfl, rfl, by decide +kernel, rfl, by decide +kernel, by decide +kernel⟩
theorem ok_or {f C CL CP fI p gO : Addr} {mc : Value} {fd fdN fdO : FuncData} {B newId initId : String} {bmB : List Value} (F : Fun K "__or__" "Load.__or__" s_Load___or__ f fd) (c : LoadC K C) (mI : mg "isinstance" = none) (mL : mg "Load" = some (.ref C))
    (TN : XCls P w K mg base "NotALoad" CL fI B newId initId bmB ["self", "value"] (spI1 CL "value") fdN)
    (SM : SMet K C mc "of" p gO) (FO : FnOk P w K mg base (L2.CX P w) 7 gO fdO ["pairs"] (spOf K C CP)) (bO : Binds K fdO ["pairs"] []) (CA : Cal P w K mg base 2 "greater_of_both" ["pairs", "more"] (spGreater K)) : FnOk P w K mg base (L2.CX P w) 8 f fd ["self", "other"] (spOr K C CL) := by
  refine F.okX scOr (fun vs H Q E h => ?_) (fun cdv A outer s H vs Q E hr h => ?_)
  · obtain ⟨a, _, v, _, rfl, _⟩ := h
    rfl
  · obtain ⟨a, ps, v, r, rfl, la, lk, q⟩ := h
    have tk := takes_of (X := cxOf (L2.CX P w) P w K mg base ["self", "other"] "Load.__or__" (defScope s_Load___or__) f cdv A outer s H E) (E := E) rfl rfl rfl rfl
    refine ⟨_, pss_cons (ps_if (pt_not (pt_val (pIsi mI (pv 1) (pG mL)))) (pss_one (ps_raise rfl tk (pmk_x TN (hr.mono (by decide : 2 ≤ 7)) rfl (pa_cons (pv 1) pa_nil)))) pss_nil)
      (pss_one (ps_ret (pe_smeth (pG mL) SM FO hr bO (passes_call tk fun _ _ _ _ h => h) (pa_cons (pCal CA (hr.mono (by decide : 2 ≤ 7)) (pa_cons (pe_fld (pv 0) rfl) (pa_cons (pe_fld (pv 1) rfl) pa_nil))) pa_nil)))), ?_⟩
    repeat walk_at "st"
    refine loadK_isi c lk ?_
    refine g_bl ?_
    cases lk with
    | no ty k =>
      refine iteT ?_
      refine g_cons (g_var rfl (g_nil ?_))
      exact rx1_ok fun d hd => q H d (Same.refl H) hd
    | @load b qs lb =>
      obtain ⟨g1, g2, few, k⟩ := q
      obtain ⟨dx, t, d, ts, e1, tz, pr, e3⟩ := la
      obtain ⟨dx', t', d', ts', e1', tz', pr', e3'⟩ := lb
      refine iteF ?_
      repeat walk_at "st"
      refine ⟨rfl, ?_⟩
      refine g_cons (g_tcall (g_cons (g_fld (g_var rfl ?_))))
      refine ⟨a, C, dx, _, _, rfl, e1, c.ic.cl, c.n1, rfl, g_cons (g_fld (g_var rfl ?_))⟩
      refine ⟨b, C, dx', _, _, rfl, e1', c.ic.cl, c.n1, rfl, g_nil ?_⟩
      refine ⟨t, t', ts, ts', ps, qs, rfl, tz, pr, g1.nd, tz', pr', few, fun H1 p' ts1 rs hp s1 tz1 od pr1 => g_nil ?_⟩
      have g3 : GoodP rs := (grP_good g1 g2.name).perm od.perm
      refine of_good tz1.seq pr1 g3 (by have z := grP_len (qs := qs) (ps := ps); have y := od.perm.length_eq; omega) fun H2 x rs' hx s2 od2 lx => ?_
      exact k H2 x rs' (none_back s1 hx) (s1.trans s2) ⟨od2.perm.trans od.perm, od2.sorted⟩ lx
end
end My
set_option Elab.async false
set_option maxRecDepth 100000
set_option maxHeartbeats 8000000
namespace My
open PySem PySem.Spec PyProof.Rows L2
local macro_rules | `(tactic| walk_at "cond") => `(tactic| first
  | exact Or.inr ⟨by decide, by decide⟩ | exact Or.inl ⟨by decide, by decide⟩ | exact ⟨by decide, by decide, by decide⟩ | exact ⟨by decide, by decide⟩
  | (refine Or.inl ⟨?_, ?_⟩ <;> omega) | (refine Or.inr ⟨?_, ?_⟩ <;> omega)
  | (show (0 : Int) < _; omega))
local macro_rules | `(tactic| walk_at "mem") => `(tactic| first | exact List.Mem.head _ | exact List.Mem.tail _ (List.Mem.head _) | exact Put.head | (refine List.Mem.tail _ ?_; walk_at "mem") | (apply Put.tail; walk_at "mem"))
local macro_rules | `(tactic| walk_at "st") => `(tactic| first
  | with_reducible refine g_seq ?_ | with_reducible refine g_asg ?_ | with_reducible refine g_name ?_ | ((with_reducible show tVar _ _ _ _); refine g_var rfl ?_) | with_reducible refine g_c ?_
  | with_reducible refine g_op ?_ | with_reducible refine g_test ?_ | with_reducible refine g_bl ?_
  | with_reducible refine g_cb ?_ | with_reducible refine g_cons ?_ | with_reducible refine g_nil ?_ | with_reducible refine g_tif ?_ | with_reducible refine g_ifs ?_ | with_reducible refine g_ret ?_
  | with_reducible refine g_drop ?_ | with_reducible refine g_next ?_
  | with_reducible refine g_i0 ?_ | ((with_reducible show rI _ _ _ _ _ _); refine g_i (by walk_at "cond") ?_) | with_reducible refine g_int ?_ | with_reducible refine g_abs ?_ | with_reducible refine g_or ?_
  | with_reducible refine g_and ?_ | with_reducible refine g_not ?_ | with_reducible refine g_lst ?_ | with_reducible refine g_tup ?_
  | with_reducible refine iteT ?_ | with_reducible refine iteF ?_ | with_reducible refine g_par ?_ | with_reducible refine g_two ?_ | with_reducible refine g_sub ?_
  | ((with_reducible show rIxL _ (V.ref _) (V.int _) _ _); refine g_ixM (by assumption) (by walk_at "mem") rfl rfl ?_)
  | ((with_reducible show rSetL (V.ref _) (V.int _) _ _ _); refine g_setM (by assumption) rfl (by walk_at "mem") fun _ _ => ?_)
  | with_reducible refine g_xmk ?_ | with_reducible refine g_xmkK ?_
  | ((with_reducible show XNew _ (spI1 _ _) _ _ _); refine g_x1 (by assumption) fun _ _ _ _ => ?_)
  | ((with_reducible show XNewK _ _ (spI1 _ _) _ _ _ _); refine g_x1k (by assumption) fun _ _ _ _ => ?_)
  | ((with_reducible show XNew _ (spI3 _ _ _ _) _ _ _); refine g_x3 (by assumption) fun _ _ _ _ => ?_)
  | ((with_reducible show tXmk0 _ _ _ _); refine g_xmk0 (by assumption) fun _ _ _ => ?_)
  | ((with_reducible show NewO _ _ _ _); refine g_newo (by assumption) (by first | decide | simp) fun _ _ _ _ => ?_)
  | ((with_reducible show rCat (V.ref _) (V.ref _) _ _); refine g_cat (by assumption) (by walk_at "mem") (by walk_at "mem") (by first | decide | simp) fun _ _ _ _ => ?_))
local macro_rules | `(tactic| walk_at "st") => `(tactic| first | with_reducible refine g_tcall ?_ | with_reducible refine g_tb ?_ | with_reducible refine g_andV ?_ | with_reducible refine g_notV ?_ | with_reducible refine g_chain ?_ | with_reducible refine g_un ?_ | with_reducible refine g_rU ?_)
def hasQ (qs : List (Str × Int)) (s : Str) : Bool := (valV (kvOf qs) (Sum.inr s)).isSome
theorem hasQ_get {qs : List (Str × Int)} {s : Str} (h : hasQ qs s = true) : valV (kvOf qs) (Sum.inr s) = some (.int (countOf qs s)) := by
  have z := kv_count qs s
  unfold hasQ at h
  cases e : valV (kvOf qs) (Sum.inr s) with
  | none =>
    rw [e] at h
    cases h
  | some v =>
    rw [e] at z
    rw [show v = .int (countOf qs s) from z]
def both (ps qs : List (Str × Int)) : List (Str × Int) := ps.filter fun p => hasQ qs p.1
def minC (qs : List (Str × Int)) (p : Str × Int) : Str × Int := (p.1, if countOf qs p.1 < p.2 then countOf qs p.1 else p.2)
/-- the lesser counts of both -/
def lesP (ps qs : List (Str × Int)) : List (Str × Int) := (both ps qs).map (minC qs)
theorem lesP_len (ps qs : List (Str × Int)) : (lesP ps qs).length ≤ ps.length := by
  unfold lesP
  rw [List.length_map]
  exact List.length_filter_le _ _
theorem hasQ_mem {qs : List (Str × Int)} {s : Str} (h : hasQ qs s = true) : ∃ n, (s, n) ∈ qs := by
  induction qs with
  | nil =>
    unfold hasQ at h
    cases h
  | cons q qs ih =>
    by_cases e : q.1 = s
    · exact ⟨q.2, by rw [← e]; exact List.mem_cons_self⟩
    · have z : hasQ qs s = true := by
        unfold hasQ at h ⊢
        have y : valV (kvOf (q :: qs)) (Sum.inr s) = valV (kvOf qs) (Sum.inr s) := by
          unfold kvOf valV
          rw [List.map_cons, List.find?_cons]
          have z : decide (((Sum.inr q.1 : Key), V.int q.2).1 = Sum.inr s) = false := by simp [e]
          rw [z]
        rw [y] at h
        exact h
      obtain ⟨n, hn⟩ := ih z
      exact ⟨n, List.mem_cons_of_mem _ hn⟩
section
variable {P : Program} {w : World} {K : PySem.W.Frag} {mg : Str → Option Value} {base : Heap}
def spLesser (K : PySem.W.Frag) : Sp := fun vs H Q _ => ∃ (t d : Addr) (ts : List V) (ps qs : List (Str × Int)), vs = [.ref t, .ref d] ∧ SqT K H t ts ∧ Paired (PairAt H) ts ps ∧ ps.length ≤ 1000 ∧ H d = some (.dK (kvOf qs)) ∧ ∀ H' b xs, Same H H' → SqT K H' b xs → Paired (PairAt H') xs (lesP ps qs) → Q (.ref b) H'
abbrev NLs : List Str := ["pairs", "counts", "both", "name", "count"]
theorem scLesser : FnScope NLs ["pairs", "counts"] (defScope s_lesser_of_both) := ⟨rfl, rfl, rfl, by decide +kernel, rfl, by decide +kernel, by decide +kernel⟩
theorem ok_lesser {f : Addr} {fd : FuncData} (F : Fun K "lesser_of_both" "lesser_of_both" s_lesser_of_both f fd) (mT : mg "tuple" = none) (mI : mg "int" = none) (mM : mg "min" = none) : FnOk P w K mg base CX0 1 f fd ["pairs", "counts"] (spLesser K) := by
  refine F.ok scLesser (fun vs H Q E h => ?_) (fun cdv A outer s H vs Q E hr h => ?_)
  · obtain ⟨t, d, _, _, _, rfl, _⟩ := h
    rfl
  · obtain ⟨t, d, ts, ps, qs, rfl, hq, pr, few, hd, q⟩ := h
    have hu := hu_of hr
    refine ⟨_, pss_cons (ps_setLc (te := tTup (tCons (tVar 3) (tCons (tVar 4) tNil))) (i := 2) (own := [("name", 3), ("count", 4)]) (g := gTup K 2 (gCons (gName 3) (gCons (gName 4) gNil))) rfl scLesser.nd rfl rfl (sw_true rfl rfl rfl (by decide +kernel)) (pi_tup (pv 0))
        (blkOk_by (own := [("name", 3), ("count", 4)]) (N := NLs) (sc := defScope s_lesser_of_both) (by decide +kernel)) (fun _ _ _ _ _ => pg_tup rfl (pgs_cons (pg_name (i := 3) scLesser.nd rfl (Or.inl rfl)) (pgs_cons (pg_name (i := 4) scLesser.nd rfl (Or.inl rfl)) pgs_nil))) (fun _ _ _ _ _ => pts_one (pt_cmp (pc_din hu (pv 3) (pv 1))))
        (fun _ _ _ _ _ => pe_tup (pa_cons (pv 3) (pa_cons (pv 4) pa_nil))))
      (pss_one (ps_ret (pe_callTy (r := rTupZ K) call_tupZ (by rfl) mT PyProof.Rows.boot_tuple (pa_cons (pe_lc (te := tTup (tCons (tVar 3) (tCons (tCB rMin2 (tCons (tCB rInt (tCons (tVar 4) tNil)) (tCons (tCB rInt (tCons (tDGet (tVar 1) (tVar 3)) tNil)) tNil))) tNil))) (own := [("name", 3), ("count", 4)]) (g := gTup K 2 (gCons (gName 3) (gCons (gName 4) gNil))) rfl scLesser.nd (pi_list (pv 2))
        (blkOk_by (own := [("name", 3), ("count", 4)]) (N := NLs) (sc := defScope s_lesser_of_both) (by decide +kernel)) (fun _ _ _ _ _ => pg_tup rfl (pgs_cons (pg_name (i := 3) scLesser.nd rfl (Or.inl rfl)) (pgs_cons (pg_name (i := 4) scLesser.nd rfl (Or.inl rfl)) pgs_nil))) (fun _ _ _ _ _ => pts_nil)
        (fun _ _ _ _ _ => pe_tup (pa_cons (pv 3) (pa_cons (pe_callB (r := rMin2) (call_min2 rfl) (by rfl) mM PyProof.Rows.boot_min (pa_cons (pInt mI (pv 4)) (pa_cons (pInt mI (pe_dget hu (pv 1) (pv 3) (fun _ _ => rfl))) pa_nil))) pa_nil)))) pa_nil)))), ?_⟩
    have lx : ts.length = ps.length := pr.length
    refine g_seq <| g_asg <| g_lctup <| g_var rfl ⟨t, rfl, ⟨ts, hq⟩, fun D hD => lcS walk_tup PairAt PairAt.keep (fun i l => l = (ps.take i).filter fun p => hasQ qs p.1) rfl hD (by omega) (fun H1 s1 => Same.seqT' s1 hq) ?_ ?_⟩
    · rintro i x H1 H1' l hi s1 rfl ⟨rfl, hx⟩ KT KF kt kf
      have hi' : i < ps.length := by omega
      obtain ⟨u, rfl, eu⟩ := pairedGet pr hx (List.getElem?_eq_getElem hi')
      have d1 := s1 _ _ hd
      have nx : (ps.take (i + 1)).filter (fun p => hasQ qs p.1) = (ps.take i).filter (fun p => hasQ qs p.1) ++ if hasQ qs ps[i].1 = true then [ps[i]] else [] := by
        rw [List.take_add_one, List.getElem?_eq_getElem hi', List.filter_append]
        congr 1
        show List.filter _ [ps[i]] = _
        by_cases h : hasQ qs ps[i].1 = true
        · simp [h]
        · simp [h]
      refine ⟨u, _, rfl, SqT.of (s1 _ _ eu), rfl, _, _, rfl, g_name ⟨_, _, rfl, g_name ⟨rfl, ?_⟩⟩⟩
      refine ⟨rfl, ?_⟩
      refine g_test <| g_din ?_
      repeat walk_at "st"
      refine ⟨d, _, rfl, DGet.k (k := Sum.inr ps[i].1) d1, ?_⟩
      refine g_bl ?_
      show if hasQ qs ps[i].1 = true then _ else _
      by_cases h : hasQ qs ps[i].1 = true
      · rw [if_pos h] at nx
        rw [if_pos h]
        refine g_tup <| g_cons <| g_var rfl <| g_cons <| g_var rfl <| g_nil ⟨(by show 2 ≤ sizeLine; decide), fun p hp => ?_⟩
        exact kt _ _ ps[i] (sameNew hp) nx.symm ⟨p, rfl, upd_same⟩
      · rw [if_neg h, List.append_nil] at nx
        rw [if_neg h]
        exact kf _ (Same.refl _) nx.symm
    rintro H1 acc l s1 d1 pr2 rfl
    rw [lx, List.take_length] at pr2
    replace pr2 : Paired (PairAt H1) acc (both ps qs) := pr2
    have la := pr2.length
    have ll : (both ps qs).length ≤ ps.length := List.length_filter_le _ _
    refine g_name ?_
    dsimp only
    refine g_ret <| g_cb <| g_cons <| g_lclist <| g_var rfl ⟨D, rfl, ⟨_, SqL.of d1⟩, fun D2 hD2 => lcS walk_list PairAt PairAt.keep (fun i l => l = ((both ps qs).take i).map (minC qs)) rfl hD2 (by omega) (fun H2 s2 => SqL.of (s2 _ _ d1)) ?_ ?_⟩
    · rintro i x H2 H2' l hi s2 rfl ⟨rfl, hx⟩ KT KF kt kf
      have hi' : i < (both ps qs).length := by omega
      obtain ⟨u, rfl, eu⟩ := pairedGet pr2 hx (List.getElem?_eq_getElem hi')
      have hh : hasQ qs ((both ps qs)[i]).1 = true := (List.mem_filter.mp (List.getElem_mem hi')).2
      have d2 := s2 _ _ (s1 _ _ hd)
      refine ⟨u, _, rfl, SqT.of (s2 _ _ eu), rfl, _, _, rfl, g_name ⟨_, _, rfl, g_name ⟨rfl, ?_⟩⟩⟩
      refine ⟨rfl, ?_⟩
      unfold tYes
      have dg : DGet H2' d (.str ((both ps qs)[i]).1) (some (.int (countOf qs ((both ps qs)[i]).1))) := by
        have z := DGet.k (k := Sum.inr ((both ps qs)[i]).1) d2
        rw [hasQ_get hh] at z
        exact z
      refine iteT <| g_tup <| g_cons <| g_var rfl <| g_cons <| g_cb <| g_cons <| g_cb <| g_cons <| g_var rfl <| g_nil <| g_int <| g_cons <| g_cb <| g_cons <| g_dget (g_var rfl (g_var rfl ⟨d, _, rfl, dg, ?_⟩))
      refine g_nil <| g_int <| g_nil ⟨_, _, rfl, g_nil ⟨(by show 2 ≤ sizeLine; decide), fun p hp => ?_⟩⟩
      exact kt _ _ (minC qs (both ps qs)[i]) (sameNew hp) (take_map_succ hi').symm ⟨p, rfl, upd_same⟩
    · rintro H2 acc2 l s2 d2 pr3 rfl
      rw [la, List.take_length] at pr3
      refine g_nil ⟨D2, acc2, rfl, SqL.of d2, fun b o hb _ => ?_⟩
      have s3 : Same H2 (upd H2 b (.frz o (.tup acc2))) := sameNew hb
      exact q _ b acc2 ((s1.trans s2).trans s3) (.inl (.inr ⟨o, upd_same⟩)) (pairedMono (fun _ _ h => PairAt.same h s3) pr3)
end
end My
set_option Elab.async false
set_option maxRecDepth 100000
set_option maxHeartbeats 8000000
namespace My
open PySem PySem.Spec PyProof.Rows L2
/-! ### what compare tells of loads made of counts -/
theorem count_mem : ∀ {ps : List (Str × Int)} {s : Str} {n : Int}, (ps.map (·.1)).Nodup → (s, n) ∈ ps → countOf ps s = n
  | [], _, _, _, h => nomatch h
  | p :: ps, s, n, nd, h => by
    rw [List.map_cons, List.nodup_cons] at nd
    unfold countOf
    by_cases e : p.1 = s
    · rw [if_pos e]
      rcases List.mem_cons.mp h with z | z
      · rw [← z]
      · exact absurd (by rw [e]; exact List.mem_map.mpr ⟨_, z, rfl⟩) nd.1
    · rw [if_neg e]
      rcases List.mem_cons.mp h with z | z
      · rw [← z] at e
        exact absurd rfl e
      · exact count_mem nd.2 z
theorem count_out {ps : List (Str × Int)} {s : Str} (h : ∀ n, (s, n) ∉ ps) : countOf ps s = 0 := by
  refine count_no ?_
  rw [List.any_eq_false]
  intro p hp z
  have e := of_decide_eq_true z
  exact h p.2 (by rw [← e]; exact hp)
theorem pairsOf_mem {ks : List Str} {ns : List Int} {s : Str} {n : Int} : (s, n) ∈ pairsOf ks ns ↔ 0 < n ∧ ∃ (i : Nat) (h1 : i < ks.length) (h2 : i < ns.length), ks[i] = s ∧ ns[i] = n := by
  unfold pairsOf
  rw [List.mem_filter]
  constructor
  · rintro ⟨h, z⟩
    refine ⟨of_decide_eq_true z, ?_⟩
    obtain ⟨i, hi, e⟩ := List.getElem_of_mem h
    rw [List.getElem_zip] at e
    rw [List.length_zip] at hi
    injection e with e1 e2
    exact ⟨i, by omega, by omega, e1, e2⟩
  · rintro ⟨z, i, h1, h2, rfl, rfl⟩
    refine ⟨?_, decide_eq_true z⟩
    have e : (ks.zip ns)[i]'(by rw [List.length_zip]; omega) = (ks[i], ns[i]) := List.getElem_zip
    rw [← e]
    exact List.getElem_mem _
theorem count_at {ks : List Str} {ns : List Int} {rs : List (Str × Int)} (nd : ks.Nodup) (hl : ks.length = ns.length) (h0 : ∀ n ∈ ns, 0 ≤ n) (od : rs.Perm (pairsOf ks ns)) {i : Nat} (h1 : i < ks.length) (h2 : i < ns.length) : countOf rs ks[i] = ns[i] := by
  have ndr : (rs.map (·.1)).Nodup := (od.map (·.1)).nodup_iff.mpr (nd.sublist (pairsOf_sub ks ns))
  by_cases z : 0 < ns[i]
  · exact count_mem ndr (od.mem_iff.mpr (pairsOf_mem.mpr ⟨z, i, h1, h2, rfl, rfl⟩))
  · have e0 : ns[i] = 0 := by
      have := h0 _ (List.getElem_mem h2)
      omega
    rw [e0]
    refine count_out fun n hn => ?_
    obtain ⟨p, j, j1, j2, e1, e2⟩ := pairsOf_mem.mp (od.mem_iff.mp hn)
    have ij : j = i := (List.getElem_inj nd).mp e1
    subst ij
    omega
theorem sum_pairs : ∀ {ks : List Str} {ns : List Int}, ks.length = ns.length → (∀ n ∈ ns, 0 ≤ n) → ((pairsOf ks ns).map (·.2)).sum = ns.sum
  | [], [], _, _ => rfl
  | [], _ :: _, h, _ => by simp at h
  | _ :: _, [], h, _ => by simp at h
  | k :: ks, n :: ns, h, h0 => by
    have ih := sum_pairs (ks := ks) (ns := ns) (by simpa using h) fun m hm => h0 m (List.mem_cons_of_mem _ hm)
    have n0 := h0 n List.mem_cons_self
    unfold pairsOf at ih ⊢
    rw [List.zip_cons_cons]
    by_cases z : 0 < n
    · rw [List.filter_cons_of_pos (by simpa using z), List.map_cons, List.sum_cons, List.sum_cons, ih]
    · rw [List.filter_cons_of_neg (by simpa using z), List.sum_cons, ih]
      omega
theorem perm_sum {a b : List Int} (h : a.Perm b) : a.sum = b.sum := by
  induction h with
  | nil => rfl
  | cons x _ ih => rw [List.sum_cons, List.sum_cons, ih]
  | swap x y l =>
    rw [List.sum_cons, List.sum_cons, List.sum_cons, List.sum_cons]
    omega
  | trans _ _ ih1 ih2 => rw [ih1, ih2]
theorem lexI_cons (x y : Int) (a b : List Int) : lexI (x :: a) (y :: b) = if x = y then lexI a b else decide (x < y) := rfl
def negs (ns : List Int) : List Int := ns.map fun n => -n
theorem rank_of {ks : List Str} {ns : List Int} {rs : List (Str × Int)} (nd : ks.Nodup) (hl : ks.length = ns.length) (h0 : ∀ n ∈ ns, 0 ≤ n) (od : Ordered (pairsOf ks ns) rs) : rankOf rs ks = ns.sum :: negs ns := by
  unfold rankOf sumP
  have e1 : (rs.map (·.2)).sum = ns.sum := by
    rw [perm_sum (od.perm.map (·.2)), sum_pairs hl h0]
  rw [e1]
  congr 1
  unfold negs
  apply List.ext_getElem
  · rw [List.length_map, List.length_map, hl]
  · intro i h1 h2
    rw [List.length_map] at h1 h2
    rw [List.getElem_map, List.getElem_map, count_at nd hl h0 od.perm h1 h2]
theorem lexI_swap : ∀ {a b : List Int}, a.length = b.length → a ≠ b → lexI b a = !lexI a b
  | [], [], _, h => absurd rfl h
  | [], _ :: _, h, _ => by simp at h
  | _ :: _, [], h, _ => by simp at h
  | x :: a, y :: b, h, n => by
    unfold lexI
    by_cases e : x = y
    · rw [if_pos e, if_pos e.symm]
      exact lexI_swap (by simpa using h) fun z => n (by rw [e, z])
    · rw [if_neg e, if_neg (fun z => e z.symm)]
      by_cases z : x < y
      · rw [decide_eq_true z, decide_eq_false (by omega)]
        rfl
      · rw [decide_eq_false z, decide_eq_true (by omega)]
        rfl
theorem cmp_swap {a b : List Int} (h : a.length = b.length) : cmpI b a = -cmpI a b := by
  unfold cmpI
  by_cases e : a = b
  · rw [if_pos e, if_pos e.symm]
    rfl
  · rw [if_neg e, if_neg (fun z => e z.symm), lexI_swap h e]
    cases lexI a b <;> rfl
theorem cmp_three (a b : List Int) : cmpI a b = 0 ∨ cmpI a b = -1 ∨ cmpI a b = 1 := by
  unfold cmpI
  split
  · exact .inl rfl
  · split
    · exact .inr (.inl rfl)
    · exact .inr (.inr rfl)
theorem negs_inj {a b : List Int} (h : negs a = negs b) : a = b := by
  have z := congrArg negs h
  unfold negs at z
  rw [List.map_map, List.map_map] at z
  have e : ((fun n : Int => -n) ∘ fun n => -n) = id := by
    funext n
    simp
  rwa [e, List.map_id, List.map_id] at z
/-- what is due of two rows of counts -/
theorem cmp_due (a b : List Int) : cmpI (a.sum :: negs a) (b.sum :: negs b) = if a.sum = b.sum then (if a = b then 0 else if lexI (negs a) (negs b) = true then -1 else 1) else if a.sum < b.sum then -1 else 1 := by
  unfold cmpI
  rw [lexI_cons]
  by_cases e : a.sum = b.sum
  · rw [if_pos e, if_pos e]
    by_cases z : a = b
    · subst z
      rw [if_pos rfl, if_pos rfl]
    · rw [if_neg z, if_neg (fun y => z (negs_inj (List.cons.inj y).2))]
  · rw [if_neg e, if_neg e, if_neg (fun y => e (List.cons.inj y).1)]
    by_cases z : a.sum < b.sum
    · rw [if_pos z, if_pos (decide_eq_true z)]
    · rw [if_neg z, if_neg (by rw [decide_eq_false z]; exact Bool.false_ne_true)]
/-- no name but those of ks -/
theorem unknown_none {ps qs : List (Str × Int)} {ks : List Str} (h1 : ∀ p ∈ ps, p.1 ∈ ks) (h2 : ∀ p ∈ qs, p.1 ∈ ks) : unknown ps qs ks = none := by
  have go : ∀ {ps : List (Str × Int)}, (∀ p ∈ ps, p.1 ∈ ks) → (ps.map (·.1)).find? (fun s => decide (s ∉ ks)) = none := by
    intro ps h
    rw [List.find?_eq_none]
    intro s hs z
    obtain ⟨p, hp, rfl⟩ := List.mem_map.mp hs
    exact of_decide_eq_true z (h p hp)
  unfold unknown
  rw [go h1, go h2]
theorem ordered_in {ks : List Str} {ns : List Int} {rs : List (Str × Int)} (od : Ordered (pairsOf ks ns) rs) : ∀ p ∈ rs, p.1 ∈ ks := fun p hp => (pairsOf_sub ks ns).subset (List.mem_map_of_mem (od.perm.mem_iff.mp hp))
theorem ordered_len {ks : List Str} {ns : List Int} {rs : List (Str × Int)} (od : Ordered (pairsOf ks ns) rs) : rs.length ≤ ks.length := by
  rw [od.perm.length_eq]
  exact pairsOf_len ks ns
/-- names, none twice -/
theorem kinds_good : ∀ {ks seen : List Str} (i : Nat), ks.Nodup → (∀ k ∈ ks, k ∉ seen) → wrongNm i seen (ks.map some) = none
  | [], _, _, _, _ => rfl
  | k :: ks, seen, i, nd, h => by
    rw [List.nodup_cons] at nd
    rw [List.map_cons]
    unfold wrongNm
    rw [if_neg (h k List.mem_cons_self)]
    refine kinds_good (i + 1) nd.2 fun x hx z => ?_
    rcases List.mem_append.mp z with z | z
    · exact h x (List.mem_cons_of_mem _ hx) z
    · rw [List.mem_singleton.mp z] at hx
      exact nd.1 hx
theorem kinds_ok {ks : List Str} (h : ks ≠ []) (nd : ks.Nodup) : badKinds none (some (ks.map some)) = none := by
  cases ks with
  | nil => exact absurd rfl h
  | cons k ks =>
    show (wrongNm 0 [] ((k :: ks).map some)).map some = none
    rw [kinds_good (seen := []) 0 nd (fun _ _ z => nomatch z)]
    rfl
theorem names_k {K : PySem.W.Frag} {H : Hp} : ∀ {ks : List Str}, (∀ k ∈ ks, nameB k = true) → Paired (NameK K H) (ks.map V.str) (ks.map some)
  | [], _ => .nil
  | k :: ks, h => by
    refine .cons ?_ (names_k fun x hx => h x (List.mem_cons_of_mem _ hx))
    have nb := h k List.mem_cons_self
    have z := NameK.str (K := K) (H := H) (nameB_len nb)
    rw [if_pos nb] at z
    exact z
theorem kindsK_names {K : PySem.W.Frag} {H : Hp} {t : Addr} {ks : List Str} (hq : SqT K H t (ks.map V.str)) (nb : ∀ k ∈ ks, nameB k = true) (hl : ks.length ≤ 900) : KindsK K H (.ref t) (some (ks.map some)) := .tup hq (names_k nb) (by rw [List.length_map]; omega)
/-- two loads of names that are kinds -/
theorem compare_of {K : PySem.W.Frag} {C CL CK CU a b t : Addr} {H : Hp} {Q : VK} {E : XK} {ks : List Str} {ps qs : List (Str × Int)} (la : LoadAt C H a ps) (lb : LoadAt C H b qs) (hq : SqT K H t (ks.map V.str)) (nb : ∀ k ∈ ks, nameB k = true) (nd : ks.Nodup) (ne : ks ≠ []) (hl : ks.length ≤ 900) (h1 : ∀ p ∈ ps, p.1 ∈ ks) (h2 : ∀ p ∈ qs, p.1 ∈ ks) (l1 : ps.length ≤ 1000) (l2 : qs.length ≤ 1000)
    (q : ∀ H', Same H H' → Q (.int (cmpI (rankOf ps ks) (rankOf qs ks))) H') : spCompare K C CL CK CU [.ref a, .ref b, .ref t] H Q E := by
  refine ⟨_, _, _, some ps, some qs, some (ks.map some), rfl, .load la, .load lb, kindsK_names hq nb hl, ?_⟩
  dsimp only
  rw [kinds_ok ne nd]
  dsimp only
  refine ⟨ks, rfl, hl, l1, l2, ?_⟩
  rw [unknown_none h1 h2]
  exact q
end My
set_option Elab.async false
set_option maxRecDepth 100000
set_option maxHeartbeats 8000000
namespace My
open PySem PySem.Spec PyProof.Rows L2
local macro_rules | `(tactic| walk_at "cond") => `(tactic| first
  | exact Or.inr ⟨by decide, by decide⟩ | exact Or.inl ⟨by decide, by decide⟩ | exact ⟨by decide, by decide, by decide⟩ | exact ⟨by decide, by decide⟩
  | (refine Or.inl ⟨?_, ?_⟩ <;> omega) | (refine Or.inr ⟨?_, ?_⟩ <;> omega)
  | (show (0 : Int) < _; omega))
local macro_rules | `(tactic| walk_at "mem") => `(tactic| first | exact List.Mem.head _ | exact List.Mem.tail _ (List.Mem.head _) | exact Put.head | (refine List.Mem.tail _ ?_; walk_at "mem") | (apply Put.tail; walk_at "mem"))
local macro_rules | `(tactic| walk_at "st") => `(tactic| first
  | with_reducible refine g_seq ?_ | with_reducible refine g_asg ?_ | with_reducible refine g_name ?_ | ((with_reducible show tVar _ _ _ _); refine g_var rfl ?_) | with_reducible refine g_c ?_
  | with_reducible refine g_op ?_ | with_reducible refine g_test ?_ | with_reducible refine g_bl ?_
  | with_reducible refine g_cb ?_ | with_reducible refine g_cons ?_ | with_reducible refine g_nil ?_ | with_reducible refine g_tif ?_ | with_reducible refine g_ifs ?_ | with_reducible refine g_ret ?_
  | with_reducible refine g_drop ?_ | with_reducible refine g_next ?_
  | with_reducible refine g_i0 ?_ | ((with_reducible show rI _ _ _ _ _ _); refine g_i (by walk_at "cond") ?_) | with_reducible refine g_int ?_ | with_reducible refine g_abs ?_ | with_reducible refine g_or ?_
  | with_reducible refine g_and ?_ | with_reducible refine g_not ?_ | with_reducible refine g_lst ?_ | with_reducible refine g_tup ?_
  | with_reducible refine iteT ?_ | with_reducible refine iteF ?_ | with_reducible refine g_par ?_ | with_reducible refine g_two ?_ | with_reducible refine g_sub ?_
  | ((with_reducible show rIxL _ (V.ref _) (V.int _) _ _); refine g_ixM (by assumption) (by walk_at "mem") rfl rfl ?_)
  | ((with_reducible show rSetL (V.ref _) (V.int _) _ _ _); refine g_setM (by assumption) rfl (by walk_at "mem") fun _ _ => ?_)
  | with_reducible refine g_xmk ?_ | with_reducible refine g_xmkK ?_
  | ((with_reducible show XNew _ (spI1 _ _) _ _ _); refine g_x1 (by assumption) fun _ _ _ _ => ?_)
  | ((with_reducible show XNewK _ _ (spI1 _ _) _ _ _ _); refine g_x1k (by assumption) fun _ _ _ _ => ?_)
  | ((with_reducible show XNew _ (spI3 _ _ _ _) _ _ _); refine g_x3 (by assumption) fun _ _ _ _ => ?_)
  | ((with_reducible show tXmk0 _ _ _ _); refine g_xmk0 (by assumption) fun _ _ _ => ?_)
  | ((with_reducible show NewO _ _ _ _); refine g_newo (by assumption) (by first | decide | simp) fun _ _ _ _ => ?_)
  | ((with_reducible show rCat (V.ref _) (V.ref _) _ _); refine g_cat (by assumption) (by walk_at "mem") (by walk_at "mem") (by first | decide | simp) fun _ _ _ _ => ?_))
local macro_rules | `(tactic| walk_at "st") => `(tactic| first | with_reducible refine g_tcall ?_ | with_reducible refine g_tb ?_ | with_reducible refine g_andV ?_ | with_reducible refine g_notV ?_ | with_reducible refine g_chain ?_ | with_reducible refine g_un ?_ | with_reducible refine g_rU ?_)
theorem lesP_good {ps qs : List (Str × Int)} (g : GoodP ps) (g2 : GoodP qs) : GoodP (lesP ps qs) := by
  have nm : (lesP ps qs).map (·.1) = (both ps qs).map (·.1) := by
    unfold lesP
    rw [List.map_map]
    rfl
  refine ⟨fun p hp => ?_, fun p hp => ?_, ?_⟩
  · obtain ⟨r, hr, rfl⟩ := List.mem_map.mp hp
    exact g.name r (List.mem_filter.mp hr).1
  · obtain ⟨r, hr, rfl⟩ := List.mem_map.mp hp
    obtain ⟨m1, m2⟩ := List.mem_filter.mp hr
    obtain ⟨n, hn⟩ := hasQ_mem m2
    have e := count_mem g2.nd hn
    have z := g2.count _ hn
    have y := g.count r m1
    unfold minC
    show 1 ≤ if countOf qs r.1 < r.2 then countOf qs r.1 else r.2
    split
    · rw [e]
      exact z
    · exact y
  · rw [nm]
    exact g.nd.sublist (List.filter_sublist.map _)
section
variable {P : Program} {w : World} {K : PySem.W.Frag} {mg : Str → Option Value} {base : Heap}
def spAnd (K : PySem.W.Frag) (C CL : Addr) : Sp := fun vs H Q E => ∃ a ps v r, vs = [.ref a, v] ∧ LoadAt C H a ps ∧ LoadK K C H v r ∧ match r with
  | none => BadV CL "value" v H E
  | some qs => GoodP ps ∧ GoodP qs ∧ ps.length < 64 ∧ ∀ H' x rs, H x = none → Same H H' → Ordered (lesP ps qs) rs → LoadAt C H' x rs → Q (.ref x) H'
theorem scAnd : FnScope ["self", "other"] ["self", "other"] (defScope s_Load___and__) := ⟨rfl, rfl, rfl, by decide +kernel, rfl, by decide +kernel, by decide +kernel⟩
theorem ok_and {f C CL CP fI p gO : Addr} {mc : Value} {fd fdN fdO : FuncData} {B newId initId : String} {bmB : List Value} (F : Fun K "__and__" "Load.__and__" s_Load___and__ f fd) (c : LoadC K C) (mI : mg "isinstance" = none) (mL : mg "Load" = some (.ref C))
    (TN : XCls P w K mg base "NotALoad" CL fI B newId initId bmB ["self", "value"] (spI1 CL "value") fdN)
    (SM : SMet K C mc "of" p gO) (FO : FnOk P w K mg base (L2.CX P w) 7 gO fdO ["pairs"] (spOf K C CP)) (bO : Binds K fdO ["pairs"] []) (CA : Cal P w K mg base 1 "lesser_of_both" ["pairs", "counts"] (spLesser K)) : FnOk P w K mg base (L2.CX P w) 8 f fd ["self", "other"] (spAnd K C CL) := by
  refine F.okX scAnd (fun vs H Q E h => ?_) (fun cdv A outer s H vs Q E hr h => ?_)
  · obtain ⟨a, _, v, _, rfl, _⟩ := h
    rfl
  · obtain ⟨a, ps, v, r, rfl, la, lk, q⟩ := h
    have tk := takes_of (X := cxOf (L2.CX P w) P w K mg base ["self", "other"] "Load.__and__" (defScope s_Load___and__) f cdv A outer s H E) (E := E) rfl rfl rfl rfl
    refine ⟨_, pss_cons (ps_if (pt_not (pt_val (pIsi mI (pv 1) (pG mL)))) (pss_one (ps_raise rfl tk (pmk_x TN (hr.mono (by decide : 2 ≤ 7)) rfl (pa_cons (pv 1) pa_nil)))) pss_nil)
      (pss_one (ps_ret (pe_smeth (pG mL) SM FO hr bO (passes_call tk fun _ _ _ _ h => h) (pa_cons (pCal CA (hr.mono (by decide : 1 ≤ 7)) (pa_cons (pe_fld (pv 0) rfl) (pa_cons (pe_fld (pv 1) rfl) pa_nil))) pa_nil)))), ?_⟩
    repeat walk_at "st"
    refine loadK_isi c lk ?_
    refine g_bl ?_
    cases lk with
    | no ty k =>
      refine iteT ?_
      refine g_cons (g_var rfl (g_nil ?_))
      exact rx1_ok fun d hd => q H d (Same.refl H) hd
    | @load b qs lb =>
      obtain ⟨g1, g2, few, k⟩ := q
      obtain ⟨dx, t, d, ts, e1, tz, pr, e3⟩ := la
      obtain ⟨dx', t', d', ts', e1', tz', pr', e3'⟩ := lb
      refine iteF ?_
      repeat walk_at "st"
      refine ⟨rfl, ?_⟩
      refine g_cons (g_tcall (g_cons (g_fld (g_var rfl ?_))))
      refine ⟨a, C, dx, _, _, rfl, e1, c.ic.cl, c.n1, rfl, g_cons (g_fld (g_var rfl ?_))⟩
      refine ⟨b, C, dx', _, _, rfl, e1', c.ic.cl, c.n2, rfl, g_nil ?_⟩
      refine ⟨t, d', ts, ps, qs, rfl, tz.seq, pr, by omega, e3', fun H1 u xs s1 hu pr1 => g_nil ?_⟩
      refine of_good hu pr1 (lesP_good g1 g2) (by have z := lesP_len ps qs; omega) fun H2 x rs hx s2 od lx => ?_
      exact k H2 x rs (none_back s1 hx) (s1.trans s2) od lx
end
end My
set_option Elab.async false
set_option maxRecDepth 100000
set_option maxHeartbeats 8000000
namespace My
open PySem PySem.Spec PyProof.Rows L2
local macro_rules | `(tactic| walk_at "cond") => `(tactic| first
  | exact Or.inr ⟨by decide, by decide⟩ | exact Or.inl ⟨by decide, by decide⟩ | exact ⟨by decide, by decide, by decide⟩ | exact ⟨by decide, by decide⟩
  | (refine Or.inl ⟨?_, ?_⟩ <;> omega) | (refine Or.inr ⟨?_, ?_⟩ <;> omega)
  | (show (0 : Int) < _; omega))
local macro_rules | `(tactic| walk_at "mem") => `(tactic| first | exact List.Mem.head _ | exact List.Mem.tail _ (List.Mem.head _) | exact Put.head | (refine List.Mem.tail _ ?_; walk_at "mem") | (apply Put.tail; walk_at "mem"))
local macro_rules | `(tactic| walk_at "st") => `(tactic| first
  | with_reducible refine g_seq ?_ | with_reducible refine g_asg ?_ | with_reducible refine g_name ?_ | ((with_reducible show tVar _ _ _ _); refine g_var rfl ?_) | with_reducible refine g_c ?_
  | with_reducible refine g_op ?_ | with_reducible refine g_test ?_ | with_reducible refine g_bl ?_
  | with_reducible refine g_cb ?_ | with_reducible refine g_cons ?_ | with_reducible refine g_nil ?_ | with_reducible refine g_tif ?_ | with_reducible refine g_ifs ?_ | with_reducible refine g_ret ?_
  | with_reducible refine g_drop ?_ | with_reducible refine g_next ?_
  | with_reducible refine g_i0 ?_ | ((with_reducible show rI _ _ _ _ _ _); refine g_i (by walk_at "cond") ?_) | with_reducible refine g_int ?_ | with_reducible refine g_abs ?_ | with_reducible refine g_or ?_
  | with_reducible refine g_and ?_ | with_reducible refine g_not ?_ | with_reducible refine g_lst ?_ | with_reducible refine g_tup ?_
  | with_reducible refine iteT ?_ | with_reducible refine iteF ?_ | with_reducible refine g_par ?_ | with_reducible refine g_two ?_ | with_reducible refine g_sub ?_
  | ((with_reducible show rIxL _ (V.ref _) (V.int _) _ _); refine g_ixM (by assumption) (by walk_at "mem") rfl rfl ?_)
  | ((with_reducible show rSetL (V.ref _) (V.int _) _ _ _); refine g_setM (by assumption) rfl (by walk_at "mem") fun _ _ => ?_)
  | with_reducible refine g_xmk ?_ | with_reducible refine g_xmkK ?_
  | ((with_reducible show XNew _ (spI1 _ _) _ _ _); refine g_x1 (by assumption) fun _ _ _ _ => ?_)
  | ((with_reducible show XNewK _ _ (spI1 _ _) _ _ _ _); refine g_x1k (by assumption) fun _ _ _ _ => ?_)
  | ((with_reducible show XNew _ (spI3 _ _ _ _) _ _ _); refine g_x3 (by assumption) fun _ _ _ _ => ?_)
  | ((with_reducible show tXmk0 _ _ _ _); refine g_xmk0 (by assumption) fun _ _ _ => ?_)
  | ((with_reducible show NewO _ _ _ _); refine g_newo (by assumption) (by first | decide | simp) fun _ _ _ _ => ?_)
  | ((with_reducible show rCat (V.ref _) (V.ref _) _ _); refine g_cat (by assumption) (by walk_at "mem") (by walk_at "mem") (by first | decide | simp) fun _ _ _ _ => ?_))
local macro_rules | `(tactic| walk_at "st") => `(tactic| first | with_reducible refine g_tcall ?_ | with_reducible refine g_tb ?_ | with_reducible refine g_andV ?_ | with_reducible refine g_notV ?_ | with_reducible refine g_chain ?_ | with_reducible refine g_un ?_ | with_reducible refine g_rU ?_)
theorem ix_at {K : PySem.W.Frag} {H : Hp} {Q : VK} {p : Addr} {xs : List V} {j : Nat} {v : V} (h : SqL K H p xs) (e : xs[j]? = some v) (q : Q v H) : rIxL K (.ref p) (.int (j : Nat)) H Q := ⟨p, xs, j, v, rfl, rfl, h, atI_nat e, q⟩
def tI (i : Int) : Str := ((toString i : String) : Str)
theorem repr_two {X : Cx} {k : Nat} {p : Addr} {H : Hp} {Q : VK} {c : Int} (h : c = 0 ∨ c = -1 ∨ c = 1) (e : H p = some (.lst [.int c, .int (-c)])) (q : ∀ H2, Same H H2 → Q (.str (listText [tI c, tI (-c)])) H2) : rReprL X k [.ref p] H Q := by
  refine ⟨p, .int c, [.int (-c)], [tI c, tI (-c)], [], 0, rfl, e, rfl, (fun z => nomatch z), by decide, ?_, ?_, q⟩
  · rcases h with rfl | rfl | rfl <;> exact Nat.le_trans (show _ ≤ 10 by decide +kernel) (by decide)
  · intro i x t hx ht
    match i, hx, ht with
    | 0, hx, ht =>
      obtain rfl : V.int c = x := by simpa using hx
      obtain rfl : tI c = t := by simpa using ht
      exact RV.int (by rcases h with rfl | rfl | rfl <;> decide)
    | 1, hx, ht =>
      obtain rfl : V.int (-c) = x := by simpa using hx
      obtain rfl : tI (-c) = t := by simpa using ht
      exact RV.int (by rcases h with rfl | rfl | rfl <;> decide)
    | n + 2, hx, _ => simp at hx
theorem g_eqS {H : Hp} {Q : VK} {t : Str} (h : Q (.bl true) H) : rEq (.str t) (.str t) H Q := ⟨rfl, by rw [decide_eq_true (rfl : V.str t = V.str t)]; exact h⟩
theorem g_ifInt {p : Prop} [Decidable p] {σ : L2.St} {H : Hp} {Q : VK} (h : Q (.int (if p then -1 else 1)) H) : if decide p = true then tUn (rU fun i => .int (-i)) (tC (.int 1)) σ H Q else tC (.int 1) σ H Q := by
  by_cases c : p
  · rw [if_pos c] at h
    exact g_iteT c (g_un (g_c (g_rU h)))
  · rw [if_neg c] at h
    exact g_iteF c (g_c h)
theorem g_ifB {b : Bool} {σ : L2.St} {H : Hp} {Q : VK} (h : Q (.int (if b = true then -1 else 1)) H) : if b = true then tUn (rU fun i => .int (-i)) (tC (.int 1)) σ H Q else tC (.int 1) σ H Q := by
  cases b with
  | true => exact iteT (g_un (g_c (g_rU h)))
  | false => exact iteF (g_c h)
/-- a comprehension over a list of ints -/
theorem g_lcI {K : PySem.W.Frag} {σ : L2.St} {H : Hp} {Q : VK} {te : TE} {a i : Nat} {D : Addr} {xs : List Int} (hσ : σ[a]? = some (some (.ref D))) (d : H D = some (.lst (intV xs))) (few : xs.length ≤ 1000) (hi : i < σ.length) (f : Int → Int)
    (step : ∀ (x : Int) (σ2 : L2.St) (H2 : Hp) (Q2 : VK), σ2[i]? = some (some (.int x)) → Q2 (.int (f x)) H2 → te σ2 H2 Q2) (q : ∀ H2 N, H N = none → Same H H2 → H2 N = some (.lst (intV (xs.map f))) → Q (.ref N) H2) : tLc (iList K (tVar a)) (gName i) tYes te [i] σ H Q := by
  refine g_lclist <| g_var hσ ⟨D, rfl, ⟨_, SqL.of d⟩, fun N hN => lcS walk_list (fun _ v (n : Int) => v = .int n) (fun _ _ _ _ _ h => h) (fun j l => l = (xs.take j).map f) rfl hN (by unfold intV; rw [List.length_map]; omega) (fun H1 s1 => SqL.of (s1 _ _ d)) ?_ ?_⟩
  · rintro j x H1 H1' l hj s1 rfl ⟨rfl, hx⟩ KT KF kt kf
    unfold intV at hj hx
    rw [List.length_map] at hj
    have ex : x = .int xs[j] := by
      rw [List.getElem?_map, List.getElem?_eq_getElem hj] at hx
      exact (Option.some.inj hx).symm
    subst ex
    refine g_name ⟨wipe1 _ i _, ?_⟩
    unfold tYes
    refine iteT (step xs[j] _ _ _ ?_ (kt _ _ (f xs[j]) (Same.refl _) (take_map_succ hj).symm rfl))
    show (List.set (List.set σ i none) i (some (V.int xs[j])))[i]? = _
    rw [List.set_set]
    exact List.getElem?_set_self hi
  · rintro H1 acc l s1 d1 pr rfl
    have e := pairedEq pr
    unfold intV at e
    rw [List.length_map, List.take_length] at e
    subst e
    exact q H1 N hN s1 d1
theorem log_sm {n : Int} (h0 : 0 < n) (h : n < 64) : n.natAbs.log2 < 9000 := (Nat.log2_lt (by omega)).mpr (Nat.lt_of_lt_of_le (show n.natAbs < 2 ^ 6 by omega) (Nat.pow_le_pow_right (by decide) (by decide)))
section
variable {P : Program} {w : World} {K : PySem.W.Frag} {mg : Str → Option Value} {base : Heap}
structure GreatK (P : Program) (w : World) (K : PySem.W.Frag) (mg : Str → Option Value) (base : Heap) (C CL CK CU : Addr) where
  pull : Cal P w K mg base 1 "_law_pull" ["_law_source_here", "_law_width"] spPull
  load : Cal P w K mg base 8 "_law_load" ["_law_sorts", "_law_counts"] (spLoad K C)
  cmp : CalX P w K mg base 6 "compare" ["one", "other", "kinds"] (spCompare K C CL CK CU)
  len : mg "len" = none
  sum : mg "sum" = none
  max : mg "max" = none
  repr : mg "repr" = none
abbrev NG : List Str := ["_law_source_here", "_law_sorts", "_law_low", "_law_high", "_law_sizes", "_law_due", "_law_ahead", "_law_near", "_law_far", "_law_kind", "_law_count"]
def spGreat (K : PySem.W.Frag) : Sp := fun vs H Q _ => ∃ (p t : Addr) (ks : List Str), vs = [.ref p, .ref t] ∧ Src p H ∧ SqT K H t (ks.map V.str) ∧ (∀ k ∈ ks, nameB k = true) ∧ ks.Nodup ∧ ks ≠ [] ∧ ks.length ≤ 20 ∧ ∀ H', Off [p] H H' → Src p H' → Q (.bl true) H'
abbrev rPowI : R2 := rI CPow fun i j => .int (i ^ j.toNat)
end
end My
set_option Elab.async false
set_option maxRecDepth 100000
set_option maxHeartbeats 8000000
namespace My
open PySem PySem.Spec PyProof.Rows L2
/-! ### which name is told first -/
def leS (a b : Str) : Prop := ltCps b.cps.toList a.cps.toList = false
theorem le_cps : ∀ a b c : List Nat, ltCps b a = false → ltCps c b = false → ltCps c a = false
  | _, _, [], _, h => by
    rename_i a b h1
    cases a with
    | nil => unfold ltCps; rfl
    | cons x a =>
      cases b with
      | nil => unfold ltCps at h1; cases h1
      | cons y b => unfold ltCps at h; cases h
  | [], _, z :: c, _, _ => by unfold ltCps; rfl
  | x :: a, [], z :: c, h, _ => by unfold ltCps at h; cases h
  | x :: a, y :: b, z :: c, h1, h2 => by
    unfold ltCps at h1 h2 ⊢
    rw [Bool.or_eq_false_iff] at h1 h2 ⊢
    obtain ⟨p1, q1⟩ := h1
    obtain ⟨p2, q2⟩ := h2
    have u1 := of_decide_eq_false p1
    have u2 := of_decide_eq_false p2
    refine ⟨decide_eq_false (by omega), ?_⟩
    by_cases e : z = x
    · subst e
      have ey : y = z := by omega
      subst ey
      have r1 : ltCps b a = false := by simpa using q1
      have r2 : ltCps c b = false := by simpa using q2
      simpa using le_cps a b c r1 r2
    · have : (z == x) = false := by simpa using e
      rw [this, Bool.false_and]
theorem leS.trans {a b c : Str} (h1 : leS a b) (h2 : leS b c) : leS a c := le_cps _ _ _ h1 h2
theorem rising_le : ∀ {x : Str} {l : List Str}, risingS x l = true → ∀ y ∈ l, leS x y
  | x, [], _, _, h => nomatch h
  | x, z :: l, h, y, hy => by
    unfold risingS at h
    rw [Bool.and_eq_true] at h
    have e : leS x z := by
      unfold leS
      simpa using h.1
    rcases List.mem_cons.mp hy with rfl | hy
    · exact e
    · exact e.trans (rising_le h.2 y hy)
theorem rising_sorted {x : Str} {l : List Str} (h : risingS x l = true) : sortedS l = true := by
  cases l with
  | nil => rfl
  | cons y l =>
    unfold risingS at h
    rw [Bool.and_eq_true] at h
    exact h.2
/-- of two names of which alone p holds, the lesser one is found -/
theorem find_first {p : Str → Bool} {u v : Str} (hu : p u = true) (hn : ¬ leS v u) : ∀ {l : List Str}, sortedS l = true → u ∈ l → (∀ s ∈ l, p s = true → s = u ∨ s = v) → l.find? p = some u
  | [], _, h, _ => nomatch h
  | x :: l, hs, h, ho => by
    have hr : risingS x l = true := hs
    by_cases c : p x = true
    · rw [List.find?_cons_of_pos c]
      rcases ho x List.mem_cons_self c with rfl | rfl
      · rfl
      · rcases List.mem_cons.mp h with rfl | h
        · rfl
        · exact absurd (rising_le hr u h) hn
    · rw [List.find?_cons_of_neg c]
      rcases List.mem_cons.mp h with rfl | h
      · exact absurd hu c
      · exact find_first hu hn (rising_sorted hr) h fun s hs' => ho s (List.mem_cons_of_mem _ hs')
abbrev zz1 : Str := "zz98765"
abbrev zz2 : Str := "zz99999"
def farP : List (Str × Int) := [(zz1, 1), (zz2, 2)]
theorem far_mem : zz1 ∈ farP.map (·.1) := by decide +kernel
theorem zz_le : ¬ leS zz2 zz1 := by
  unfold leS
  decide +kernel
theorem far_good : GoodP farP := ⟨by decide +kernel, by decide, by decide +kernel⟩
theorem fnd_far {ks : List Str} {qs : List (Str × Int)} (h1 : zz1 ∉ ks) (od : Ordered farP qs) : fnd ks qs = some zz1 := by
  unfold fnd
  refine find_first (v := zz2) (decide_eq_true h1) zz_le od.sorted ?_ fun s hs _ => ?_
  · exact (od.perm.map (·.1)).mem_iff.mpr far_mem
  · have z := (od.perm.map (·.1)).mem_iff.mp hs
    unfold farP at z
    simpa using z
theorem put1_in {ps : List (Str × Int)} {s : Str} {n : Int} {x : Str} : x ∈ (put1 ps s n).map (·.1) ↔ x ∈ ps.map (·.1) ∨ x = s := by
  rw [put1_names]
  split
  · rename_i h
    constructor
    · exact .inl
    · rintro (z | rfl)
      · exact z
      · obtain ⟨p, hp, e⟩ := List.any_eq_true.mp h
        rw [← of_decide_eq_true e]
        exact List.mem_map_of_mem hp
  · rw [List.mem_append, List.mem_singleton]
theorem addP_in : ∀ {qs ps : List (Str × Int)} {x : Str}, x ∈ (addP ps qs).map (·.1) ↔ x ∈ ps.map (·.1) ∨ x ∈ qs.map (·.1)
  | [], ps, x => by
    show x ∈ ps.map (·.1) ↔ _
    simp
  | q :: qs, ps, x => by
    show x ∈ (addP (put1 ps q.1 q.2) qs).map (·.1) ↔ _
    rw [addP_in, put1_in, List.map_cons, List.mem_cons, or_assoc]
theorem fnd_add {ks : List Str} {ps qs rs : List (Str × Int)} (h1 : zz1 ∉ ks) (hp : ∀ p ∈ ps, p.1 ∈ ks) (o1 : Ordered farP qs) (od : Ordered (addP ps qs) rs) : fnd ks rs = some zz1 := by
  unfold fnd
  refine find_first (v := zz2) (decide_eq_true h1) zz_le od.sorted ?_ fun s hs c => ?_
  · exact (od.perm.map (·.1)).mem_iff.mpr (addP_in.mpr (.inr ((o1.perm.map (·.1)).mem_iff.mpr far_mem)))
  · rcases addP_in.mp ((od.perm.map (·.1)).mem_iff.mp hs) with z | z
    · obtain ⟨p, hp', rfl⟩ := List.mem_map.mp z
      exact absurd (hp p hp') (of_decide_eq_true c)
    · have y := (o1.perm.map (·.1)).mem_iff.mp z
      unfold farP at y
      simpa using y
theorem fnd_none {ks : List Str} {ps : List (Str × Int)} (hp : ∀ p ∈ ps, p.1 ∈ ks) : fnd ks ps = none := by
  unfold fnd
  rw [List.find?_eq_none]
  intro s hs z
  obtain ⟨p, hp', rfl⟩ := List.mem_map.mp hs
  exact of_decide_eq_true z (hp p hp')
theorem zz_out {ks : List Str} (h : ∀ s ∈ ks, s.length ≤ 5) : zz1 ∉ ks := fun z => by
  have y := h _ z
  exact absurd y (by decide +kernel)
/-! ### what a lambda leaves -/
section
variable {K : PySem.W.Frag} {C : Addr} {H H' : Hp}
theorem extOf (e : Same H H') : LamX.ExtN H H' := fun b o h _ => e b o h
theorem extTrans {H1 : Hp} (a : LamX.ExtN H H1) (b : LamX.ExtN H1 H') : LamX.ExtN H H' := fun c o h n => b c o (a c o h n) n
theorem sqT_ext {a : Addr} {xs : List V} (h : SqT K H a xs) (e : LamX.ExtN H H') : SqT K H' a xs := by
  rcases h with (h | ⟨o, h⟩) | h
  · exact .inl (.inl (e _ _ h (fun _ z => nomatch z)))
  · exact .inl (.inr ⟨o, e _ _ h (fun _ z => nomatch z)⟩)
  · exact .inr h
theorem ty_ext {v : V} {t : Value} (h : TyX K H v t) (e : LamX.ExtN H H') : TyX K H' v t := by
  cases h with
  | base b =>
    cases b with
    | non => exact .base .non
    | bl x => exact .base (.bl x)
    | int x => exact .base (.int x)
    | str x => exact .base (.str x)
    | flt x => exact .base (.flt x)
    | lst h => exact .base (.lst (e _ _ h (fun _ z => nomatch z)))
    | frz h => exact .base (.frz (e _ _ h (fun _ z => nomatch z)))
    | tup h => exact .base (.tup (e _ _ h (fun _ z => nomatch z)))
    | dK h => exact .base (.dK (e _ _ h (fun _ z => nomatch z)))
    | dT h => exact .base (.dT (e _ _ h (fun _ z => nomatch z)))
    | ins h c1 c2 c3 c4 c5 => exact .base (.ins (e _ _ h (fun _ z => nomatch z)) c1 c2 c3 c4 c5)
  | byt b => exact .byt b
  | set h => exact .set (e _ _ h (fun _ z => nomatch z))
  | kList a b => exact .kList a b
  | kTuple a b => exact .kTuple a b
  | kDict a b => exact .kDict a b
  | fTuple h => exact .fTuple (e _ _ h (fun _ z => nomatch z))
  | fDict h => exact .fDict (e _ _ h (fun _ z => nomatch z))
theorem pairAt_ext {v : V} {q : Str × Int} (h : PairAt H v q) (e : LamX.ExtN H H') : PairAt H' v q := by
  obtain ⟨u, rfl, z⟩ := h
  exact ⟨u, rfl, e _ _ z (fun _ y => nomatch y)⟩
theorem tupZ_ext {t : Addr} {ts : List V} (h : TupZ H t ts) (e : LamX.ExtN H H') : TupZ H' t ts := let ⟨o, z, n⟩ := h; ⟨o, e _ _ z (fun _ y => nomatch y), n⟩
theorem loadAt_ext {a : Addr} {ps : List (Str × Int)} (h : LoadAt C H a ps) (e : LamX.ExtN H H') : LoadAt C H' a ps := by
  obtain ⟨dx, t, d, ts, e1, tz, pr, e3⟩ := h
  exact ⟨dx, t, d, ts, e _ _ e1 (fun _ y => nomatch y), tupZ_ext tz e, pairedMono (fun _ _ h => pairAt_ext h e) pr, e _ _ e3 (fun _ y => nomatch y)⟩
theorem nameK_ext {v : V} {r : Option Str} (h : NameK K H v r) (e : LamX.ExtN H H') : NameK K H' v r := by
  cases h with
  | str h => exact .str h
  | other ty k => exact .other (ty_ext ty e) k
theorem kindsK_ext {v : V} {r : Option (List (Option Str))} (h : KindsK K H v r) (e : LamX.ExtN H H') : KindsK K H' v r := by
  cases h with
  | no ty k => exact .no (ty_ext ty e) k
  | tup q pr hl => exact .tup (sqT_ext q e) (pairedMono (fun _ _ h => nameK_ext h e) pr) hl
theorem src_ext {p : Addr} (s : Src p H) (e : LamX.ExtN H H') : Src p H' := by
  obtain ⟨A, S, c, h⟩ := s
  exact ⟨A, S, c, e _ _ h.at_ (fun _ z => nomatch z), h.a0, h.s0, h.s1, h.c0⟩
theorem tabs_same {T : List (Addr × Str)} (h : LamX.Tabs T H) (e : Same H H') : LamX.Tabs T H' := fun p hp => by
  obtain ⟨ps, h1, h2, h3⟩ := h p hp
  exact ⟨ps, e _ _ h1, h2, fun pos cv hc => by
    obtain ⟨c, rfl, z⟩ := h3 pos cv hc
    exact ⟨c, rfl, e _ _ z⟩⟩
theorem tabs_off {T : List (Addr × Str)} {p : Addr} {xs : List V} (h : LamX.Tabs T H) (hp : H p = some (.lst xs)) (o : Off [p] H H') : LamX.Tabs T H' := fun t ht => by
  have ne : ∀ {b : Addr} {u : HO}, H b = some u → (∀ ys, u ≠ .lst ys) → H' b = some u := fun {b u} h n => keepOff o.offp hp b u h n
  obtain ⟨ps, h1, h2, h3⟩ := h t ht
  exact ⟨ps, ne h1 (fun _ z => nomatch z), h2, fun pos cv hc => by
    obtain ⟨c, rfl, z⟩ := h3 pos cv hc
    exact ⟨c, rfl, ne z (fun _ y => nomatch y)⟩⟩
end
end My
set_option Elab.async false
set_option maxRecDepth 100000
set_option maxHeartbeats 8000000
namespace My
open PySem PySem.Spec PyProof.Rows L2
local macro_rules | `(tactic| walk_at "cond") => `(tactic| first
  | exact Or.inr ⟨by decide, by decide⟩ | exact Or.inl ⟨by decide, by decide⟩ | exact ⟨by decide, by decide, by decide⟩ | exact ⟨by decide, by decide⟩
  | (refine Or.inl ⟨?_, ?_⟩ <;> omega) | (refine Or.inr ⟨?_, ?_⟩ <;> omega)
  | (show (0 : Int) < _; omega))
local macro_rules | `(tactic| walk_at "mem") => `(tactic| first | exact List.Mem.head _ | exact List.Mem.tail _ (List.Mem.head _) | exact Put.head | (refine List.Mem.tail _ ?_; walk_at "mem") | (apply Put.tail; walk_at "mem"))
local macro_rules | `(tactic| walk_at "st") => `(tactic| first
  | with_reducible refine g_seq ?_ | with_reducible refine g_asg ?_ | with_reducible refine g_name ?_ | ((with_reducible show tVar _ _ _ _); refine g_var rfl ?_) | with_reducible refine g_c ?_
  | with_reducible refine g_op ?_ | with_reducible refine g_test ?_ | with_reducible refine g_bl ?_
  | with_reducible refine g_cb ?_ | with_reducible refine g_cons ?_ | with_reducible refine g_nil ?_ | with_reducible refine g_tif ?_ | with_reducible refine g_ifs ?_ | with_reducible refine g_ret ?_
  | with_reducible refine g_drop ?_ | with_reducible refine g_next ?_
  | with_reducible refine g_i0 ?_ | ((with_reducible show rI _ _ _ _ _ _); refine g_i (by walk_at "cond") ?_) | with_reducible refine g_int ?_ | with_reducible refine g_abs ?_ | with_reducible refine g_or ?_
  | with_reducible refine g_and ?_ | with_reducible refine g_not ?_ | with_reducible refine g_lst ?_ | with_reducible refine g_tup ?_
  | with_reducible refine iteT ?_ | with_reducible refine iteF ?_ | with_reducible refine g_par ?_ | with_reducible refine g_two ?_ | with_reducible refine g_sub ?_
  | ((with_reducible show rIxL _ (V.ref _) (V.int _) _ _); refine g_ixM (by assumption) (by walk_at "mem") rfl rfl ?_)
  | ((with_reducible show rSetL (V.ref _) (V.int _) _ _ _); refine g_setM (by assumption) rfl (by walk_at "mem") fun _ _ => ?_)
  | with_reducible refine g_xmk ?_ | with_reducible refine g_xmkK ?_
  | ((with_reducible show XNew _ (spI1 _ _) _ _ _); refine g_x1 (by assumption) fun _ _ _ _ => ?_)
  | ((with_reducible show XNewK _ _ (spI1 _ _) _ _ _ _); refine g_x1k (by assumption) fun _ _ _ _ => ?_)
  | ((with_reducible show XNew _ (spI3 _ _ _ _) _ _ _); refine g_x3 (by assumption) fun _ _ _ _ => ?_)
  | ((with_reducible show tXmk0 _ _ _ _); refine g_xmk0 (by assumption) fun _ _ _ => ?_)
  | ((with_reducible show NewO _ _ _ _); refine g_newo (by assumption) (by first | decide | simp) fun _ _ _ _ => ?_)
  | ((with_reducible show rCat (V.ref _) (V.ref _) _ _); refine g_cat (by assumption) (by walk_at "mem") (by walk_at "mem") (by first | decide | simp) fun _ _ _ _ => ?_))
local macro_rules | `(tactic| walk_at "st") => `(tactic| first | with_reducible refine g_tcall ?_ | with_reducible refine g_tb ?_ | with_reducible refine g_andV ?_ | with_reducible refine g_notV ?_ | with_reducible refine g_chain ?_ | with_reducible refine g_un ?_ | with_reducible refine g_rU ?_)
/-- a def whose code stands at c -/
structure FunC (K : PySem.W.Frag) (x qual : Str) (st : Stmt) (f c : Addr) (fd : FuncData) : Prop where
  ex : ∃ oc od kV doc pm an ct osl, fd = PySem.W.fnOf x qual (defArgs st) (defBody st) (defScope st) Value.none kV doc pm an (.ref c) ct ∧ List.lookup f K = some { cls := oc, dict := od, data := Data.func fd, slots := osl } ∧ PySem.W.codeIn K (.ref c) qual = true
  kp : PySem.W.keepIn K (.ref f) = true
section
variable {P : Program} {w : World} {K : PySem.W.Frag} {mg : Str → Option Value} {base : Heap} {k : Nat} {f c : Addr}
theorem okGC {x qual : Str} {st : Stmt} {fd : FuncData} {N ps : List Str} {sp : Sp} (F : FunC K x qual st f c fd) (S : FnScope N ps (defScope st)) (len : ∀ vs H Q E, sp vs H Q E → vs.length = ps.length)
    (hbody : ∀ (A : Around) (outer : List Env) (s : Shared) (H : Hp) (vs : List V) (Q : VK) (E : XK), Room k (A.deeper (envOfC qual (defScope st) s.heap.objs.size f (.ref c))) → (A.deeper (envOfC qual (defScope st) s.heap.objs.size f (.ref c))).guards = some [] → sp vs H Q E →
      ∃ t, PSs (cxOf CX0 P w K mg base N qual (defScope st) f (.ref c) A outer s H E).nox (defBody st) t ∧ t { nx := fun _ H' => Q .non H', rt := Q } (start N vs) H) : FnG P w K mg base CX0 (k + 1) f fd ps sp := by
  obtain ⟨oc, od, kV, doc, pm, an, ct, osl, rfl, lk, hcd⟩ := F.ex
  refine fnG_of lk hcd S len fun A outer s H vs Q E hr hg hsp => ?_
  obtain ⟨t, h, q⟩ := hbody A outer s H vs Q E hr hg hsp
  exact ⟨t, h.nox, q⟩
end
/-- two by place, one by keyword -/
def kwTwo {α : Type} : List α → List α → List α
  | [a, b], [c] => [a, b, c]
  | _, _ => []
/-- three by keyword, the other way round -/
def kwRev {α : Type} : List α → List α → List α
  | [], [k, o, n] => [n, o, k]
  | _, _ => []
abbrev qLam : Str := "_law_errors_right.<locals>.<lambda>"
abbrev NE : List Str := ["_law_source_here", "_law_sorts", "_law_some", "_law_some_bad", "_law_spot", "_law_told", "_law_due", "_law_bad", "_law_far", "_law_odd"]
def spErrs (K : PySem.W.Frag) (C tP : Addr) : Sp := fun vs H Q _ => ∃ (p t a : Addr) (ks : List Str) (ps : List (Str × Int)), vs = [.ref p, .ref t, .ref a] ∧ Src p H ∧ SqT K H t (ks.map V.str) ∧ (∀ k ∈ ks, nameB k = true ∧ k.length ≤ 5) ∧ ks.Nodup ∧ ks ≠ [] ∧ ks.length ≤ 20 ∧ LoadAt C H a ps ∧ GoodP ps ∧ (∀ p ∈ ps, p.1 ∈ ks) ∧ ps.length ≤ 20 ∧ LamX.Tabs [(tP, qLam)] H ∧
  ∀ H', (∀ b o, H b = some o → b ≠ p → (∀ xs, o ≠ .tbl xs) → H' b = some o) → Src p H' → LamX.Tabs [(tP, qLam)] H' → Q (.bl true) H'
section
variable {P : Program} {w : World} {K : PySem.W.Frag} {mg : Str → Option Value} {base : Heap}
end
end My
set_option Elab.async false
set_option maxRecDepth 100000
set_option maxHeartbeats 8000000
namespace My
open PySem PySem.Spec PyProof.Rows L2
theorem g_slA {K : PySem.W.Frag} {H : Hp} {Q : VK} {a : Addr} {xs : List V} {lo hi : Option Int} (h : SqT K H a xs) (q : ∀ H' b, Same H H' → SqT K H' b (cutV xs lo hi) → Q (.ref b) H') : rSlA K (.ref a) lo hi H Q := by
  refine ⟨a, xs, rfl, h, fun w => q H a (Same.refl H) ?_, fun _ p hp => q _ p (sameNew hp) (SqT.of upd_same)⟩
  have e : cutV xs lo hi = xs := by
    unfold cutV
    rw [w.1, w.2, List.drop_zero, Nat.sub_zero, List.take_length]
  rw [e]
  exact h
theorem g_catTA {K : PySem.W.Frag} {H : Hp} {Q : VK} {a b : Addr} {xs ys : List V} (h1 : SqT K H a xs) (h2 : SqT K H b ys) (ne : xs ≠ []) (hl : xs.length + ys.length ≤ 1000) (q : ∀ H' c, Same H H' → SqT K H' c (xs ++ ys) → Q (.ref c) H') : rCatT K (.ref a) (.ref b) H Q := by
  refine ⟨a, b, xs, ys, rfl, rfl, h1, h2, ne, Nat.le_trans hl (by decide), fun e => q H a (Same.refl H) ?_, fun _ p hp => q _ p (sameNew hp) (SqT.of upd_same)⟩
  rw [e, List.append_nil]
  exact h1
/-- a string or an int -/
def isS : V → Bool
  | .str s => PyData.strOk s
  | .int _ => true
  | _ => false
theorem tl_small : ∀ c ∈ tlL, c < 1114112 := by decide +kernel
theorem name_strOk {s : Str} (h : nameB s = true) : PyData.strOk s = true := by
  unfold nameB allIn at h
  simp only [Bool.and_eq_true, decide_eq_true_eq, List.all_eq_true] at h
  unfold PyData.strOk
  rw [← Array.all_toList, List.all_eq_true]
  exact fun x hx => decide_eq_true (tl_small x (h.2.2.2 x hx))
def toD : V → PyData
  | .str s => .str s
  | .int i => .int i
  | _ => .none
theorem dpAll_s {K : PySem.W.Frag} {H : Hp} : ∀ {xs : List V}, (∀ x ∈ xs, isS x = true) → DpAll K H xs (xs.map toD)
  | [], _ => .nil
  | x :: xs, h => by
    refine .cons ?_ (dpAll_s fun y hy => h y (List.mem_cons_of_mem _ hy))
    have z := h x List.mem_cons_self
    cases x <;> first | exact .str _ | exact .int _ | cases z
theorem depthAll_s : ∀ {xs : List V}, (∀ x ∈ xs, isS x = true) → PyData.depthAll (xs.map toD) = 0
  | [], _ => by simp [PyData.depthAll]
  | x :: xs, h => by
    have ih := depthAll_s fun y hy => h y (List.mem_cons_of_mem x hy)
    have z := h x List.mem_cons_self
    rw [List.map_cons]
    cases x <;> first | (simp [PyData.depthAll, PyData.depth, toD, ih]; done) | cases z
theorem canAll_s : ∀ {xs : List V}, (∀ x ∈ xs, isS x = true) → PyData.canLayAll0 (xs.map toD) = true
  | [], _ => by simp [PyData.canLayAll0]
  | x :: xs, h => by
    have ih := canAll_s fun y hy => h y (List.mem_cons_of_mem x hy)
    have z := h x List.mem_cons_self
    rw [List.map_cons]
    cases x <;> first | (simp [PyData.canLayAll0, PyData.canLay0, toD, ih]; done) | (simp [PyData.canLayAll0, PyData.canLay0, toD, ih]; exact z) | cases z
theorem shaped_s {xs : List V} (h : ∀ x ∈ xs, isS x = true) : SeqAt.shaped (.tuple (xs.map toD)) = true := by
  have c : (PyData.tuple (xs.map toD)).canLay0 = true := by simp [PyData.canLay0, canAll_s h]
  have d : (PyData.tuple (xs.map toD)).depth ≤ 2 := by simp [PyData.depth, depthAll_s h]
  unfold SeqAt.shaped
  rw [c, decide_eq_true (Nat.le_trans d (by decide))]
  rfl
theorem eqv_empty (xs : List V) : PyData.eqv (.tuple (xs.map toD)) (.tuple []) = decide (xs = []) := by
  cases xs with
  | nil => simp [PyData.eqv, PyData.eqvAll]
  | cons x xs => simp [PyData.eqv, PyData.eqvAll]
theorem g_neEmpty {K : PySem.W.Frag} {H : Hp} {Q : VK} {b T : Addr} {xs : List V} (h : SqT K H b xs) (hs : ∀ x ∈ xs, isS x = true) (e : SqT K H T []) (q : Q (.bl (!decide (xs = []))) H) : rNeD K (.ref b) (.ref T) H Q :=
  ⟨_, _, Dp.tup h (dpAll_s hs), Dp.tup e DpAll.nil, shaped_s hs, shaped_s (xs := []) (fun _ z => nomatch z), by rw [eqv_empty]; exact q⟩
/-! ### rows that are told -/
def RowAt (D : Addr) (H : Hp) (x : V) (r : Str × V) : Prop := ∃ b, x = .ref b ∧ b ≠ D ∧ H b = some (.lst [.str r.1, r.2, .bl true])
theorem RowAt.ext {D : Addr} {H H' : Hp} {x : V} {r : Str × V} (h : RowAt D H x r) (e : LamX.ExtN H H') : RowAt D H' x r := by
  obtain ⟨b, rfl, n, z⟩ := h
  exact ⟨b, rfl, n, e _ _ z (fun _ y => nomatch y)⟩
theorem RowAt.upd {D : Addr} {H : Hp} {x : V} {r : Str × V} {o : HO} (h : RowAt D H x r) : RowAt D (upd H D o) x r := by
  obtain ⟨b, rfl, n, z⟩ := h
  exact ⟨b, rfl, n, by rw [upd_ne n]; exact z⟩
def Told (D : Addr) (H : Hp) (l : List (Str × V)) : Prop := ∃ xs, H D = some (.lst xs) ∧ Paired (RowAt D H) xs l
theorem Told.ext {D : Addr} {H H' : Hp} {l : List (Str × V)} (h : Told D H l) (e : LamX.ExtN H H') : Told D H' l := by
  obtain ⟨xs, z, pr⟩ := h
  exact ⟨xs, e _ _ z (fun _ y => nomatch y), pairedMono (fun _ _ h => RowAt.ext h e) pr⟩
section
variable {K : PySem.W.Frag} {H : Hp} {Q : VK} {CL CK CU : Addr}
theorem tellL {v : V} (q : ∀ H' p, Same H H' → H p = none → H' p = some (.lst [.str "NotALoad", v, .bl true]) → Q (.ref p) H') : BadV CL "value" v H (ErrW CL CK CU Q) := fun H' d s hd =>
  .inl ⟨v, d, _, rfl, rfl, upd_same, rfl, fun p hp => q _ p ((s.trans (sameNew hd)).trans (sameNew hp)) (none_back (s.trans (sameNew hd)) hp) upd_same⟩
theorem tellK {v : V} (q : ∀ H' p, Same H H' → H p = none → H' p = some (.lst [.str "InvalidKinds", v, .bl true]) → Q (.ref p) H') : BadIx CK v H (ErrW CL CK CU Q) := fun H' d s hd =>
  .inr (.inl ⟨v, d, _, rfl, rfl, upd_same, rfl, fun p hp => q _ p ((s.trans (sameNew hd)).trans (sameNew hp)) (none_back (s.trans (sameNew hd)) hp) upd_same⟩)
theorem tellU {v : V} (q : ∀ H' p, Same H H' → H p = none → H' p = some (.lst [.str "UnknownKind", v, .bl true]) → Q (.ref p) H') : BadV CU "value" v H (ErrW CL CK CU Q) := fun H' d s hd =>
  .inr (.inr ⟨v, d, _, rfl, rfl, upd_same, rfl, fun p hp => q _ p ((s.trans (sameNew hd)).trans (sameNew hp)) (none_back (s.trans (sameNew hd)) hp) upd_same⟩)
/-- what a lambda that is asked tells is a row -/
theorem g_lamRow {T : List (Addr × Str)} {t : XK → TE} {σ : L2.St} {nm : Str} {v : V} (tb : LamX.Tabs T H)
    (h : ∀ (H1 : Hp) (Q1 : VK) (f : Addr), LamX.ExtN H H1 → (∀ H' p, Same H1 H' → H1 p = none → H' p = some (.lst [.str nm, v, .bl true]) → Q1 (.ref p) H') → t (ErrW CL CK CU Q1) σ H1 (ToldK f Q1))
    (q : ∀ H' p, LamX.ExtN H H' → LamX.Tabs T H' → (∀ b o, H b = some o → (∀ ps, o ≠ .tbl ps) → b ≠ p) → H' p = some (.lst [.str nm, v, .bl true]) → Q (.ref p) H') : LamX.tLam T (TErr CL CK CU) t σ H Q := by
  refine ⟨tb, fun H1 e1 tb1 f => h H1 Q f e1 fun H' p s hp hr => q H' p (extTrans e1 (extOf s)) (tabs_same tb1 s) (fun b o hb no z => ?_) hr⟩
  subst z
  rw [e1 _ _ hb no] at hp
  cases hp
/-- .. and goes behind the others -/
theorem g_tell {T : List (Addr × Str)} {t : XK → TE} {σ : L2.St} {nm : Str} {v : V} {D : Addr} {l : List (Str × V)} {i : Nat} {N : L2.St → Hp → Prop} (hi : σ[i]? = some (some (.ref D))) (tb : LamX.Tabs T H) (td : Told D H l) (few : l.length ≤ 100)
    (h : ∀ (H1 : Hp) (Q1 : VK) (f : Addr), LamX.ExtN H H1 → (∀ H' p, Same H1 H' → H1 p = none → H' p = some (.lst [.str nm, v, .bl true]) → Q1 (.ref p) H') → t (ErrW CL CK CU Q1) σ H1 (ToldK f Q1))
    (q : ∀ H', (∀ b o, H b = some o → b ≠ D → (∀ ps, o ≠ .tbl ps) → H' b = some o) → LamX.Tabs T H' → Told D H' (l ++ [(nm, v)]) → N σ H') : tBM K "list" rAppend (tVar i) (tCons (LamX.tLam T (TErr CL CK CU) t) tNil) σ H fun _ H1 => N σ H1 := by
  obtain ⟨xs, d1, pr⟩ := td
  refine g_bm2 <| g_var hi <| g_tyE d1 <| g_cons ?_
  refine g_lamRow (nm := nm) (v := v) tb h fun H' p e tb' new hr => g_nil ?_
  have d2 := e _ _ d1 (fun _ z => nomatch z)
  refine ⟨D, xs, _, rfl, rfl, d2, ?_, q _ (fun b o hb nd no => ?_) (fun P hP => ?_) ⟨_, upd_same, ?_⟩⟩
  · rw [pr.length]
    exact Nat.lt_of_le_of_lt few (by decide)
  · rw [upd_ne nd]
    exact e _ _ hb no
  · obtain ⟨ps, h1, h2, h3⟩ := tb' P hP
    have ne : ∀ {b : Addr} {u : HO}, H' b = some u → (∀ ys, u ≠ .lst ys) → upd H' D (.lst (xs ++ [.ref p])) b = some u := fun {b u} hb n => by
      rw [upd_ne (fun z => by
        rw [z, d2] at hb
        exact n xs (Option.some.inj hb).symm)]
      exact hb
    exact ⟨ps, ne h1 (fun _ z => nomatch z), h2, fun pos cv hc => by
      obtain ⟨c, rfl, z⟩ := h3 pos cv hc
      exact ⟨c, rfl, ne z (fun _ y => nomatch y)⟩⟩
  · refine pairedApp (pairedMono (fun _ _ h => (RowAt.ext h e).upd) pr) (.cons ⟨p, rfl, (new D _ d1 (fun _ z => nomatch z)).symm, ?_⟩ .nil)
    rw [upd_ne (new D _ d1 (fun _ z => nomatch z)).symm]
    exact hr
/-! ### what was told is what is due -/
def VOk (v : V) : Prop := flatB v = true ∨ ∃ a, v = .ref a
theorem VOk.eqv {n : Nat} {v : V} (h : VOk v) : EqV K H (n + 1) v v := by
  unfold EqV
  rcases h with h | ⟨a, rfl⟩
  · exact .inl ⟨rfl, h⟩
  · exact .inr (.inl ⟨a, rfl, rfl⟩)
theorem row_eqv {D1 D2 : Addr} {x y : V} {r : Str × V} (h1 : RowAt D1 H x r) (h2 : RowAt D2 H y r) (ok : VOk r.2) : EqV K H 2 x y := by
  obtain ⟨b, rfl, _, z1⟩ := h1
  obtain ⟨c, rfl, _, z2⟩ := h2
  unfold EqV
  exact .inr (.inr (.inl ⟨b, c, _, _, rfl, rfl, SqL.of z1, SqL.of z2, .cons (VOk.eqv (.inl rfl)) (.cons ok.eqv (.cons (VOk.eqv (.inl rfl)) .nil))⟩))
theorem rows_eqv {D1 D2 : Addr} : ∀ {l : List (Str × V)} {xs ys : List V}, Paired (RowAt D1 H) xs l → Paired (RowAt D2 H) ys l → (∀ r ∈ l, VOk r.2) → Paired (EqV K H 2) xs ys
  | [], _, _, .nil, .nil, _ => .nil
  | r :: l, _, _, .cons h1 t1, .cons h2 t2, ok => .cons (row_eqv h1 h2 (ok r List.mem_cons_self)) (rows_eqv t1 t2 fun s hs => ok s (List.mem_cons_of_mem _ hs))
end
/-! ### kinds that are none -/
theorem bad_more {ks : List Str} {k : Str} (nd : ks.Nodup) (hk : k ∈ ks) : wrongNm 0 [] ((ks ++ [k]).map some) = some ks.length := by
  have go : ∀ (r seen : List Str) (i : Nat), r.Nodup → (∀ x ∈ r, x ∉ seen) → k ∈ seen ++ r → wrongNm i seen ((r ++ [k]).map some) = some (i + r.length) := by
    intro r
    induction r with
    | nil =>
      intro seen i _ _ h
      rw [List.append_nil] at h
      show wrongNm i seen (some k :: []) = _
      unfold wrongNm
      rw [if_pos h]
      rfl
    | cons x r ih =>
      intro seen i nd h hk
      rw [List.nodup_cons] at nd
      show wrongNm i seen (some x :: (r ++ [k]).map some) = _
      unfold wrongNm
      rw [if_neg (h x List.mem_cons_self), ih (seen ++ [x]) (i + 1) nd.2 (fun y hy z => ?_) (by rw [List.append_assoc]; exact hk), List.length_cons]
      · congr 1
        omega
      · rcases List.mem_append.mp z with z | z
        · exact h y (List.mem_cons_of_mem _ hy) z
        · rw [List.mem_singleton.mp z] at hy
          exact nd.1 hy
  have z := go ks [] 0 nd (fun _ _ z => nomatch z) hk
  rwa [Nat.zero_add] at z
theorem bad_none {ks : List Str} (nd : ks.Nodup) : wrongNm 0 [] (ks.map some ++ [none]) = some ks.length := by
  have go : ∀ (r seen : List Str) (i : Nat), r.Nodup → (∀ x ∈ r, x ∉ seen) → wrongNm i seen (r.map some ++ [none]) = some (i + r.length) := by
    intro r
    induction r with
    | nil =>
      intro seen i _ _
      rfl
    | cons x r ih =>
      intro seen i nd h
      rw [List.nodup_cons] at nd
      show wrongNm i seen (some x :: (r.map some ++ [none])) = _
      unfold wrongNm
      rw [if_neg (h x List.mem_cons_self), ih (seen ++ [x]) (i + 1) nd.2 (fun y hy z => ?_), List.length_cons]
      · congr 1
        omega
      · rcases List.mem_append.mp z with z | z
        · exact h y (List.mem_cons_of_mem _ hy) z
        · rw [List.mem_singleton.mp z] at hy
          exact nd.1 hy
  have z := go ks [] 0 nd (fun _ _ z => nomatch z)
  rwa [Nat.zero_add] at z
end My
set_option Elab.async false
set_option maxRecDepth 100000
set_option maxHeartbeats 4000000
namespace PySem.W
open PySem PySem.Calls PyProof.Rows
section
variable {prog : Program} {w : World} {M : Model} {A : Around} {E : Value → Shared → Prop} {s : Shared} {K : Frag} {x C L f : Addr} {h₀ : Heap} {m : Str → Option Value} {ox : Obj} {od : Option Obj} {nm T : String}
theorem my_fillsI {h : Heap} {add : Bool} {cd : ClassData} (X : K.In h) (hc : clsIn K C = some cd) (hm : cd.mro = [.ref C, .type "object"]) (h1 : findIn K (.ref C) (dunderI nm) = some none) (h2 : findIn K (.type "object") (dunderI nm) = some none) :
    Looks M h (fillsInplaceSlot (.ref C) nm add) false := by
  intro A Q E s k q
  have Lm : Looks M h (mroOf (.ref C)) cd.mro := (looks_clsIn X hc).andThen (f := fun cd => pure cd.mro) .now
  have Lm' := Lm.keeps k
  obtain ⟨hh, g, d, tt, os⟩ := s
  have X' : K.In hh := X.keeps k
  have L1 : Looks M hh (typeLookup (.ref C) (dunderI nm)) none := looks_findIn X' h1
  have L2 : Looks M hh (typeLookup (.type "object") (dunderI nm)) none := looks_findIn X' h2
  unfold fillsInplaceSlot
  refine wpAny_bind (Lm'.at ?_)
  rw [hm, List.anyM_cons]
  refine wpAny_bind ?_
  repeat lk
  exact q
/-- an operator of one's own class, with a right operand of a builtin type -/
theorem my_bin1T {nm : String} {b : Value} {fo ro rc : Option Value} {Q : Value → Shared → Prop} (X : K.In s.heap) (I : InstAt s.heap x ox C od) (hb : Looks (model prog w) s.heap (typeOf b) (.type T)) (hc : selfFirst K C = true)
    (hs : findIn K (.ref C) (PySem.dunder nm) = some (some (.ref f))) (hf : isFn K (.ref f) = true) (hr : findIn K (.ref C) (dunderR nm) = some rc) (hp : rc = none ∨ ∃ g : Addr, rc = some (.ref g))
    (h1 : findIn K (.type T) (PySem.dunder nm) = some fo) (h2 : findIn K (.type T) (dunderR nm) = some ro) (hsub : subIn K (.type T) (.ref C) = some false)
    (h : wpAny (model prog w) A (call (.ref f) [.ref x, b]) (CmpBack Q) E s) : wpAny (model prog w) A (binaryOp1 nm (.ref x) b) (fun r s' => ∃ v, r = some v ∧ Q v s') E s := by
  obtain ⟨cd, rest, hcd, hm⟩ := ksp_first hc
  have one := ksp_try X I hs hf h
  obtain ⟨hh, g, d, tt, os⟩ := s
  have L1 : Looks (model prog w) hh (typeOf (.ref x)) (.ref C) := I.type
  have L2 : Looks (model prog w) hh (typeOf b) (.type T) := hb
  have L3 : Looks (model prog w) hh (fillsNumberSlot (.ref C) nm) true := fills_K X hcd hm hs
  have L4 : Looks (model prog w) hh (fillsNumberSlot (.type T) nm) ((fo.isSome && !isSeqSlot fo) || (ro.isSome && !isSeqSlot ro)) := ksp_fillsT X h1 h2
  have L5 : Looks (model prog w) hh (isSubtype (.type T) (.ref C)) false := looks_subIn X hsub
  have L6 : Looks (model prog w) hh (numberSlotInPython (.ref C) nm) true := ksp_inPy X hs hr hp
  have L7 : Looks (model prog w) hh (numberSlotInPython (.type T) nm) false := Looks.of_pure rfl
  have L8 : Looks (model prog w) hh (typeLookup (.type T) (dunderR nm)) ro := looks_findIn X h2
  generalize ((fo.isSome && !isSeqSlot fo) || (ro.isSome && !isSeqSlot ro)) = right at L4
  have hne : (Value.ref C == Value.type T) = false := Bool.eq_false_iff.mpr fun q => by cases beq_iff_eq.mp q
  unfold binaryOp1
  refine wpAny_bind (L1.at (wpAny_bind (L2.at (wpAny_bind (L3.at ?_)))))
  simp only [hne, Bool.false_eq_true, if_false]
  cases right with
  | false =>
    ksp_lk
    refine wpAny_mono one (fun r s' hr' => ?_) fun _ _ e => e
    obtain ⟨v, rfl, hq⟩ := hr'
    ksp_lk
    exact ⟨_, rfl, hq⟩
  | true =>
    ksp_lk
    refine wpAny_mono one (fun r s' hr' => ?_) fun _ _ e => e
    obtain ⟨v, rfl, hq⟩ := hr'
    ksp_lk
    exact ⟨_, rfl, hq⟩
/-- with a right operand of the same class -/
theorem my_bin1S {nm : String} {b : Value} {Q : Value → Shared → Prop} (X : K.In s.heap) (I : InstAt s.heap x ox C od) (hb : Looks (model prog w) s.heap (typeOf b) (.ref C)) (hc : selfFirst K C = true)
    (hs : findIn K (.ref C) (PySem.dunder nm) = some (some (.ref f))) (hf : isFn K (.ref f) = true)
    (h : wpAny (model prog w) A (call (.ref f) [.ref x, b]) (CmpBack Q) E s) : wpAny (model prog w) A (binaryOp1 nm (.ref x) b) (fun r s' => ∃ v, r = some v ∧ Q v s') E s := by
  obtain ⟨cd, rest, hcd, hm⟩ := ksp_first hc
  have one := ksp_try X I hs hf h
  obtain ⟨hh, g, d, tt, os⟩ := s
  have L1 : Looks (model prog w) hh (typeOf (.ref x)) (.ref C) := I.type
  have L2 : Looks (model prog w) hh (typeOf b) (.ref C) := hb
  have L3 : Looks (model prog w) hh (fillsNumberSlot (.ref C) nm) true := fills_K X hcd hm hs
  unfold binaryOp1
  refine wpAny_bind (L1.at (wpAny_bind (L2.at (wpAny_bind (L3.at ?_)))))
  simp only [beq_self_eq_true, if_true]
  ksp_lk
  refine wpAny_mono one (fun r s' hr' => ?_) fun _ _ e => e
  obtain ⟨v, rfl, hq⟩ := hr'
  ksp_lk
  exact ⟨_, rfl, hq⟩
theorem my_bin {op : Operator} {a b : Value} {Q : Value → Shared → Prop} (h : wpAny (model prog w) A (binaryOp1 op.info.2 a b) (fun r s' => ∃ v, r = some v ∧ Q v s') E s) : wpAny (model prog w) A (binaryOp op a b) Q E s := by
  rcases hi : op.info with ⟨sym, nm'⟩
  rw [hi] at h
  simp only [binaryOp, hi]
  refine wpAny_holding (wpAny_bind (wpAny_mono h (fun r s' hr' => ?_) fun _ _ e => e))
  obtain ⟨v, rfl, hq⟩ := hr'
  exact wpAny_pure hq
theorem my_inp {op : Operator} {b : Value} {cd : ClassData} {Q : Value → Shared → Prop} (X : K.In s.heap) (I : InstAt s.heap x ox C od) (hc : clsIn K C = some cd) (hm : cd.mro = [.ref C, .type "object"]) (h1 : findIn K (.ref C) (dunderI op.info.2) = some none) (h2 : findIn K (.type "object") (dunderI op.info.2) = some none)
    (h : wpAny (model prog w) A (binaryOp1 op.info.2 (.ref x) b) (fun r s' => ∃ v, r = some v ∧ Q v s') E s) : wpAny (model prog w) A (inplaceOp op (.ref x) b) Q E s := by
  obtain ⟨hh, g, d, tt, os⟩ := s
  have L1 : Looks (model prog w) hh (typeOf (.ref x)) (.ref C) := I.type
  have L2 : Looks (model prog w) hh (fillsInplaceSlot (.ref C) op.info.2 (op == .Add)) false := my_fillsI X hc hm h1 h2
  unfold inplaceOp
  refine wpAny_holding ?_
  refine wpAny_bind (L1.at ?_)
  refine wpAny_bind (L2.at ?_)
  simp only [Bool.false_eq_true, if_false]
  first
    | refine wpAny_bind (wpAny_mono h (fun r s' hr' => ?_) fun _ _ e => e)
    | refine wpAny_bind (wpAny_pure (wpAny_bind (wpAny_mono h (fun r s' hr' => ?_) fun _ _ e => e)))
  obtain ⟨v, rfl, hq⟩ := hr'
  exact wpAny_pure hq
/-- reflected: the left operand of a builtin type that does not know the right one -/
theorem my_bin1R {nm : String} {a : Value} {y : Addr} {oy : Obj} {fo ro : Option Value} {Q : Value → Shared → Prop} (X : K.In s.heap) (I : InstAt s.heap y oy C od) (ha : Looks (model prog w) s.heap (typeOf a) (.type T)) (hc : selfFirst K C = true)
    (hs : findIn K (.ref C) (PySem.dunder nm) = some (some (.ref L))) (hr : findIn K (.ref C) (dunderR nm) = some (some (.ref f))) (hf : isFn K (.ref f) = true)
    (h1 : findIn K (.type T) (PySem.dunder nm) = some fo) (h2 : findIn K (.type T) (dunderR nm) = some ro) (hsub : subIn K (.ref C) (.type T) = some false)
    (hno : ((fo.isSome && !isSeqSlot fo) || (ro.isSome && !isSeqSlot ro)) = true → ∀ (R : Option Value → Shared → Prop) (s' : Shared), s'.heap = s.heap → R none s' → wpAny (model prog w) A (tryMethod a (PySem.dunder nm) (.ref y)) R E s')
    (h : wpAny (model prog w) A (call (.ref f) [.ref y, a]) (CmpBack Q) E s) : wpAny (model prog w) A (binaryOp1 nm a (.ref y)) (fun r s' => ∃ v, r = some v ∧ Q v s') E s := by
  obtain ⟨cd, rest, hcd, hm⟩ := ksp_first hc
  have one := ksp_try X I hr hf h
  obtain ⟨hh, g, d, tt, os⟩ := s
  have L1 : Looks (model prog w) hh (typeOf (.ref y)) (.ref C) := I.type
  have L2 : Looks (model prog w) hh (typeOf a) (.type T) := ha
  have L3 : Looks (model prog w) hh (fillsNumberSlot (.ref C) nm) true := fills_K X hcd hm hs
  have L4 : Looks (model prog w) hh (fillsNumberSlot (.type T) nm) ((fo.isSome && !isSeqSlot fo) || (ro.isSome && !isSeqSlot ro)) := ksp_fillsT X h1 h2
  have L5 : Looks (model prog w) hh (isSubtype (.ref C) (.type T)) false := looks_subIn X hsub
  have L7 : Looks (model prog w) hh (numberSlotInPython (.type T) nm) false := Looks.of_pure rfl
  generalize ((fo.isSome && !isSeqSlot fo) || (ro.isSome && !isSeqSlot ro)) = left at L4 hno
  have hne : (Value.type T == Value.ref C) = false := Bool.eq_false_iff.mpr fun q => by cases beq_iff_eq.mp q
  unfold binaryOp1
  refine wpAny_bind (L2.at (wpAny_bind (L1.at (wpAny_bind (L4.at ?_)))))
  simp only [hne, Bool.false_eq_true, if_false]
  cases left with
  | false =>
    ksp_lk
    refine wpAny_mono one (fun r s' hr' => ?_) fun _ _ e => e
    obtain ⟨v, rfl, hq⟩ := hr'
    ksp_lk
    exact ⟨_, rfl, hq⟩
  | true =>
    ksp_lk
    refine hno rfl _ _ rfl ?_
    ksp_lk
    refine wpAny_mono one (fun r s' hr' => ?_) fun _ _ e => e
    obtain ⟨v, rfl, hq⟩ := hr'
    ksp_lk
    exact ⟨_, rfl, hq⟩
end

theorem one_bind (self : Value) : bindSpecial (.builtin "object.__ne__") self = pure (.builtin "object.__ne__", [self]) := (Slot.of (T := "object") (name := "__ne__") (owner := "object") (n := "__ne__") (by rw [typeLookup_type, builtinLookup_eq_fast]; kernel_rfl) (by decide +kernel) (by decide +kernel) (by decide +kernel) (.inl (by decide +kernel)) (by rw [isSubtype_type]; kernel_rfl)).bind self
theorem one_entry : entryFor table "object.__ne__" = some Builtin.«object.__ne__» := entryFor_of_tree (by kernel_rfl)
theorem one_plain : plainId "object.__ne__" = true := by decide +kernel
theorem one_kind : builtinKind "object.__ne__" = some .slot := by decide +kernel
theorem one_split : splitId "object.__ne__" = some ("object", "__ne__") := by decide +kernel
theorem one_args (a b : Value) : argsOk "object.__ne__" ⟨[a, b], []⟩ := by unfold argsOk; kernel_rfl
section
variable {prog : Program} {w : World} {A : Around} {E : Value → Shared → Prop} {s : Shared} {K : Frag} {x C L f : Addr} {h₀ : Heap} {m : Str → Option Value} {ox : Obj} {od : Option Obj}
/-- != of one's own class: the own ==, turned about -/
theorem my_ne {b tb : Value} {Q : Value → Shared → Prop} (hu : A.units < cLine) (hu1 : A.in1.units < cLine) (X : K.In s.heap) (I : InstAt s.heap x ox C od) (hb : Looks (model prog w) s.heap (typeOf b) tb) (hn : notFirst K C tb = true)
    (hs : findIn K (.ref C) "__ne__" = some (some (.builtin "object.__ne__"))) (ho : Looks (model prog w) s.heap (isInstance (.ref x) (.type "object")) true) (he : findIn K (.ref C) "__eq__" = some (some (.ref f))) (hf : isFn K (.ref f) = true)
    (h : wpAny (model prog w) A.in1 (call (.ref f) [.ref x, b]) (fun v s' => ∃ r, v = .bool r ∧ Q (.bool (!r)) s') E s) : wpAny (model prog w) A (richCompare .NotEq (.ref x) b) Q E s := by
  have body : wpAny (model prog w) A (call (.builtin "object.__ne__") [.ref x, b]) (fun v s' => v ≠ .notImplemented ∧ Q v s') E s := by
    refine wpAny_call (codeAny_call_builtin one_plain one_entry (@check_slot (model prog w) _ _ _ "object.__ne__" "object" "__ne__" (.ref x) [b] [] _ one_kind one_split ho (one_args _ _) ?_))
    unfold Builtin.«object.__ne__»
    refine wpAny_bind (wpAny_of_eq (a := (Value.ref x, [b])) rfl ?_)
    dsimp only
    refine wpAny_bind (wpAny_cRoomFor hu1 ?_)
    refine wpAny_bind (ifBound_K X I he hf (wpAny_mono h (fun v s' z => ?_) fun _ _ e => e))
    obtain ⟨r, rfl, q⟩ := z
    dsimp only
    refine wpAny_bind (wpAny_truthy_bool ?_)
    exact wpAny_pure ⟨by simp, q⟩
  have one : wpAny (model prog w) A (tryCompare (.ref x) "__ne__" b) (fun r s' => ∃ v, r = some v ∧ Q v s') E s := by
    unfold tryCompare
    refine wpAny_bind ?_
    simp only [callSpecialIfBound?, bindSpecialIfBound?]
    refine wpAny_holding (wpAny_bind (wpAny_bind (wpAny_bind (I.type.here ((looks_findIn X hs).here ?_)))))
    refine wpAny_bind (wpAny_askSetting (wpAny_ite ?_))
    have fin : wpAny (model prog w) A (call (.builtin "object.__ne__") ([.ref x] ++ [b]) >>= fun v => pure (some v)) (fun r s' => wpAny (model prog w) A (match r with | some .notImplemented | none => pure none | some v => pure (some v)) (fun r s' => ∃ v, r = some v ∧ Q v s') E s') E s := by
      refine wpAny_bind (wpAny_mono body (fun v s' z => wpAny_pure ?_) fun _ _ e => e)
      obtain ⟨z, q⟩ := z
      cases v <;> first | exact absurd rfl z | exact wpAny_pure ⟨_, rfl, q⟩
    have bd : Looks (model prog w) s.heap (bindSpecial (.builtin "object.__ne__") (.ref x)) (.builtin "object.__ne__", [.ref x]) := Looks.of_pure (one_bind _)
    split
    · exact wpAny_bind (bd.here (wpAny_pure (by exact fin)))
    · exact wpAny_tryCatch (wpAny_bind (bd.here (wpAny_pure (by exact fin))))
  unfold richCompare
  simp only [oneThing_ref]
  refine wpAny_holding (wpAny_bind (wpAny_cRoomFor hu ?_))
  refine wpAny_bind (I.type.here (wpAny_bind (hb.here ?_)))
  split
  · rename_i q
    have e : subIn K tb (.ref C) = some false := by
      rcases Bool.or_eq_true_iff.mp hn with e | e
      · rw [beq_iff_eq.mp e] at q; simp at q
      · exact beq_iff_eq.mp e
    refine wpAny_bind ((looks_subIn X e).here ?_)
    simp only [Bool.false_eq_true, if_false]
    refine wpAny_bind (wpAny_mono one (fun r s' z => ?_) fun _ _ e => e)
    obtain ⟨v, rfl, hq⟩ := z
    exact wpAny_pure hq
  · refine wpAny_bind (wpAny_pure ?_)
    simp only [Bool.false_eq_true, if_false]
    refine wpAny_bind (wpAny_mono one (fun r s' z => ?_) fun _ _ e => e)
    obtain ⟨v, rfl, hq⟩ := z
    exact wpAny_pure hq
end
end PySem.W
set_option Elab.async false
set_option maxRecDepth 100000
set_option maxHeartbeats 8000000
namespace My
open PySem PySem.Spec PyProof.Rows L2
local macro_rules | `(tactic| walk_at "cond") => `(tactic| first
  | exact Or.inr ⟨by decide, by decide⟩ | exact Or.inl ⟨by decide, by decide⟩ | exact ⟨by decide, by decide, by decide⟩ | exact ⟨by decide, by decide⟩
  | (refine Or.inl ⟨?_, ?_⟩ <;> omega) | (refine Or.inr ⟨?_, ?_⟩ <;> omega)
  | (show (0 : Int) < _; omega))
local macro_rules | `(tactic| walk_at "mem") => `(tactic| first | exact List.Mem.head _ | exact List.Mem.tail _ (List.Mem.head _) | exact Put.head | (refine List.Mem.tail _ ?_; walk_at "mem") | (apply Put.tail; walk_at "mem"))
local macro_rules | `(tactic| walk_at "st") => `(tactic| first
  | with_reducible refine g_seq ?_ | with_reducible refine g_asg ?_ | with_reducible refine g_name ?_ | ((with_reducible show tVar _ _ _ _); refine g_var rfl ?_) | with_reducible refine g_c ?_
  | with_reducible refine g_op ?_ | with_reducible refine g_test ?_ | with_reducible refine g_bl ?_
  | with_reducible refine g_cb ?_ | with_reducible refine g_cons ?_ | with_reducible refine g_nil ?_ | with_reducible refine g_tif ?_ | with_reducible refine g_ifs ?_ | with_reducible refine g_ret ?_
  | with_reducible refine g_drop ?_ | with_reducible refine g_next ?_
  | with_reducible refine g_i0 ?_ | ((with_reducible show rI _ _ _ _ _ _); refine g_i (by walk_at "cond") ?_) | with_reducible refine g_int ?_ | with_reducible refine g_abs ?_ | with_reducible refine g_or ?_
  | with_reducible refine g_and ?_ | with_reducible refine g_not ?_ | with_reducible refine g_lst ?_ | with_reducible refine g_tup ?_
  | with_reducible refine iteT ?_ | with_reducible refine iteF ?_ | with_reducible refine g_par ?_ | with_reducible refine g_two ?_ | with_reducible refine g_sub ?_
  | ((with_reducible show rIxL _ (V.ref _) (V.int _) _ _); refine g_ixM (by assumption) (by walk_at "mem") rfl rfl ?_)
  | ((with_reducible show rSetL (V.ref _) (V.int _) _ _ _); refine g_setM (by assumption) rfl (by walk_at "mem") fun _ _ => ?_)
  | with_reducible refine g_xmk ?_ | with_reducible refine g_xmkK ?_
  | ((with_reducible show XNew _ (spI1 _ _) _ _ _); refine g_x1 (by assumption) fun _ _ _ _ => ?_)
  | ((with_reducible show XNewK _ _ (spI1 _ _) _ _ _ _); refine g_x1k (by assumption) fun _ _ _ _ => ?_)
  | ((with_reducible show XNew _ (spI3 _ _ _ _) _ _ _); refine g_x3 (by assumption) fun _ _ _ _ => ?_)
  | ((with_reducible show tXmk0 _ _ _ _); refine g_xmk0 (by assumption) fun _ _ _ => ?_)
  | ((with_reducible show NewO _ _ _ _); refine g_newo (by assumption) (by first | decide | simp) fun _ _ _ _ => ?_)
  | ((with_reducible show rCat (V.ref _) (V.ref _) _ _); refine g_cat (by assumption) (by walk_at "mem") (by walk_at "mem") (by first | decide | simp) fun _ _ _ _ => ?_))
local macro_rules | `(tactic| walk_at "st") => `(tactic| first | with_reducible refine g_tcall ?_ | with_reducible refine g_tb ?_ | with_reducible refine g_andV ?_ | with_reducible refine g_notV ?_ | with_reducible refine g_chain ?_ | with_reducible refine g_un ?_ | with_reducible refine g_rU ?_)
/-! ### Load.__eq__ -/
theorem eqv_str (a b : Str) : PyData.eqv (.str a) (.str b) = decide (a = b) := by
  by_cases h : a = b
  · subst h
    simp [PyData.eqv]
  · simp [PyData.eqv, h]
def pairD (p : Str × Int) : PyData := .tuple [.str p.1, .int p.2]
def pairsD (ps : List (Str × Int)) : PyData := .tuple (ps.map pairD)
theorem eqv_pair (p q : Str × Int) : PyData.eqv (pairD p) (pairD q) = decide (p = q) := by
  obtain ⟨a, m⟩ := p
  obtain ⟨b, n⟩ := q
  unfold pairD
  simp only [PyData.eqv, PyData.eqvAll, Bool.and_true, Prod.mk.injEq]
  by_cases h1 : a = b <;> by_cases h2 : m = n <;> simp [h1, h2]
theorem eqv_pairsAll : ∀ (ps qs : List (Str × Int)), PyData.eqvAll (ps.map pairD) (qs.map pairD) = decide (ps = qs)
  | [], [] => by simp [PyData.eqvAll]
  | p :: ps, q :: qs => by
    rw [List.map_cons, List.map_cons, PySem.W.eqv_all_cons, eqv_pair, eqv_pairsAll ps qs]
    by_cases a : p = q <;> by_cases b : ps = qs <;> simp [a, b]
  | [], q :: qs => by simp [PyData.eqvAll]
  | p :: ps, [] => by simp [PyData.eqvAll]
theorem eqv_pairs (ps qs : List (Str × Int)) : PyData.eqv (pairsD ps) (pairsD qs) = decide (ps = qs) := by
  have e := eqv_pairsAll ps qs
  unfold pairsD
  simpa [PyData.eqv] using e
theorem depth_pairs : ∀ ps : List (Str × Int), PyData.depthAll (ps.map pairD) ≤ 2
  | [] => by simp [PyData.depthAll]
  | p :: ps => by
    have := depth_pairs ps
    rw [List.map_cons]
    simp [PyData.depthAll, PyData.depth, pairD]
    omega
theorem can_pairs : ∀ {ps : List (Str × Int)}, (∀ p ∈ ps, nameB p.1 = true) → PyData.canLayAll0 (ps.map pairD) = true
  | [], _ => by simp [PyData.canLayAll0]
  | p :: ps, h => by
    have h1 := can_pairs fun q hq => h q (List.mem_cons_of_mem _ hq)
    have h2 := name_strOk (h p List.mem_cons_self)
    rw [List.map_cons]
    simp [PyData.canLayAll0, PyData.canLay0, pairD, h1, h2]
theorem shaped_pairs {ps : List (Str × Int)} (h : ∀ p ∈ ps, nameB p.1 = true) : SeqAt.shaped (pairsD ps) = true := by
  unfold SeqAt.shaped pairsD
  have e : (PyData.tuple (ps.map pairD)).canLay0 = true := by simp [PyData.canLay0, can_pairs h]
  have d : (PyData.tuple (ps.map pairD)).depth ≤ 64 := by
    have := depth_pairs ps
    simp [PyData.depth]
    omega
  rw [e, decide_eq_true d]
  rfl
theorem dp_pairs {K : PySem.W.Frag} {H : Hp} : ∀ {ts : List V} {ps : List (Str × Int)}, Paired (PairAt H) ts ps → (∀ p ∈ ps, nameB p.1 = true) → DpAll K H ts (ps.map pairD)
  | _, _, .nil, _ => .nil
  | _, _, .cons (b := p) h t, g => by
    obtain ⟨u, rfl, e⟩ := h
    exact .cons (Dp.tup (SqT.of e) (.cons (.str _) (.cons (.int _) .nil))) (dp_pairs t fun q hq => g q (List.mem_cons_of_mem _ hq))
section
variable {P : Program} {w : World} {K : PySem.W.Frag} {mg : Str → Option Value} {base : Heap}
def eqL (ps : List (Str × Int)) : Option (List (Str × Int)) → Bool
  | none => false
  | some qs => decide (ps = qs)
def namesL : Option (List (Str × Int)) → Prop
  | none => True
  | some qs => ∀ p ∈ qs, nameB p.1 = true
def spEqL (K : PySem.W.Frag) (C : Addr) : Sp := fun vs H Q _ => ∃ a ps v r, vs = [.ref a, v] ∧ LoadAt C H a ps ∧ (∀ p ∈ ps, nameB p.1 = true) ∧ LoadK K C H v r ∧ namesL r ∧ ∀ H', Same H H' → Q (.bl (eqL ps r)) H'
theorem scEqL : FnScope ["self", "other"] ["self", "other"] (defScope s_Load___eq__) := ⟨rfl, rfl, rfl, by decide +kernel, rfl, by decide +kernel, by decide +kernel⟩
theorem ok_eqL {f C : Addr} {fd : FuncData} (F : Fun K "__eq__" "Load.__eq__" s_Load___eq__ f fd) (c : LoadC K C) (mI : mg "isinstance" = none) (mL : mg "Load" = some (.ref C)) : FnOk P w K mg base (L2.CX P w) 2 f fd ["self", "other"] (spEqL K C) := by
  refine F.okX scEqL (fun vs H Q E h => ?_) (fun cdv A outer s H vs Q E hr h => ?_)
  · obtain ⟨a, _, v, _, rfl, _⟩ := h
    rfl
  · obtain ⟨a, ps, v, r, rfl, la, g1, lk, g2, q⟩ := h
    refine ⟨_, pss_one (ps_ret (pe_and (pIsi mI (pv 1) (pG mL)) (pe_one (pe_cmpR (op_eqD hr.units) (pe_fld (pv 0) rfl) (pe_fld (pv 1) rfl) (nomark _))))), ?_⟩
    repeat walk_at "st"
    refine loadK_isi c lk ?_
    cases lk with
    | no ty k => exact ⟨false, rfl, q H (Same.refl H)⟩
    | @load b qs lb =>
      refine ⟨true, rfl, iteT ?_⟩
      obtain ⟨dx, t, d, ts, e1, tz, pr, e3⟩ := la
      obtain ⟨dx', t', d', ts', e1', tz', pr', e3'⟩ := lb
      refine g_op <| g_fld (g_var rfl ?_)
      refine ⟨a, C, dx, _, _, rfl, e1, c.ic.cl, c.n1, rfl, g_fld (g_var rfl ?_)⟩
      refine ⟨b, C, dx', _, _, rfl, e1', c.ic.cl, c.n1, rfl, ?_⟩
      refine ⟨pairsD ps, pairsD qs, Dp.tup tz.seq (dp_pairs pr g1), Dp.tup tz'.seq (dp_pairs pr' g2), shaped_pairs g1, shaped_pairs g2, ?_⟩
      rw [eqv_pairs]
      exact q H (Same.refl H)
end
end My
set_option Elab.async false
set_option maxRecDepth 100000
set_option maxHeartbeats 8000000
namespace My
open PySem PySem.Spec PyProof.Rows L2
/-! ### operators and comparisons of one's own class, whatever the other operand -/
section
variable {X : Cx} {CX : CXT} {k : Nat} {C g : Addr} {sp : Sp} {E : XK}
/-- the type of the other operand -/
def OwnTy (K : PySem.W.Frag) (C : Addr) (H : Hp) (y : V) (tb : Value) : Prop := (∃ b dy gs, y = .ref b ∧ H b = some (.ins C dy gs) ∧ tb = .ref C) ∨ TyX K H y tb
theorem OwnTy.looks {pins : List (Addr × Obj)} {σ : L2.St} {H : Hp} {s : Shared} {y : V} {u tb : Value} (I : Inv X pins σ H s) (ry : RelV y u) (h : OwnTy X.K C H y tb) : PySem.W.Looks (model X.prog X.w) s.heap (typeOf u) tb := by
  rcases h with ⟨b, dy, gs, rfl, hb, rfl⟩ | ty
  · cases (show u = Value.ref b from ry)
    obtain ⟨mB, O', _⟩ := ins_get I.hok hb
    obtain ⟨od', J', _⟩ := O'.look
    exact J'.type
  · obtain ⟨P, Z, hP, _⟩ := kit_of I ry ty
    exact Z.ty _ _ I.kIn hP
def rOwnC (K : PySem.W.Frag) (C : Addr) (sp : Sp) (E : XK) : R2 := fun x y H Q => ∃ a dx fs tb, x = .ref a ∧ H a = some (.ins C dx fs) ∧ OwnTy K C H y tb ∧ PySem.W.notFirst K C tb = true ∧ sp [.ref a, y] H Q E
theorem op_ownC {op : CmpOp} (hop : ∀ a b, compareOp op a b = richCompare op a b) (hs : PySem.W.findIn X.K (.ref C) (cmpInfo op).2.1 = some (some (.ref g))) (hf : PySem.W.isFn X.K (.ref g) = true) (F : FnR X.prog X.w X.K X.mg X.base CX k g sp) (hr : Room k X.A) (hx : Passes CX X E) :
    OpR X (compareOp op) (rOwnC X.K C sp E) := by
  intro pins s σ H x y v u Q I rx ry h
  obtain ⟨a, dx, fs, tb, rfl, ha, ty, nf, q⟩ := h
  cases (show v = Value.ref a from rx)
  obtain ⟨mA, O, _⟩ := ins_get I.hok ha
  obtain ⟨od, J, _⟩ := O.look
  obtain ⟨m, hF⟩ := I.fr
  rw [hop]
  refine PySem.W.cmp_K hr.units0 hF I.ok.mod.kin J (ty.looks I ry) nf hs hf ?_
  refine wpAny_mono (wpAny_call (run_fnR (us := [.ref a, u]) (vs := [.ref a, y]) F hr hx I (.cons rfl (.cons ry .nil)) q)) (fun w s' z => ?_) fun _ _ x => x
  obtain ⟨z', H', I', rz, qz⟩ := z
  exact SlX.cmpback rz ⟨z', H', I', rz, qz⟩
def rOwnNe (K : PySem.W.Frag) (C : Addr) (sp : Sp) (E : XK) : R2 := fun x y H Q => ∃ a dx fs tb, x = .ref a ∧ H a = some (.ins C dx fs) ∧ OwnTy K C H y tb ∧ PySem.W.notFirst K C tb = true ∧ sp [.ref a, y] H (fun v H' => ∃ r, v = .bl r ∧ Q (.bl (!r)) H') E
structure NeC (K : PySem.W.Frag) (C : Addr) (g : Addr) : Prop where
  ne : PySem.W.findIn K (.ref C) "__ne__" = some (some (.builtin "object.__ne__"))
  sub : PySem.W.subIn K (.ref C) (.type "object") = some true
  eq : PySem.W.findIn K (.ref C) "__eq__" = some (some (.ref g))
  fn : PySem.W.isFn K (.ref g) = true
theorem op_ownNe (c : NeC X.K C g) (F : FnR X.prog X.w X.K X.mg X.base CX k g sp) (hr : Room (k + 1) X.A) (hx : Passes CX X E) : OpR X (compareOp .NotEq) (rOwnNe X.K C sp E) := by
  intro pins s σ H x y v u Q I rx ry h
  obtain ⟨a, dx, fs, tb, rfl, ha, ty, nf, q⟩ := h
  cases (show v = Value.ref a from rx)
  obtain ⟨mA, O, _⟩ := ins_get I.hok ha
  obtain ⟨od, J, _⟩ := O.look
  show wpAny (model X.prog X.w) X.A (richCompare .NotEq (.ref a) u) _ _ _
  refine PySem.W.my_ne hr.units0 hr.in1.units0 I.kIn J (ty.looks I ry) nf c.ne (J.type.andThen (PySem.W.looks_subIn I.kIn c.sub)) c.eq c.fn ?_
  refine wpAny_call (codeAny_mono (F X.A.in1 X.stack s H [.ref a, u] [.ref a, y] _ E hr.in1 I.env0.in1 (.cons rfl (.cons ry .nil)) q) fun r s' hq => ?_)
  cases r with
  | error e => exact hx pins σ H s e s' I hq
  | ok fl =>
    cases fl with
    | ret u =>
      obtain ⟨z', H', I', rz, r, rfl, qz⟩ := I.after hq
      cases (show u = Value.bool r from rz)
      exact ⟨r, rfl, .bl (!r), H', I', rfl, qz⟩
    | next => exact False.elim hq
    | brk => exact False.elim hq
    | cont => exact False.elim hq
/-- what an operator of one's own class asks of the text, for another operand of a builtin type -/
structure OpT (K : PySem.W.Frag) (C : Addr) (nm : String) (T : String) : Prop where
  h1 : ∃ fo, PySem.W.findIn K (.type T) (PySem.dunder nm) = some fo
  h2 : ∃ ro, PySem.W.findIn K (.type T) (PySem.dunderR nm) = some ro
  sub : PySem.W.subIn K (.type T) (.ref C) = some false
structure OpO (K : PySem.W.Frag) (C : Addr) (nm : String) (g : Addr) : Prop where
  self : PySem.W.selfFirst K C = true
  hs : PySem.W.findIn K (.ref C) (PySem.dunder nm) = some (some (.ref g))
  hf : PySem.W.isFn K (.ref g) = true
  hr : PySem.W.findIn K (.ref C) (PySem.dunderR nm) = some none ∨ ∃ r : Addr, PySem.W.findIn K (.ref C) (PySem.dunderR nm) = some (some (.ref r))
def OwnT2 (K : PySem.W.Frag) (C : Addr) (nm : String) (H : Hp) (y : V) : Prop := (∃ b dy gs, y = .ref b ∧ H b = some (.ins C dy gs)) ∨ ∃ T, TyX K H y (.type T) ∧ OpT K C nm T
def rOwnB (K : PySem.W.Frag) (C : Addr) (nm : String) (sp : Sp) (E : XK) : R2 := fun x y H Q => ∃ a dx fs, x = .ref a ∧ H a = some (.ins C dx fs) ∧ OwnT2 K C nm H y ∧ sp [.ref a, y] H Q E
theorem bin1_own {nm : String} (c : OpO X.K C nm g) (F : FnR X.prog X.w X.K X.mg X.base CX k g sp) (hr : Room k X.A) (hx : Passes CX X E) {pins : List (Addr × Obj)} {s : Shared} {σ : L2.St} {H : Hp} {a dx : Addr} {fs : List (Str × V)} {y : V} {u : Value} {Q : VK}
    (I : Inv X pins σ H s) (ha : H a = some (.ins C dx fs)) (ry : RelV y u) (ty : OwnT2 X.K C nm H y) (q : sp [.ref a, y] H Q E) :
    wpAny (model X.prog X.w) X.A (binaryOp1 nm (.ref a) u) (fun r s' => ∃ v, r = some v ∧ EP X pins σ Q v s') X.xe s := by
  obtain ⟨mA, O, _⟩ := ins_get I.hok ha
  obtain ⟨od, J, _⟩ := O.look
  have run : wpAny (model X.prog X.w) X.A (call (.ref g) [.ref a, u]) (PySem.W.CmpBack (EP X pins σ Q)) X.xe s := by
    refine wpAny_mono (wpAny_call (run_fnR (us := [.ref a, u]) (vs := [.ref a, y]) F hr hx I (.cons rfl (.cons ry .nil)) q)) (fun w s' z => ?_) fun _ _ x => x
    obtain ⟨z', H', I', rz, qz⟩ := z
    exact SlX.cmpback rz ⟨z', H', I', rz, qz⟩
  rcases ty with ⟨b, dy, gs, rfl, hb⟩ | ⟨T, ty, t⟩
  · cases (show u = Value.ref b from ry)
    obtain ⟨mB, O', _⟩ := ins_get I.hok hb
    obtain ⟨od', J', _⟩ := O'.look
    exact PySem.W.my_bin1S I.kIn J J'.type c.self c.hs c.hf run
  · obtain ⟨P, Z, hP, _⟩ := kit_of I ry ty
    obtain ⟨fo, h1⟩ := t.h1
    obtain ⟨ro, h2⟩ := t.h2
    rcases c.hr with e | ⟨r, e⟩
    · exact PySem.W.my_bin1T I.kIn J (Z.ty _ _ I.kIn hP) c.self c.hs c.hf e (.inl rfl) h1 h2 t.sub run
    · exact PySem.W.my_bin1T I.kIn J (Z.ty _ _ I.kIn hP) c.self c.hs c.hf e (.inr ⟨_, rfl⟩) h1 h2 t.sub run
theorem op_ownB {op : Operator} (c : OpO X.K C op.info.2 g) (F : FnR X.prog X.w X.K X.mg X.base CX k g sp) (hr : Room k X.A) (hx : Passes CX X E) : OpR X (binaryOp op) (rOwnB X.K C op.info.2 sp E) := by
  intro pins s σ H x y v u Q I rx ry h
  obtain ⟨a, dx, fs, rfl, ha, ty, q⟩ := h
  cases (show v = Value.ref a from rx)
  exact PySem.W.my_bin (bin1_own c F hr hx I ha ry ty q)
structure NoI (K : PySem.W.Frag) (C : Addr) (nm : String) : Prop where
  mro : ∃ cd, PySem.W.clsIn K C = some cd ∧ cd.mro = [.ref C, .type "object"]
  h1 : PySem.W.findIn K (.ref C) (PySem.dunderI nm) = some none
  h2 : PySem.W.findIn K (.type "object") (PySem.dunderI nm) = some none
theorem iop_ownB {op : Operator} (c : OpO X.K C op.info.2 g) (n : NoI X.K C op.info.2) (F : FnR X.prog X.w X.K X.mg X.base CX k g sp) (hr : Room k X.A) (hx : Passes CX X E) : OpR X (inplaceOp op) (rOwnB X.K C op.info.2 sp E) := by
  intro pins s σ H x y v u Q I rx ry h
  obtain ⟨a, dx, fs, rfl, ha, ty, q⟩ := h
  cases (show v = Value.ref a from rx)
  obtain ⟨mA, O, _⟩ := ins_get I.hok ha
  obtain ⟨od, J, _⟩ := O.look
  obtain ⟨cd, hc, hm⟩ := n.mro
  exact PySem.W.my_inp I.kIn J hc hm n.h1 n.h2 (bin1_own c F hr hx I ha ry ty q)
/-- reflected -/
structure OpRT (K : PySem.W.Frag) (C : Addr) (nm : String) (T : String) : Prop where
  h1 : ∃ fo, PySem.W.findIn K (.type T) (PySem.dunder nm) = some fo ∧ ∃ ro, PySem.W.findIn K (.type T) (PySem.dunderR nm) = some ro ∧ ((fo.isSome && !isSeqSlot fo) || (ro.isSome && !isSeqSlot ro)) = false
  sub : PySem.W.subIn K (.ref C) (.type T) = some false
end
end My
set_option Elab.async false
set_option maxRecDepth 100000
set_option maxHeartbeats 8000000
namespace My
open PySem PySem.Spec PyProof.Rows L2
namespace R3
open PySem
theorem int_mul_ref (a : Int) (t : Tok) (l C dx : Addr) :
    Meets (Builtin.«int.__mul__» ⟨[.int a t, .ref l], []⟩) (fun _ R s => s.heap.get? l = some (PySem.W.instObj C dx) ∧ R (.ok (.ret Value.notImplemented)) s) :=
  .of_wp fun prog w A R s h => by obtain ⟨hp, g, d, tk, os⟩ := s; obtain ⟨hl, h⟩ := h; unfold PySem.W.instObj at hl; wp_walk; exact ⟨_, rfl, h⟩
theorem bool_mul_ref (a : Bool) (l C dx : Addr) :
    Meets (Builtin.«int.__mul__» ⟨[.bool a, .ref l], []⟩) (fun _ R s => s.heap.get? l = some (PySem.W.instObj C dx) ∧ R (.ok (.ret Value.notImplemented)) s) :=
  .of_wp fun prog w A R s h => by obtain ⟨hp, g, d, tk, os⟩ := s; obtain ⟨hl, h⟩ := h; unfold PySem.W.instObj at hl; wp_walk; exact ⟨_, rfl, h⟩
theorem int_declines {prog : Program} {w : World} {A : Around} {E : Value → Shared → Prop} {s' : Shared} {R : Option Value → Shared → Prop} {i : Int} {t : Tok} {b C dy : Addr} (hl : s'.heap.get? b = some (PySem.W.instObj C dy)) (hR : R none s') : wpAny (model prog w) A (tryMethod (.int i t) (PySem.dunder "mul") (.ref b)) R E s' := by
  have h3 : wpAny (model prog w) A (call (.builtin "int.__mul__") [.int i t, .ref b]) (fun v s' => v = .notImplemented ∧ R none s') E s' :=
    call_meets PySem.F.slot_int_mul (PySem.typeIs_int s' i t) PySem.F.entry_int_mul (PySem.F.args_int_mul_2 _ _) (int_mul_ref i t b C dy) ⟨hl, rfl, hR⟩
  refine wpAny_tryMethod_declines (M := model prog w) (A := A) (E := E) (s := s') (self := .int i t) (other := .ref b) (T := "int") (name := PySem.dunder "mul") (id := "int.__mul__") (Q := R) (PySem.typeIs_int s' i t) PySem.F.slot_int_mul ?_
  exact h3
theorem bool_declines {prog : Program} {w : World} {A : Around} {E : Value → Shared → Prop} {s' : Shared} {R : Option Value → Shared → Prop} {i : Bool} {b C dy : Addr} (hl : s'.heap.get? b = some (PySem.W.instObj C dy)) (hR : R none s') : wpAny (model prog w) A (tryMethod (.bool i) (PySem.dunder "mul") (.ref b)) R E s' := by
  have h3 : wpAny (model prog w) A (call (.builtin "int.__mul__") [.bool i, .ref b]) (fun v s' => v = .notImplemented ∧ R none s') E s' :=
    call_meets PySem.F.slot_bool_mul (PySem.typeIs_bool s' i) PySem.F.entry_int_mul (PySem.F.args_int_mul_2 _ _) (bool_mul_ref i b C dy) ⟨hl, rfl, hR⟩
  refine wpAny_tryMethod_declines (M := model prog w) (A := A) (E := E) (s := s') (self := .bool i) (other := .ref b) (T := "bool") (name := PySem.dunder "mul") (id := "int.__mul__") (Q := R) (PySem.typeIs_bool s' i) PySem.F.slot_bool_mul ?_
  exact h3
end R3
section
variable {X : Cx} {CX : CXT} {k : Nat} {C g g0 : Addr} {sp : Sp} {E : XK}
structure OpRO (K : PySem.W.Frag) (C : Addr) (nm : String) (g0 g : Addr) : Prop where
  self : PySem.W.selfFirst K C = true
  hs : PySem.W.findIn K (.ref C) (PySem.dunder nm) = some (some (.ref g0))
  hr : PySem.W.findIn K (.ref C) (PySem.dunderR nm) = some (some (.ref g))
  hf : PySem.W.isFn K (.ref g) = true
  iI : ∃ fo ro, PySem.W.findIn K (.type "int") (PySem.dunder nm) = some fo ∧ PySem.W.findIn K (.type "int") (PySem.dunderR nm) = some ro
  bI : ∃ fo ro, PySem.W.findIn K (.type "bool") (PySem.dunder nm) = some fo ∧ PySem.W.findIn K (.type "bool") (PySem.dunderR nm) = some ro
  sI : PySem.W.subIn K (.ref C) (.type "int") = some false
  sB : PySem.W.subIn K (.ref C) (.type "bool") = some false
def rOwnR (K : PySem.W.Frag) (C : Addr) (sp : Sp) (E : XK) : R2 := fun x y H Q => ∃ b dy gs, y = .ref b ∧ H b = some (.ins C dy gs) ∧ ((∃ i, x = .int i) ∨ (∃ i, x = .bl i) ∨ ∃ T, TyX K H x (.type T) ∧ OpRT K C "mul" T) ∧ sp [.ref b, x] H Q E
theorem op_ownR (c : OpRO X.K C "mul" g0 g) (FF : FnR X.prog X.w X.K X.mg X.base CX k g sp) (hr : Room k X.A) (hx : Passes CX X E) : OpR X (binaryOp .Mult) (rOwnR X.K C sp E) := by
  intro pins s σ H x y v u Q I rx ry h
  obtain ⟨b, dy, gs, rfl, hb, ty, q⟩ := h
  cases (show u = Value.ref b from ry)
  obtain ⟨mB, O, _⟩ := ins_get I.hok hb
  have ob := O.obj
  obtain ⟨od, J, _⟩ := O.look
  have run : wpAny (model X.prog X.w) X.A (call (.ref g) [.ref b, v]) (PySem.W.CmpBack (EP X pins σ Q)) X.xe s := by
    refine wpAny_mono (wpAny_call (run_fnR (us := [.ref b, v]) (vs := [.ref b, x]) FF hr hx I (.cons rfl (.cons rx .nil)) q)) (fun w s' z => ?_) fun _ _ x => x
    obtain ⟨z', H', I', rz, qz⟩ := z
    exact SlX.cmpback rz ⟨z', H', I', rz, qz⟩
  refine PySem.W.my_bin (op := .Mult) ?_
  show wpAny (model X.prog X.w) X.A (binaryOp1 "mul" v (.ref b)) _ _ _
  rcases ty with ⟨i, rfl⟩ | ⟨i, rfl⟩ | ⟨T, ty, t⟩
  · obtain ⟨t, rfl⟩ := (show ∃ t, v = Value.int i t from rx)
    obtain ⟨fo, ro, h1, h2⟩ := c.iI
    refine PySem.W.my_bin1R (nm := "mul") (T := "int") I.kIn J (PySem.W.Looks.of_pure rfl) c.self c.hs c.hr c.hf h1 h2 c.sI (fun _ R s' hs hR => ?_) run
    exact R3.int_declines (by rw [hs]; exact ob) hR
  · cases (show v = Value.bool i from rx)
    obtain ⟨fo, ro, h1, h2⟩ := c.bI
    refine PySem.W.my_bin1R (nm := "mul") (T := "bool") I.kIn J (PySem.W.Looks.of_pure rfl) c.self c.hs c.hr c.hf h1 h2 c.sB (fun _ R s' hs hR => ?_) run
    exact R3.bool_declines (by rw [hs]; exact ob) hR
  · obtain ⟨P, Z, hP, _⟩ := kit_of I rx ty
    obtain ⟨fo, h1, ro, h2, h3⟩ := t.h1
    exact PySem.W.my_bin1R I.kIn J (Z.ty _ _ I.kIn hP) c.self c.hs c.hr c.hf h1 h2 t.sub (fun z => by rw [h3] at z; cases z) run
end
end My
set_option Elab.async false
set_option maxRecDepth 100000
set_option maxHeartbeats 8000000
namespace My
open PySem PySem.Spec PyProof.Rows L2
local macro_rules | `(tactic| walk_at "cond") => `(tactic| first
  | exact Or.inr ⟨by decide, by decide⟩ | exact Or.inl ⟨by decide, by decide⟩ | exact ⟨by decide, by decide, by decide⟩ | exact ⟨by decide, by decide⟩
  | (refine Or.inl ⟨?_, ?_⟩ <;> omega) | (refine Or.inr ⟨?_, ?_⟩ <;> omega)
  | (show (0 : Int) < _; omega))
local macro_rules | `(tactic| walk_at "mem") => `(tactic| first | exact List.Mem.head _ | exact List.Mem.tail _ (List.Mem.head _) | exact Put.head | (refine List.Mem.tail _ ?_; walk_at "mem") | (apply Put.tail; walk_at "mem"))
local macro_rules | `(tactic| walk_at "st") => `(tactic| first
  | with_reducible refine g_seq ?_ | with_reducible refine g_asg ?_ | with_reducible refine g_name ?_ | ((with_reducible show tVar _ _ _ _); refine g_var rfl ?_) | with_reducible refine g_c ?_
  | with_reducible refine g_op ?_ | with_reducible refine g_test ?_ | with_reducible refine g_bl ?_
  | with_reducible refine g_cb ?_ | with_reducible refine g_cons ?_ | with_reducible refine g_nil ?_ | with_reducible refine g_tif ?_ | with_reducible refine g_ifs ?_ | with_reducible refine g_ret ?_
  | with_reducible refine g_drop ?_ | with_reducible refine g_next ?_
  | with_reducible refine g_i0 ?_ | ((with_reducible show rI _ _ _ _ _ _); refine g_i (by walk_at "cond") ?_) | with_reducible refine g_int ?_ | with_reducible refine g_abs ?_ | with_reducible refine g_or ?_
  | with_reducible refine g_and ?_ | with_reducible refine g_not ?_ | with_reducible refine g_lst ?_ | with_reducible refine g_tup ?_
  | with_reducible refine iteT ?_ | with_reducible refine iteF ?_ | with_reducible refine g_par ?_ | with_reducible refine g_two ?_ | with_reducible refine g_sub ?_
  | ((with_reducible show rIxL _ (V.ref _) (V.int _) _ _); refine g_ixM (by assumption) (by walk_at "mem") rfl rfl ?_)
  | ((with_reducible show rSetL (V.ref _) (V.int _) _ _ _); refine g_setM (by assumption) rfl (by walk_at "mem") fun _ _ => ?_)
  | with_reducible refine g_xmk ?_ | with_reducible refine g_xmkK ?_
  | ((with_reducible show XNew _ (spI1 _ _) _ _ _); refine g_x1 (by assumption) fun _ _ _ _ => ?_)
  | ((with_reducible show XNewK _ _ (spI1 _ _) _ _ _ _); refine g_x1k (by assumption) fun _ _ _ _ => ?_)
  | ((with_reducible show XNew _ (spI3 _ _ _ _) _ _ _); refine g_x3 (by assumption) fun _ _ _ _ => ?_)
  | ((with_reducible show tXmk0 _ _ _ _); refine g_xmk0 (by assumption) fun _ _ _ => ?_)
  | ((with_reducible show NewO _ _ _ _); refine g_newo (by assumption) (by first | decide | simp) fun _ _ _ _ => ?_)
  | ((with_reducible show rCat (V.ref _) (V.ref _) _ _); refine g_cat (by assumption) (by walk_at "mem") (by walk_at "mem") (by first | decide | simp) fun _ _ _ _ => ?_))
local macro_rules | `(tactic| walk_at "st") => `(tactic| first | with_reducible refine g_tcall ?_ | with_reducible refine g_tb ?_ | with_reducible refine g_andV ?_ | with_reducible refine g_notV ?_ | with_reducible refine g_chain ?_ | with_reducible refine g_un ?_ | with_reducible refine g_rU ?_)
/-! ### Load's other comparisons, and n * load -/
theorem iteB {b : Bool} {A B : Prop} {inst : Decidable (b = true)} (h1 : b = true → A) (h2 : b = false → B) : @ite Prop (b = true) inst A B := by
  by_cases hb : b = true
  · rw [if_pos hb]
    exact h1 hb
  · rw [if_neg hb]
    exact h2 (Bool.eq_false_iff.mpr hb)
section
variable {P : Program} {w : World} {K : PySem.W.Frag} {mg : Str → Option Value} {base : Heap}
theorem loadK_ownTy {C : Addr} {H : Hp} {b : Addr} {qs : List (Str × Int)} (h : LoadAt C H b qs) : ∃ dy gs, H b = some (.ins C dy gs) := let ⟨dx, _, _, _, e, _⟩ := h; ⟨dx, _, e⟩
theorem notFirst_own {C : Addr} : PySem.W.notFirst K C (.ref C) = true := by simp [PySem.W.notFirst]
/-- a comparison that is asked of another load -/
def spCmp (K : PySem.W.Frag) (C CL : Addr) (T : List (Str × Int) → List (Str × Int) → Bool) : Sp := fun vs H Q E => ∃ a ps v r, vs = [.ref a, v] ∧ LoadAt C H a ps ∧ LoadK K C H v r ∧ match r with
  | none => BadV CL "value" v H E
  | some qs => (∀ p ∈ ps, nameB p.1 = true) ∧ (∀ p ∈ qs, nameB p.1 = true) ∧ ∀ H', Same H H' → Q (.bl (T ps qs)) H'
def leT (ps qs : List (Str × Int)) : Bool := (lackOf ps qs).isNone
def ltT (ps qs : List (Str × Int)) : Bool := leT ps qs && !decide (ps = qs)
theorem scGe : FnScope ["self", "other"] ["self", "other"] (defScope s_Load___ge__) := ⟨rfl, rfl, rfl, by decide +kernel, rfl, by decide +kernel, by decide +kernel⟩
theorem scLt : FnScope ["self", "other"] ["self", "other"] (defScope s_Load___lt__) := ⟨rfl, rfl, rfl, by decide +kernel, rfl, by decide +kernel, by decide +kernel⟩
theorem scGt : FnScope ["self", "other"] ["self", "other"] (defScope s_Load___gt__) := ⟨rfl, rfl, rfl, by decide +kernel, rfl, by decide +kernel, by decide +kernel⟩
theorem scRmul : FnScope ["self", "other"] ["self", "other"] (defScope s_Load___rmul__) := ⟨rfl, rfl, rfl, by decide +kernel, rfl, by decide +kernel, by decide +kernel⟩
/-- <= as a comparison -/
structure CmpF (P : Program) (w : World) (K : PySem.W.Frag) (mg : Str → Option Value) (base : Heap) (C : Addr) (name : Str) (k : Nat) (sp : Sp) where
  g : Addr
  hs : PySem.W.findIn K (.ref C) name = some (some (.ref g))
  hf : PySem.W.isFn K (.ref g) = true
  F : FnR P w K mg base (L2.CX P w) k g sp
theorem ok_ge {f C CL fI : Addr} {fd fdN : FuncData} {B newId initId : String} {bmB : List Value} (F : Fun K "__ge__" "Load.__ge__" s_Load___ge__ f fd) (c : LoadC K C) (mI : mg "isinstance" = none) (mL : mg "Load" = some (.ref C))
    (TN : XCls P w K mg base "NotALoad" CL fI B newId initId bmB ["self", "value"] (spI1 CL "value") fdN) (LE : CmpF P w K mg base C "__le__" 3 (spLe K C CL)) : FnOk P w K mg base (L2.CX P w) 4 f fd ["self", "other"] (spCmp K C CL fun ps qs => leT qs ps) := by
  refine F.okX scGe (fun vs H Q E h => ?_) (fun cdv A outer s H vs Q E hr h => ?_)
  · obtain ⟨a, _, v, _, rfl, _⟩ := h
    rfl
  · obtain ⟨a, ps, v, r, rfl, la, lk, q⟩ := h
    have tk := takes_of (X := cxOf (L2.CX P w) P w K mg base ["self", "other"] "Load.__ge__" (defScope s_Load___ge__) f cdv A outer s H E) (E := E) rfl rfl rfl rfl
    refine ⟨_, pss_cons (ps_if (pt_not (pt_val (pIsi mI (pv 1) (pG mL)))) (pss_one (ps_raise rfl tk (pmk_x TN (hr.mono (by decide : 2 ≤ 3)) rfl (pa_cons (pv 1) pa_nil)))) pss_nil)
      (pss_one (ps_ret (pe_cmpR (op_ownC (fun _ _ => rfl) LE.hs LE.hf LE.F hr (passes_call tk fun _ _ _ _ h => h)) (pv 1) (pv 0) (nomark _)))), ?_⟩
    repeat walk_at "st"
    refine loadK_isi c lk ?_
    refine g_bl ?_
    cases lk with
    | no ty k =>
      refine iteT ?_
      refine g_cons (g_var rfl (g_nil ?_))
      exact rx1_ok fun d hd => q H d (Same.refl H) hd
    | @load b qs lb =>
      refine iteF ?_
      repeat walk_at "st"
      obtain ⟨n1, n2, q⟩ := q
      obtain ⟨dy, gs, eb⟩ := loadK_ownTy lb
      obtain ⟨dx, fs, ea⟩ := loadK_ownTy la
      exact ⟨b, dy, gs, .ref C, rfl, eb, .inl ⟨a, dx, fs, rfl, ea, rfl⟩, notFirst_own, b, qs, .ref a, some ps, rfl, lb, .load la, q⟩
theorem spCmp_of_le {C CL : Addr} {vs : List V} {H : Hp} {Q : VK} {E : XK} (h : spCmp K C CL leT vs H Q E) : spLe K C CL vs H Q E := by
  obtain ⟨a, ps, v, r, e, la, lk, q⟩ := h
  refine ⟨a, ps, v, r, e, la, lk, ?_⟩
  cases r with
  | none => exact q
  | some qs => exact q.2.2
/-- no type of the other operand comes first -/
def LoadTy (K : PySem.W.Frag) (C : Addr) (H : Hp) (v : V) : Prop := ∃ tb, OwnTy K C H v tb ∧ PySem.W.notFirst K C tb = true
theorem loadTy {C : Addr} {H : Hp} {b : Addr} {qs : List (Str × Int)} (h : LoadAt C H b qs) : LoadTy K C H (.ref b) := let ⟨dy, gs, e⟩ := loadK_ownTy h; ⟨.ref C, .inl ⟨b, dy, gs, rfl, e, rfl⟩, notFirst_own⟩
def spCmpT (K : PySem.W.Frag) (C CL : Addr) (T : List (Str × Int) → List (Str × Int) → Bool) : Sp := fun vs H Q E => (∃ a v, vs = [.ref a, v] ∧ LoadTy K C H v) ∧ spCmp K C CL T vs H Q E
theorem neq_at {C a b dx : Addr} {fs : List (Str × V)} {H : Hp} {Q : VK} {E : XK} {ps qs : List (Str × Int)} (ea : H a = some (.ins C dx fs)) (la : LoadAt C H a ps) (lb : LoadAt C H b qs) (n1 : ∀ p ∈ ps, nameB p.1 = true) (n2 : ∀ p ∈ qs, nameB p.1 = true) (q : ∀ H', Same H H' → Q (.bl (!decide (ps = qs))) H') : rOwnNe K C (spEqL K C) E (.ref a) (.ref b) H Q := by
  obtain ⟨dy, gs, eb⟩ := loadK_ownTy lb
  exact ⟨a, dx, fs, .ref C, rfl, ea, .inl ⟨b, dy, gs, rfl, eb, rfl⟩, notFirst_own, a, ps, .ref b, some qs, rfl, la, n1, .load lb, n2, fun H' s => ⟨_, rfl, q H' s⟩⟩
theorem ok_lt {f C CL gE : Addr} {fd : FuncData} (F : Fun K "__lt__" "Load.__lt__" s_Load___lt__ f fd) (c : LoadC K C) (LE : CmpF P w K mg base C "__le__" 3 (spLe K C CL)) (n : NeC K C gE) (FE : FnR P w K mg base (L2.CX P w) 2 gE (spEqL K C)) : FnOk P w K mg base (L2.CX P w) 4 f fd ["self", "other"] (spCmpT K C CL ltT) := by
  refine F.okX scLt (fun vs H Q E h => ?_) (fun cdv A outer s H vs Q E hr h => ?_)
  · obtain ⟨⟨a, v, rfl, _⟩, _⟩ := h
    rfl
  · obtain ⟨⟨a0, v0, e0, ty⟩, a, ps, v, r, rfl, la, lk, q⟩ := h
    cases e0
    have tk := takes_of (X := cxOf (L2.CX P w) P w K mg base ["self", "other"] "Load.__lt__" (defScope s_Load___lt__) f cdv A outer s H E) (E := E) rfl rfl rfl rfl
    refine ⟨_, pss_one (ps_ret (pe_and (pe_cmpR (op_ownC (fun _ _ => rfl) LE.hs LE.hf LE.F hr (passes_call tk fun _ _ _ _ h => h)) (pv 0) (pv 1) (nomark _)) (pe_one (pe_cmpR (op_ownNe n FE hr (passes_call tk fun _ _ _ _ h => h)) (pv 0) (pv 1) (nomark _))))), ?_⟩
    repeat walk_at "st"
    obtain ⟨tb, oty, nf⟩ := ty
    obtain ⟨dx, fs, ea⟩ := loadK_ownTy la
    refine ⟨_, dx, fs, tb, rfl, ea, oty, nf, ?_⟩
    refine ⟨_, ps, _, r, rfl, la, lk, ?_⟩
    cases lk with
    | no ty k => exact q
    | @load b qs lb =>
      obtain ⟨n1, n2, q⟩ := q
      intro H1 s1
      refine ⟨_, rfl, ?_⟩
      cases hl : (lackOf ps qs).isNone with
      | false =>
        refine iteF ?_
        have z := q H1 s1
        unfold ltT leT at z
        rw [hl] at z
        exact z
      | true =>
        refine iteT ?_
        refine g_op <| g_var rfl <| g_var rfl ?_
        refine neq_at (s1 _ _ ea) (la.same s1) (lb.same s1) n1 n2 fun H2 s2 => ?_
        have z := q H2 (s1.trans s2)
        unfold ltT leT at z
        rw [hl, Bool.true_and] at z
        exact z
theorem ok_gt {f C CL gE : Addr} {fd : FuncData} (F : Fun K "__gt__" "Load.__gt__" s_Load___gt__ f fd) (c : LoadC K C) (GE : CmpF P w K mg base C "__ge__" 4 (spCmp K C CL fun ps qs => leT qs ps)) (n : NeC K C gE) (FE : FnR P w K mg base (L2.CX P w) 2 gE (spEqL K C)) : FnOk P w K mg base (L2.CX P w) 5 f fd ["self", "other"] (spCmpT K C CL fun ps qs => leT qs ps && !decide (ps = qs)) := by
  refine F.okX scGt (fun vs H Q E h => ?_) (fun cdv A outer s H vs Q E hr h => ?_)
  · obtain ⟨⟨a, v, rfl, _⟩, _⟩ := h
    rfl
  · obtain ⟨⟨a0, v0, e0, ty⟩, a, ps, v, r, rfl, la, lk, q⟩ := h
    cases e0
    have tk := takes_of (X := cxOf (L2.CX P w) P w K mg base ["self", "other"] "Load.__gt__" (defScope s_Load___gt__) f cdv A outer s H E) (E := E) rfl rfl rfl rfl
    refine ⟨_, pss_one (ps_ret (pe_and (pe_cmpR (op_ownC (fun _ _ => rfl) GE.hs GE.hf GE.F hr (passes_call tk fun _ _ _ _ h => h)) (pv 0) (pv 1) (nomark _)) (pe_one (pe_cmpR (op_ownNe n FE (hr.mono (by decide : 3 ≤ 4)) (passes_call tk fun _ _ _ _ h => h)) (pv 0) (pv 1) (nomark _))))), ?_⟩
    repeat walk_at "st"
    obtain ⟨tb, oty, nf⟩ := ty
    obtain ⟨dx, fs, ea⟩ := loadK_ownTy la
    refine ⟨_, dx, fs, tb, rfl, ea, oty, nf, ?_⟩
    refine ⟨_, ps, _, r, rfl, la, lk, ?_⟩
    cases lk with
    | no ty k => exact q
    | @load b qs lb =>
      obtain ⟨n1, n2, q⟩ := q
      refine ⟨n1, n2, fun H1 s1 => ?_⟩
      refine ⟨_, rfl, ?_⟩
      refine iteB (fun hl => ?_) (fun hl => ?_)
      · refine g_op <| g_var rfl <| g_var rfl ?_
        refine neq_at (s1 _ _ ea) (la.same s1) (lb.same s1) n1 n2 fun H2 s2 => ?_
        have z := q H2 (s1.trans s2)
        dsimp only at z hl
        rw [hl, Bool.true_and] at z
        exact z
      · have z := q H1 s1
        dsimp only at z hl
        rw [hl] at z
        exact z
/-- n * load: the other operand may be anything -/
theorem ok_rmul {f C CN gM : Addr} {fd : FuncData} (F : Fun K "__rmul__" "Load.__rmul__" s_Load___rmul__ f fd) (c : LoadC K C) (o : OpO K C Operator.Mult.info.2 gM) (FM : FnR P w K mg base (L2.CX P w) 8 gM (spMul K C CN)) :
    FnOk P w K mg base (L2.CX P w) 9 f fd ["self", "other"] (fun vs H Q E => ∃ a v, vs = [.ref a, v] ∧ OwnT2 K C Operator.Mult.info.2 H v ∧ spMul K C CN vs H Q E) := by
  refine F.okX scRmul (fun vs H Q E h => ?_) (fun cdv A outer s H vs Q E hr h => ?_)
  · obtain ⟨a, v, rfl, _⟩ := h
    rfl
  · obtain ⟨a, v, rfl, ty, h⟩ := h
    have tk := takes_of (X := cxOf (L2.CX P w) P w K mg base ["self", "other"] "Load.__rmul__" (defScope s_Load___rmul__) f cdv A outer s H E) (E := E) rfl rfl rfl rfl
    refine ⟨_, pss_one (ps_ret (pe_op (op_ownB o FM hr (passes_call tk fun _ _ _ _ h => h)) (pv 0) (pv 1))), ?_⟩
    repeat walk_at "st"
    have h' := h
    obtain ⟨a', ps, v', e, la, _⟩ := h'
    cases e
    obtain ⟨dx, fs, ea⟩ := loadK_ownTy la
    exact ⟨a, dx, fs, rfl, ea, ty, h⟩
end
end My
set_option Elab.async false
set_option maxRecDepth 100000
set_option maxHeartbeats 8000000
namespace My
open PySem PySem.Spec PyProof.Rows L2
/-! ### loads as functions of names -/
theorem cps_anti : ∀ a b : List Nat, ltCps a b = false → ltCps b a = false → a = b
  | [], [], _, _ => rfl
  | [], _ :: _, h, _ => by unfold ltCps at h; cases h
  | _ :: _, [], _, h => by unfold ltCps at h; cases h
  | x :: a, y :: b, h1, h2 => by
    unfold ltCps at h1 h2
    rw [Bool.or_eq_false_iff] at h1 h2
    have u1 := of_decide_eq_false h1.1
    have u2 := of_decide_eq_false h2.1
    have e : x = y := by omega
    subst e
    rw [cps_anti a b (by simpa using h1.2) (by simpa using h2.2)]
theorem leS_anti {a b : Str} (h1 : leS a b) (h2 : leS b a) : a = b := by
  have e := cps_anti _ _ h2 h1
  obtain ⟨a⟩ := a
  obtain ⟨b⟩ := b
  have : a = b := by
    apply Array.toList_inj.mp
    exact e
  rw [this]
theorem sorted_tail {x : Str} {l : List Str} (h : sortedS (x :: l) = true) : sortedS l = true := rising_sorted h
theorem sorted_unique : ∀ {l m : List (Str × Int)}, sortedS (l.map (·.1)) = true → sortedS (m.map (·.1)) = true → (l.map (·.1)).Nodup → (m.map (·.1)).Nodup → (∀ p, p ∈ l ↔ p ∈ m) → l = m
  | [], [], _, _, _, _, _ => rfl
  | [], q :: m, _, _, _, _, h => absurd ((h q).mpr List.mem_cons_self) (by simp)
  | p :: l, [], _, _, _, _, h => absurd ((h p).mp List.mem_cons_self) (by simp)
  | p :: l, q :: m, s1, s2, n1, n2, h => by
    have r1 : ∀ y ∈ l.map Prod.fst, leS p.1 y := rising_le (x := p.1) (l := l.map Prod.fst) (show risingS p.1 (l.map Prod.fst) = true from s1)
    have r2 : ∀ y ∈ m.map Prod.fst, leS q.1 y := rising_le (x := q.1) (l := m.map Prod.fst) (show risingS q.1 (m.map Prod.fst) = true from s2)
    rw [List.map_cons, List.nodup_cons] at n1 n2
    have e : p = q := by
      rcases List.mem_cons.mp ((h p).mp List.mem_cons_self) with e | hp
      · exact e
      rcases List.mem_cons.mp ((h q).mpr List.mem_cons_self) with e | hq
      · exact e.symm
      have e1 := leS_anti (r1 q.1 (List.mem_map_of_mem hq)) (r2 p.1 (List.mem_map_of_mem hp))
      exact absurd (e1 ▸ List.mem_map_of_mem (f := (·.1)) hq) n1.1
    subst e
    congr 1
    refine sorted_unique (sorted_tail s1) (sorted_tail s2) n1.2 n2.2 fun r => ⟨fun hr => ?_, fun hr => ?_⟩
    · rcases List.mem_cons.mp ((h r).mp (List.mem_cons_of_mem _ hr)) with e | z
      · subst e
        exact absurd (List.mem_map_of_mem (f := (·.1)) hr) n1.1
      · exact z
    · rcases List.mem_cons.mp ((h r).mpr (List.mem_cons_of_mem _ hr)) with e | z
      · subst e
        exact absurd (List.mem_map_of_mem (f := (·.1)) hr) n2.1
      · exact z
structure Can (ps : List (Str × Int)) : Prop where
  good : GoodP ps
  sorted : sortedS (ps.map (·.1)) = true
theorem count_iff {ps : List (Str × Int)} (g : GoodP ps) {s : Str} {n : Int} : (s, n) ∈ ps ↔ countOf ps s = n ∧ 1 ≤ n := by
  constructor
  · intro h
    exact ⟨count_mem g.nd h, g.count _ h⟩
  · rintro ⟨e, h⟩
    by_cases z : ∃ m, (s, m) ∈ ps
    · obtain ⟨m, hm⟩ := z
      rw [count_mem g.nd hm] at e
      rw [← e]
      exact hm
    · rw [count_out fun m hm => z ⟨m, hm⟩] at e
      omega
theorem can_ext {ps qs : List (Str × Int)} (h1 : Can ps) (h2 : Can qs) (e : ∀ s, countOf ps s = countOf qs s) : ps = qs := by
  refine sorted_unique h1.sorted h2.sorted h1.good.nd h2.good.nd fun p => ?_
  rw [show p = (p.1, p.2) from rfl, count_iff h1.good, count_iff h2.good, e]
theorem can_of {ps rs : List (Str × Int)} (g : GoodP ps) (o : Ordered ps rs) : Can rs := ⟨g.perm o.perm, o.sorted⟩
theorem count_perm {ps rs : List (Str × Int)} (g : GoodP ps) (h : rs.Perm ps) (s : Str) : countOf rs s = countOf ps s := by
  have g2 := g.perm h
  by_cases z : ∃ m, (s, m) ∈ ps
  · obtain ⟨m, hm⟩ := z
    rw [count_mem g.nd hm, count_mem g2.nd (h.mem_iff.mpr hm)]
  · rw [count_out fun m hm => z ⟨m, hm⟩, count_out fun m hm => z ⟨m, h.mem_iff.mp hm⟩]
/-- counts of what is made of a filter and a change of counts -/
theorem count_map {ps : List (Str × Int)} (f : Str × Int → Int) (s : Str) : countOf (ps.map fun p => (p.1, f p)) s = if (ps.any fun p => decide (p.1 = s)) = true then f (s, countOf ps s) else 0 := by
  induction ps with
  | nil => rfl
  | cons p ps ih =>
    rw [List.map_cons, List.any_cons]
    unfold countOf
    by_cases h : p.1 = s
    · subst h
      simp
    · rw [if_neg h, if_neg h, decide_eq_false h, Bool.false_or]
      exact ih
theorem count_filter {ps : List (Str × Int)} (nd : (ps.map (·.1)).Nodup) (t : Str × Int → Bool) (s : Str) : countOf (ps.filter t) s = if t (s, countOf ps s) = true then countOf ps s else 0 := by
  have ndf : ((ps.filter t).map (·.1)).Nodup := nd.sublist (List.filter_sublist.map _)
  by_cases z : ∃ m, (s, m) ∈ ps
  · obtain ⟨m, hm⟩ := z
    rw [count_mem nd hm]
    by_cases ht : t (s, m) = true
    · rw [if_pos ht, count_mem ndf (List.mem_filter.mpr ⟨hm, ht⟩)]
    · rw [if_neg ht]
      refine count_out fun n hn => ?_
      obtain ⟨h1, h2⟩ := List.mem_filter.mp hn
      have : n = m := (count_mem nd h1).symm.trans (count_mem nd hm)
      subst this
      exact ht h2
  · rw [count_out fun m hm => z ⟨m, hm⟩, count_out fun m hm => z ⟨m, (List.mem_filter.mp hm).1⟩]
    split <;> rfl
theorem any_count {ps : List (Str × Int)} (c : ∀ p ∈ ps, 1 ≤ p.2) (s : Str) : (ps.any fun p => decide (p.1 = s)) = decide (0 < countOf ps s) := by
  induction ps with
  | nil => rfl
  | cons p ps ih =>
    rw [List.any_cons]
    unfold countOf
    by_cases h : p.1 = s
    · rw [if_pos h, decide_eq_true h, Bool.true_or, decide_eq_true (by have := c p List.mem_cons_self; omega)]
    · rw [if_neg h, decide_eq_false h, Bool.false_or]
      exact ih fun q hq => c q (List.mem_cons_of_mem _ hq)
theorem count_app (ps : List (Str × Int)) (s t : Str) (n : Int) : countOf (ps ++ [(s, n)]) t = if (ps.any fun p => decide (p.1 = t)) = true then countOf ps t else if s = t then n else 0 := by
  induction ps with
  | nil => rfl
  | cons p ps ih =>
    rw [List.cons_append, List.any_cons]
    unfold countOf
    by_cases h : p.1 = t
    · rw [if_pos h, if_pos h, decide_eq_true h, Bool.true_or, if_pos rfl]
    · rw [if_neg h, if_neg h, decide_eq_false h, Bool.false_or]
      exact ih
theorem count_put1 (ps : List (Str × Int)) (s t : Str) (n : Int) : countOf (put1 ps s n) t = countOf ps t + if s = t then n else 0 := by
  unfold put1
  by_cases h : (ps.any fun p => decide (p.1 = s)) = true
  · rw [if_pos h]
    have e : (fun p : Str × Int => if p.1 = s then (p.1, countOf ps s + n) else p) = fun p => (p.1, if p.1 = s then countOf ps s + n else p.2) := by
      funext p
      split <;> rfl
    rw [e, count_map (fun p => if p.1 = s then countOf ps s + n else p.2)]
    by_cases st : s = t
    · subst st
      rw [if_pos h, if_pos rfl, if_pos rfl]
    · have st' : ¬ t = s := fun z => st z.symm
      by_cases g : (ps.any fun p => decide (p.1 = t)) = true
      · rw [if_pos g, if_neg st]
        show (if t = s then _ else countOf ps t) = _
        rw [if_neg st', Int.add_zero]
      · rw [if_neg g, if_neg st, Int.add_zero, count_no (Bool.eq_false_iff.mpr g)]
  · rw [if_neg h, count_app]
    have z := count_no (Bool.eq_false_iff.mpr h)
    split
    · rename_i g
      by_cases st : s = t
      · subst st
        exact absurd g h
      · rw [if_neg st, Int.add_zero]
    · rename_i g
      rw [count_no (Bool.eq_false_iff.mpr g), Int.zero_add]
theorem count_addP : ∀ {qs ps : List (Str × Int)} (s : Str), (qs.map (·.1)).Nodup → countOf (addP ps qs) s = countOf ps s + countOf qs s
  | [], ps, s, _ => by
    show countOf ps s = countOf ps s + 0
    omega
  | q :: qs, ps, s, nd => by
    rw [List.map_cons, List.nodup_cons] at nd
    show countOf (addP (put1 ps q.1 q.2) qs) s = _
    rw [count_addP s nd.2, count_put1]
    show _ = _ + (if q.1 = s then q.2 else countOf qs s)
    by_cases h : q.1 = s
    · rw [if_pos h, if_pos h, count_out (ps := qs) fun n hn => nd.1 (by rw [h]; exact List.mem_map_of_mem (f := (·.1)) hn)]
      omega
    · rw [if_neg h, if_neg h]
      omega
theorem count_gr1 (ps : List (Str × Int)) (q : Str × Int) (s : Str) : countOf (gr1 ps q) s = if q.1 = s ∧ countOf ps s < q.2 then q.2 else countOf ps s := by
  unfold gr1
  by_cases h : countOf ps q.1 < q.2
  · rw [if_pos h, count_put1]
    by_cases e : q.1 = s
    · subst e
      rw [if_pos rfl, if_pos ⟨rfl, h⟩]
      omega
    · rw [if_neg e, if_neg (fun z => e z.1)]
      omega
  · rw [if_neg h]
    by_cases e : q.1 = s
    · subst e
      rw [if_neg (fun z => h z.2)]
    · rw [if_neg (fun z => e z.1)]
theorem count_grP : ∀ {qs ps : List (Str × Int)} (s : Str), (qs.map (·.1)).Nodup → (∀ q ∈ qs, 1 ≤ q.2) → 0 ≤ countOf ps s → countOf (grP ps qs) s = if countOf ps s < countOf qs s then countOf qs s else countOf ps s
  | [], ps, s, _, _, h0 => by
    show countOf ps s = _
    rw [if_neg (by show ¬ countOf ps s < 0; omega)]
  | q :: qs, ps, s, nd, c, h0 => by
    rw [List.map_cons, List.nodup_cons] at nd
    have q1 := c q List.mem_cons_self
    have c' : ∀ r ∈ qs, 1 ≤ r.2 := fun r hr => c r (List.mem_cons_of_mem _ hr)
    have e1 := count_gr1 ps q s
    show countOf (grP (gr1 ps q) qs) s = _
    have h1 : 0 ≤ countOf (gr1 ps q) s := by
      rw [e1]
      split <;> omega
    have z : q.1 = s → countOf qs s = 0 := fun h => count_out (ps := qs) fun n hn => nd.1 (by rw [h]; exact List.mem_map_of_mem (f := (·.1)) hn)
    rw [count_grP s nd.2 c' h1]
    show _ = if countOf ps s < (if q.1 = s then q.2 else countOf qs s) then (if q.1 = s then q.2 else countOf qs s) else countOf ps s
    by_cases h : q.1 = s
    · have z' := z h
      by_cases l : countOf ps s < q.2
      · rw [if_pos ⟨h, l⟩] at e1
        rw [e1, z', if_pos h, if_pos l, if_neg (by omega)]
      · rw [if_neg (fun z => l z.2)] at e1
        rw [e1, z', if_pos h, if_neg l, if_neg (by omega)]
    · rw [if_neg (fun z => h z.1)] at e1
      rw [e1, if_neg h]
theorem count_takenP {ps qs : List (Str × Int)} (g : GoodP ps) (s : Str) (h0 : 0 ≤ countOf qs s) : countOf (takenP ps qs) s = if countOf qs s < countOf ps s then countOf ps s - countOf qs s else 0 := by
  have e : countOf (leftP ps qs) s = if 0 < countOf ps s then countOf ps s - countOf qs s else 0 := by
    unfold leftP
    rw [count_map (fun p => p.2 - countOf qs p.1), any_count g.count]
    simp only [decide_eq_true_eq]
  have nd : ((leftP ps qs).map (·.1)).Nodup := by
    unfold leftP
    rw [List.map_map]
    exact g.nd
  unfold takenP
  rw [count_filter nd]
  simp only [decide_eq_true_eq]
  rw [e]
  by_cases h : countOf qs s < countOf ps s
  · rw [if_pos h, if_pos (by omega), if_pos (by omega)]
  · rw [if_neg h]
    by_cases h2 : 0 < countOf ps s
    · rw [if_pos h2, if_neg (by omega)]
    · rw [if_neg h2, if_neg (by omega)]
theorem hasQ_count {qs : List (Str × Int)} (c : ∀ q ∈ qs, 1 ≤ q.2) (s : Str) : hasQ qs s = decide (0 < countOf qs s) := by
  rw [← any_count c]
  unfold hasQ
  cases h : qs.any fun p => decide (p.1 = s) with
  | true =>
    obtain ⟨p, hp, e⟩ := List.any_eq_true.mp h
    have e' := of_decide_eq_true e
    rw [Option.isSome_iff_exists.mpr ?_]
    unfold valV
    have : ∃ x, (kvOf qs).find? (fun kv => decide (kv.1 = Sum.inr s)) = some x := by
      have z : ((kvOf qs).find? fun kv => decide (kv.1 = Sum.inr s)).isSome = true := by
        rw [List.find?_isSome]
        refine ⟨(Sum.inr p.1, .int p.2), List.mem_map.mpr ⟨p, hp, rfl⟩, ?_⟩
        rw [e']
        exact decide_eq_true rfl
      exact Option.isSome_iff_exists.mp z
    obtain ⟨x, hx⟩ := this
    exact ⟨x.2, by rw [hx]; rfl⟩
  | false =>
    rw [Option.isSome_eq_false_iff]
    unfold valV
    rw [Option.isNone_map, Option.isNone_iff_eq_none, List.find?_eq_none]
    intro kv hkv
    obtain ⟨p, hp, rfl⟩ := List.mem_map.mp hkv
    have z := List.any_eq_false.mp h p hp
    intro y
    have y' : (Sum.inr p.1 : Key) = Sum.inr s := of_decide_eq_true y
    injection y' with y'
    exact z (decide_eq_true y')
theorem count_lesP {ps qs : List (Str × Int)} (g : GoodP ps) (g2 : GoodP qs) (s : Str) : countOf (lesP ps qs) s = if countOf qs s < countOf ps s then countOf qs s else countOf ps s := by
  have nn := fun t => count_pos (s := t) g.count
  have mm := fun t => count_pos (s := t) g2.count
  have e : countOf (both ps qs) s = if 0 < countOf qs s then countOf ps s else 0 := by
    unfold both
    rw [count_filter g.nd]
    simp only [hasQ_count g2.count, decide_eq_true_eq]
  have gb : ∀ p ∈ both ps qs, 1 ≤ p.2 := fun p hp => g.count p (List.mem_filter.mp hp).1
  unfold lesP
  show countOf ((both ps qs).map fun p => (p.1, if countOf qs p.1 < p.2 then countOf qs p.1 else p.2)) s = _
  rw [count_map (fun p => if countOf qs p.1 < p.2 then countOf qs p.1 else p.2), any_count gb]
  simp only [decide_eq_true_eq]
  rw [e]
  have a := nn s
  have b := mm s
  by_cases h : 0 < countOf qs s
  · rw [if_pos h]
    by_cases h2 : 0 < countOf ps s
    · rw [if_pos h2]
    · rw [if_neg h2, if_neg (by omega)]
      omega
  · rw [if_neg h, if_neg (by omega)]
    by_cases h2 : countOf qs s < countOf ps s
    · rw [if_pos h2]
      omega
    · rw [if_neg h2]
      omega
theorem count_multP {ps : List (Str × Int)} (g : GoodP ps) (n : Int) (s : Str) : countOf (multP ps n) s = countOf ps s * n := by
  unfold multP
  by_cases h : n = 0
  · rw [if_pos h, h, Int.mul_zero]
    rfl
  · rw [if_neg h, count_map (fun p => p.2 * n), any_count g.count]
    simp only [decide_eq_true_eq]
    have := count_pos (s := s) g.count
    by_cases h2 : 0 < countOf ps s
    · rw [if_pos h2]
    · rw [if_neg h2, show countOf ps s = 0 by omega, Int.zero_mul]
end My
set_option Elab.async false
set_option maxRecDepth 100000
set_option maxHeartbeats 8000000
namespace My
open PySem PySem.Spec PyProof.Rows L2
open TL
/-! ### the text of a load, read again -/
theorem empty_app (z : Str) : Str.empty ++ z = z := ext_tl (by rw [tl_append]; rfl)
theorem numL_head : ∀ (n : Nat), 1 ≤ n → ∀ c r, numL n = c :: r → c ≠ 48 := fun n => by
  induction n using Nat.strongRecOn with
  | _ n ih =>
    intro h c r e
    by_cases hn : n < 10
    · rw [numL_lt hn] at e
      have := (List.cons.inj e).1
      omega
    · rw [numL_step (by omega)] at e
      cases hk : numL (n / 10) with
      | nil => exact absurd hk (numL_ne _)
      | cons c' r' =>
        rw [hk, List.cons_append] at e
        have := (List.cons.inj e).1
        have := ih (n / 10) (by omega) (by omega) c' r' hk
        omega
theorem dig10 {c : Nat} (h : 48 ≤ c ∧ c ≤ 57) : c ∈ ("0123456789" : Str).cps.toList := by
  have e : ("0123456789" : Str).cps.toList = [48, 49, 50, 51, 52, 53, 54, 55, 56, 57] := by decide +kernel
  rw [e]
  simp only [List.mem_cons, List.not_mem_nil, or_false]
  omega
theorem figV_num {n : Nat} (h : 1 ≤ n) : figV (Str.ofString (toString ((n : Nat) : Int))) = some (n : Int) := by
  have e : (Str.ofString (toString ((n : Nat) : Int))).cps.toList = numL n := tl_num n
  have ha : allIn (Str.ofString (toString ((n : Nat) : Int))) "0123456789" = true := by
    unfold allIn
    rw [e]
    exact List.all_eq_true.mpr fun c hc => decide_eq_true (dig10 (numL_digits n c hc))
  unfold figV
  generalize Str.ofString (toString ((n : Nat) : Int)) = z at e ha
  cases hc : z.cps.toList with
  | nil =>
    rw [e] at hc
    exact absurd hc (numL_ne n)
  | cons c r =>
    dsimp only
    have hd := numL_head n h c r (by rw [← e, hc])
    rw [if_neg (by rw [ha]; decide), if_neg (fun z => hd z.1), ← hc, e, numL_val]
theorem sign_of {c : Nat} (h : c ∈ ("abcdefghijklmnopqrstuvwxyz0123456789" : Str).cps.toList) : 48 ≤ c := by
  have e : ("abcdefghijklmnopqrstuvwxyz0123456789" : Str).cps.toList.all (fun c => decide (48 ≤ c)) = true := by decide +kernel
  exact of_decide_eq_true (List.all_eq_true.mp e c h)
theorem name_signs {s : Str} (h : nameB s = true) : ∀ c ∈ s.cps.toList, 48 ≤ c := by
  intro c hc
  unfold nameB at h
  simp only [Bool.and_eq_true] at h
  exact sign_of (of_decide_eq_true (List.all_eq_true.mp h.2.2.2 c hc))
theorem pairTx_tl {p : Str × Int} {n : Nat} (e : p.2 = (n : Int)) : tl (pairTx p) = numL n ++ ([32] ++ tl p.1) := by
  unfold pairTx
  rw [empty_app, tl_append, tl_append, e, List.append_assoc]
  congr 1
  exact tl_num n
theorem pairTx_cut {p : Str × Int} {n : Nat} (e : p.2 = (n : Int)) : Txt.partition (pairTx p) " " = (Str.ofString (toString ((n : Nat) : Int)), (" " : Str), p.1) := by
  unfold pairTx
  rw [empty_app, e]
  refine partition_app (s := 32) (S := []) (by decide +kernel) ?_
  rw [tl_num]
  exact numL_free (.inl (by decide))
theorem partR_tx {p : Str × Int} (h : nameB p.1 = true) (h1 : 1 ≤ p.2) : partR (pairTx p) = some p := by
  obtain ⟨n, hn⟩ := Int.eq_ofNat_of_zero_le (show 0 ≤ p.2 by omega)
  unfold partR partN partF
  rw [pairTx_cut hn]
  dsimp only
  rw [figV_num (by omega)]
  unfold nameO
  rw [if_pos h]
  show pairOf (some p.1) (if (1 : Int) ≤ (n : Int) then some (n : Int) else none) = _
  rw [if_pos (by omega), ← hn]
  rfl
theorem tx_free {p : Str × Int} (h : nameB p.1 = true) (h1 : 1 ≤ p.2) : (44 : Nat) ∉ tl (pairTx p) := by
  obtain ⟨n, hn⟩ := Int.eq_ofNat_of_zero_le (show 0 ≤ p.2 by omega)
  rw [pairTx_tl hn]
  intro z
  rcases List.mem_append.mp z with z | z
  · exact numL_free (.inl (by decide)) z
  · rcases List.mem_append.mp z with z | z
    · exact absurd z (by decide)
    · have := name_signs h 44 z
      omega
theorem split_line {ps : List (Str × Int)} (g : GoodP ps) (ne : ps ≠ []) : Txt.split (pairsTx ps) ", " = ps.map pairTx := by
  unfold pairsTx
  refine split_join (s := 44) (S := [32]) (by decide +kernel) (by decide +kernel) (fun z => ne (List.map_eq_nil_iff.mp z)) fun p hp => ?_
  obtain ⟨q, hq, rfl⟩ := List.mem_map.mp hp
  exact tx_free (g.name q hq) (g.count q hq)
theorem parts_line {ps : List (Str × Int)} (g : GoodP ps) : (ps.map pairTx).map partR = ps.map some := by
  rw [List.map_map]
  exact List.map_congr_left fun p hp => partR_tx (g.name p hp) (g.count p hp)
theorem asc_pw : ∀ {l : Str} {ps : List (Str × Int)}, ascR l (ps.map some) = true → (∀ p ∈ ps, l.cps.toList < p.1.cps.toList) ∧ (ps.map (·.1)).Pairwise (fun a b => a.cps.toList < b.cps.toList)
  | _, [], _ => ⟨(fun _ z => nomatch z), .nil⟩
  | l, p :: r, h => by
    have h' : (if l.cps.toList < p.1.cps.toList then ascR p.1 (r.map some) else false) = true := h
    by_cases c : l.cps.toList < p.1.cps.toList
    · rw [if_pos c] at h'
      obtain ⟨z1, z2⟩ := asc_pw h'
      refine ⟨fun q hq => ?_, ?_⟩
      · rcases List.mem_cons.mp hq with e | hq
        · rw [e]
          exact c
        · exact List.lt_trans c (z1 q hq)
      · rw [List.map_cons]
        refine .cons (fun s hs => ?_) z2
        obtain ⟨q, hq, rfl⟩ := List.mem_map.mp hs
        exact z1 q hq
    · rw [if_neg c] at h'
      exact nomatch h'
theorem pw_sorted {l : List Str} (h : l.Pairwise (fun a b => a.cps.toList < b.cps.toList)) : sortedS l = true ∧ l.Nodup := by
  refine ⟨sortedS_of_pairwise l (h.imp fun {a b} z => ?_), h.imp fun {a b} z e => ?_⟩
  · rw [ltCps_eq, decide_eq_false_iff_not]
    exact fun y => List.lt_irrefl _ (List.lt_trans z y)
  · rw [e] at z
    exact List.lt_irrefl _ z
/-- names of a load ascend strictly -/
theorem can_asc : ∀ {l : Str} {ps : List (Str × Int)}, sortedS (ps.map (·.1)) = true → (ps.map (·.1)).Nodup → (∀ p ∈ ps, l.cps.toList < p.1.cps.toList) → ascR l (ps.map some) = true
  | _, [], _, _, _ => rfl
  | l, p :: r, h, nd, hl => by
    show (if l.cps.toList < p.1.cps.toList then ascR p.1 (r.map some) else false) = true
    rw [if_pos (hl p List.mem_cons_self)]
    have r1 : ∀ y ∈ r.map Prod.fst, leS p.1 y := rising_le (x := p.1) (l := r.map Prod.fst) (show risingS p.1 (r.map Prod.fst) = true from h)
    rw [List.map_cons, List.nodup_cons] at nd
    refine can_asc (sorted_tail h) nd.2 fun q hq => ?_
    have z : leS p.1 q.1 := r1 _ (List.mem_map_of_mem hq)
    by_cases y : p.1.cps.toList < q.1.cps.toList
    · exact y
    · have y' : leS q.1 p.1 := by
        unfold leS
        rw [ltCps_eq, decide_eq_false y]
      have e := leS_anti z y'
      exact absurd (e ▸ List.mem_map_of_mem (f := (·.1)) hq) nd.1
theorem name_ne {s : Str} (h : nameB s = true) : ("" : Str).cps.toList < s.cps.toList := by
  unfold nameB at h
  simp only [Bool.and_eq_true, decide_eq_true_eq] at h
  have l1 := h.1
  rw [Str.len_of] at l1
  cases hc : s.cps.toList with
  | nil =>
    rw [hc] at l1
    exact absurd l1 (by decide)
  | cons c r => exact List.Lex.nil
theorem line_nil {ps : List (Str × Int)} (g : GoodP ps) (ne : ps ≠ []) : pairsTx ps ≠ "" := fun e => by
  have z := split_line g ne
  rw [e] at z
  cases ps with
  | nil => exact ne rfl
  | cons p r =>
    have y : Txt.split "" ", " = [("" : Str)] := by decide +kernel
    rw [y] at z
    have x := (List.cons.inj z).1
    obtain ⟨n, hn⟩ := Int.eq_ofNat_of_zero_le (show 0 ≤ p.2 by have := g.count p List.mem_cons_self; omega)
    have w := pairTx_tl hn
    rw [← x] at w
    cases hk : numL n with
    | nil => exact numL_ne n hk
    | cons a b =>
      rw [hk] at w
      exact nomatch w
/-- the line of a load tells its pairs -/
theorem read_line {ps : List (Str × Int)} (c : Can ps) : readR (pairsTx ps) = some ps := by
  by_cases ne : ps = []
  · rw [ne]
    decide +kernel
  · unfold readR
    rw [if_neg (line_nil c.good ne), split_line c.good ne, parts_line c.good, if_pos (can_asc c.sorted c.good.nd fun p hp => name_ne (c.good.name p hp))]
    congr 1
    rw [List.filterMap_map]
    exact List.filterMap_some
theorem partR_ok {z : Str} {p : Str × Int} (h : partR z = some p) : nameB p.1 = true ∧ 1 ≤ p.2 := by
  unfold partR nameO at h
  by_cases c1 : nameB (partN z) = true
  · rw [if_pos c1] at h
    cases hf : partF z with
    | none =>
      rw [hf] at h
      exact nomatch h
    | some n =>
      rw [hf] at h
      replace h : pairOf (some (partN z)) (if 1 ≤ n then some n else none) = some p := h
      by_cases c2 : 1 ≤ n
      · rw [if_pos c2] at h
        cases h
        exact ⟨c1, c2⟩
      · rw [if_neg c2] at h
        exact nomatch h
  · rw [if_neg c1] at h
    exact nomatch h
/-- what is read is a load's pairs -/
theorem read_can {z : Str} {ps : List (Str × Int)} (h : readR z = some ps) : Can ps := by
  unfold readR at h
  by_cases c : z = ""
  · rw [if_pos c] at h
    cases h
    exact ⟨⟨(fun _ z => nomatch z), (fun _ z => nomatch z), List.nodup_nil⟩, rfl⟩
  · rw [if_neg c] at h
    by_cases a : ascR "" ((Txt.split z ", ").map partR) = true
    · rw [if_pos a] at h
      cases h
      have e := ascR_some a
      rw [e] at a
      obtain ⟨_, pw⟩ := asc_pw a
      obtain ⟨so, nd⟩ := pw_sorted pw
      have ok : ∀ p ∈ ((Txt.split z ", ").map partR).filterMap id, nameB p.1 = true ∧ 1 ≤ p.2 := fun p hp => by
        obtain ⟨o, ho, e⟩ := List.mem_filterMap.mp hp
        obtain ⟨y, _, rfl⟩ := List.mem_map.mp ho
        exact partR_ok e
      exact ⟨⟨fun p hp => (ok p hp).1, fun p hp => (ok p hp).2, nd⟩, so⟩
    · rw [if_neg a] at h
      exact nomatch h
end My
set_option Elab.async false
set_option maxRecDepth 100000
set_option maxHeartbeats 8000000
namespace My
open PySem PySem.Spec PyProof.Rows L2
local macro_rules | `(tactic| walk_at "cond") => `(tactic| first
  | exact Or.inr ⟨by decide, by decide⟩ | exact Or.inl ⟨by decide, by decide⟩ | exact ⟨by decide, by decide, by decide⟩ | exact ⟨by decide, by decide⟩
  | (refine Or.inl ⟨?_, ?_⟩ <;> omega) | (refine Or.inr ⟨?_, ?_⟩ <;> omega)
  | (show (0 : Int) < _; omega))
local macro_rules | `(tactic| walk_at "mem") => `(tactic| first | exact List.Mem.head _ | exact List.Mem.tail _ (List.Mem.head _) | exact Put.head | (refine List.Mem.tail _ ?_; walk_at "mem") | (apply Put.tail; walk_at "mem"))
local macro_rules | `(tactic| walk_at "st") => `(tactic| first
  | with_reducible refine g_seq ?_ | with_reducible refine g_asg ?_ | with_reducible refine g_name ?_ | ((with_reducible show tVar _ _ _ _); refine g_var rfl ?_) | with_reducible refine g_c ?_
  | with_reducible refine g_op ?_ | with_reducible refine g_test ?_ | with_reducible refine g_bl ?_
  | with_reducible refine g_cb ?_ | with_reducible refine g_cons ?_ | with_reducible refine g_nil ?_ | with_reducible refine g_tif ?_ | with_reducible refine g_ifs ?_ | with_reducible refine g_ret ?_
  | with_reducible refine g_drop ?_ | with_reducible refine g_next ?_
  | with_reducible refine g_i0 ?_ | ((with_reducible show rI _ _ _ _ _ _); refine g_i (by walk_at "cond") ?_) | with_reducible refine g_int ?_ | with_reducible refine g_abs ?_ | with_reducible refine g_or ?_
  | with_reducible refine g_and ?_ | with_reducible refine g_not ?_ | with_reducible refine g_lst ?_ | with_reducible refine g_tup ?_
  | with_reducible refine iteT ?_ | with_reducible refine iteF ?_ | with_reducible refine g_par ?_ | with_reducible refine g_two ?_ | with_reducible refine g_sub ?_
  | ((with_reducible show rIxL _ (V.ref _) (V.int _) _ _); refine g_ixM (by assumption) (by walk_at "mem") rfl rfl ?_)
  | ((with_reducible show rSetL (V.ref _) (V.int _) _ _ _); refine g_setM (by assumption) rfl (by walk_at "mem") fun _ _ => ?_)
  | with_reducible refine g_xmk ?_ | with_reducible refine g_xmkK ?_
  | ((with_reducible show XNew _ (spI1 _ _) _ _ _); refine g_x1 (by assumption) fun _ _ _ _ => ?_)
  | ((with_reducible show XNewK _ _ (spI1 _ _) _ _ _ _); refine g_x1k (by assumption) fun _ _ _ _ => ?_)
  | ((with_reducible show XNew _ (spI3 _ _ _ _) _ _ _); refine g_x3 (by assumption) fun _ _ _ _ => ?_)
  | ((with_reducible show tXmk0 _ _ _ _); refine g_xmk0 (by assumption) fun _ _ _ => ?_)
  | ((with_reducible show NewO _ _ _ _); refine g_newo (by assumption) (by first | decide | simp) fun _ _ _ _ => ?_)
  | ((with_reducible show rCat (V.ref _) (V.ref _) _ _); refine g_cat (by assumption) (by walk_at "mem") (by walk_at "mem") (by first | decide | simp) fun _ _ _ _ => ?_))
local macro_rules | `(tactic| walk_at "st") => `(tactic| first | with_reducible refine g_tcall ?_ | with_reducible refine g_tb ?_ | with_reducible refine g_andV ?_ | with_reducible refine g_notV ?_ | with_reducible refine g_chain ?_ | with_reducible refine g_un ?_ | with_reducible refine g_rU ?_)
theorem can_ordered {ps qs : List (Str × Int)} (c : Can ps) (o : Ordered ps qs) : qs = ps :=
  can_ext (can_of c.good o) c (count_perm c.good o.perm)
section
variable {P : Program} {w : World} {K : PySem.W.Frag} {mg : Str → Option Value} {base : Heap}
/-- a text whose parts are of no great length -/
structure TextOk (z : Str) : Prop where
  len : z.length + 2 ≤ sizeLine
  parts : ∀ p ∈ Txt.split z ", ", PartOk p
  few : (Txt.split z ", ").length ≤ 60
def spRead (K : PySem.W.Frag) (C CT : Addr) : Sp := fun vs H Q E => ∃ v, vs = [v] ∧ ((∃ t, TyX K H v t ∧ PySem.W.kitOne K t (.type "str") = some false ∧ BadV CT "value" v H E) ∨
  (∃ z, v = .str z ∧ TextOk z ∧ ((readR z = none ∧ BadV CT "value" (.str z) H E) ∨ (∃ ps, readR z = some ps ∧ ∀ H' x, H x = none → Same H H' → LoadAt C H' x ps → Q (.ref x) H'))))
theorem read_few {z : Str} {ps : List (Str × Int)} (o : TextOk z) (h : readR z = some ps) : ps.length ≤ 60 := by
  unfold readR at h
  by_cases c : z = ""
  · rw [if_pos c] at h
    cases h
    exact Nat.zero_le _
  · rw [if_neg c] at h
    by_cases a : ascR "" ((Txt.split z ", ").map partR) = true
    · rw [if_pos a] at h
      cases h
      have := List.length_filterMap_le id ((Txt.split z ", ").map partR)
      rw [List.length_map] at this
      have := o.few
      omega
    · rw [if_neg a] at h
      exact nomatch h
theorem scRead : FnScope ["text", "pairs"] ["text"] (defScope s_Load_read) := ⟨rfl, rfl, rfl, by decide +kernel, rfl, by decide +kernel, by decide +kernel⟩
theorem ok_read {f C CT CP fI fL : Addr} {fd fdT : FuncData} {B newId initId : String} {bmB : List Value} (F : Fun K "read" "Load.read" s_Load_read f fd) (T : BltN mg) (TT_ : XCls P w K mg base "InvalidText" CT fI B newId initId bmB ["self", "value"] (spI1 CT "value") fdT)
    (M : Mk K C fL) (mL : mg "Load" = some (.ref C)) (FL : FnR P w K mg base (L2.CX P w) 5 fL (spStar1 (spInitX K C CP))) (CR : Cal P w K mg base 5 "read_pairs" ["text"] (spReadP K)) : FnOk P w K mg base (L2.CX P w) 7 f fd ["text"] (spRead K C CT) := by
  refine F.okX scRead (fun vs H Q E h => ?_) (fun cdv A outer s H vs Q E hr h => ?_)
  · obtain ⟨v, rfl, h⟩ := h
    rfl
  · obtain ⟨v, rfl, h⟩ := h
    have hr2 := hr.mono (by decide : 2 ≤ 6)
    have tk := takes_of (X := cxOf (L2.CX P w) P w K mg base ["text", "pairs"] "Load.read" (defScope s_Load_read) f cdv A outer s H E) (E := E) rfl rfl rfl rfl
    refine ⟨_, pss_cons (ps_set (i := 1) scRead.nd rfl (Or.inl rfl) (pe_ifExp (pt_val (pIsi T.isi (pv 0) (pe_bltn (v := .ty "str") rfl T.str (by decide +kernel) rfl))) (pCal CR (hr.mono (by decide : 5 ≤ 6)) (pa_cons (pv 0) pa_nil)) pe_non))
      (pss_cons (ps_if (pt_cmpR op_isN (pv 1) pe_non (nomark _)) (pss_one (ps_raise rfl tk (pmk_x TT_ hr2 rfl (pa_cons (pv 0) pa_nil)))) pss_nil)
      (pss_one (ps_ret (pe_makeS M FL hr rfl mL (passes_call tk fun _ _ _ _ h => h) (pv 1))))), ?_⟩
    repeat walk_at "st"
    rcases h with ⟨t, ty, k1, q⟩ | ⟨z, rfl, o, h⟩
    · refine g_isi (.ty _) ty k1 (g_bl (iteF ?_))
      repeat walk_at "st"
      refine ⟨rfl, ?_⟩
      refine g_bl (iteT ?_)
      refine g_cons (g_var rfl (g_nil ?_))
      exact rx1_ok fun d hd => q H d (Same.refl H) hd
    · refine g_isi (.ty _) tyStr (kit_ty (by decide +kernel) : PySem.W.kitOne K (.type "str") (.type "str") = some true) (g_bl (iteT ?_))
      repeat walk_at "st"
      refine ⟨z, rfl, o.len, o.parts, Nat.le_trans o.few (by decide), ?_⟩
      rcases h with ⟨n, q⟩ | ⟨ps, n, q⟩
      · refine .inl ⟨n, fun H1 s1 => ?_⟩
        repeat walk_at "st"
        refine ⟨rfl, ?_⟩
        refine g_bl (iteT ?_)
        refine g_cons (g_var rfl (g_nil ?_))
        exact rx1_ok fun d hd => q H1 d s1 hd
      · refine .inr ⟨ps, n, fun H1 b ts s1 sq pr => ?_⟩
        have c := read_can n
        have few := read_few o n
        repeat walk_at "st"
        refine ⟨rfl, ?_⟩
        refine g_bl (iteF ?_)
        repeat walk_at "st"
        refine g_mkS (g_var rfl ?_)
        refine ⟨b, ts, rfl, .inl sq, made_of (rs := ps.map some) (pairK_rs (pairK_all pr c.good.name c.good.count)) (by rw [pr.length]; omega) ?_⟩
        unfold Made
        rw [wrong_none ps 0 [] (by simpa using c.good.nd)]
        refine ⟨ps, rfl, c.good.nd, by omega, fun H' x qs hx s2 od la => ?_⟩
        rw [can_ordered c od] at la
        exact q H' x (none_back s1 hx) (s1.trans s2) la
end
end My
set_option Elab.async false
set_option maxRecDepth 100000
set_option maxHeartbeats 8000000
namespace My
open PySem PySem.Spec PyProof.Rows L2
local macro_rules | `(tactic| walk_at "cond") => `(tactic| first
  | exact Or.inr ⟨by decide, by decide⟩ | exact Or.inl ⟨by decide, by decide⟩ | exact ⟨by decide, by decide, by decide⟩ | exact ⟨by decide, by decide⟩
  | (refine Or.inl ⟨?_, ?_⟩ <;> omega) | (refine Or.inr ⟨?_, ?_⟩ <;> omega)
  | (show (0 : Int) < _; omega))
local macro_rules | `(tactic| walk_at "mem") => `(tactic| first | exact List.Mem.head _ | exact List.Mem.tail _ (List.Mem.head _) | exact Put.head | (refine List.Mem.tail _ ?_; walk_at "mem") | (apply Put.tail; walk_at "mem"))
local macro_rules | `(tactic| walk_at "st") => `(tactic| first
  | with_reducible refine g_seq ?_ | with_reducible refine g_asg ?_ | with_reducible refine g_name ?_ | ((with_reducible show tVar _ _ _ _); refine g_var rfl ?_) | with_reducible refine g_c ?_
  | with_reducible refine g_op ?_ | with_reducible refine g_test ?_ | with_reducible refine g_bl ?_
  | with_reducible refine g_cb ?_ | with_reducible refine g_cons ?_ | with_reducible refine g_nil ?_ | with_reducible refine g_tif ?_ | with_reducible refine g_ifs ?_ | with_reducible refine g_ret ?_
  | with_reducible refine g_drop ?_ | with_reducible refine g_next ?_
  | with_reducible refine g_i0 ?_ | ((with_reducible show rI _ _ _ _ _ _); refine g_i (by walk_at "cond") ?_) | with_reducible refine g_int ?_ | with_reducible refine g_abs ?_ | with_reducible refine g_or ?_
  | with_reducible refine g_and ?_ | with_reducible refine g_not ?_ | with_reducible refine g_lst ?_ | with_reducible refine g_tup ?_
  | with_reducible refine iteT ?_ | with_reducible refine iteF ?_ | with_reducible refine g_par ?_ | with_reducible refine g_two ?_ | with_reducible refine g_sub ?_
  | ((with_reducible show rIxL _ (V.ref _) (V.int _) _ _); refine g_ixM (by assumption) (by walk_at "mem") rfl rfl ?_)
  | ((with_reducible show rSetL (V.ref _) (V.int _) _ _ _); refine g_setM (by assumption) rfl (by walk_at "mem") fun _ _ => ?_)
  | with_reducible refine g_xmk ?_ | with_reducible refine g_xmkK ?_
  | ((with_reducible show XNew _ (spI1 _ _) _ _ _); refine g_x1 (by assumption) fun _ _ _ _ => ?_)
  | ((with_reducible show XNewK _ _ (spI1 _ _) _ _ _ _); refine g_x1k (by assumption) fun _ _ _ _ => ?_)
  | ((with_reducible show XNew _ (spI3 _ _ _ _) _ _ _); refine g_x3 (by assumption) fun _ _ _ _ => ?_)
  | ((with_reducible show tXmk0 _ _ _ _); refine g_xmk0 (by assumption) fun _ _ _ => ?_)
  | ((with_reducible show NewO _ _ _ _); refine g_newo (by assumption) (by first | decide | simp) fun _ _ _ _ => ?_)
  | ((with_reducible show rCat (V.ref _) (V.ref _) _ _); refine g_cat (by assumption) (by walk_at "mem") (by walk_at "mem") (by first | decide | simp) fun _ _ _ _ => ?_))
local macro_rules | `(tactic| walk_at "st") => `(tactic| first | with_reducible refine g_tcall ?_ | with_reducible refine g_tb ?_ | with_reducible refine g_andV ?_ | with_reducible refine g_notV ?_ | with_reducible refine g_chain ?_ | with_reducible refine g_un ?_ | with_reducible refine g_rU ?_)
theorem g_eqIi {i j : Int} {H : Hp} {Q : VK} (h : Q (.bl (decide (i = j))) H) : rEq (.int i) (.int j) H Q := ⟨rfl, by
  have e : decide (V.int i = V.int j) = decide (i = j) := by simp
  rw [e]
  exact h⟩
/-! ### _law_count of k01 -/
section
variable {P : Program} {w : World} {K : PySem.W.Frag} {mg : Str → Option Value} {base : Heap}
def CountOk (n : Int) : Prop := 1 ≤ n ∧ n < 10 ^ 45
def spCount : Sp := fun vs H Q _ => ∃ (p : Addr), vs = [.ref p] ∧ Src p H ∧ ∀ H' n, Off [p] H H' → Src p H' → CountOk n → Q (.int n) H'
theorem scCount : FnScope ["_law_source_here", "_law_way"] ["_law_source_here"] (defScope s__law_count) := ⟨rfl, rfl, rfl, by decide +kernel, rfl, by decide +kernel, by decide +kernel⟩
theorem ok_count {f : Addr} {fd : FuncData} (F : Fun K "_law_count" "_law_count" s__law_count f fd) (C : Cal P w K mg base 1 "_law_pull" ["_law_source_here", "_law_width"] spPull) : FnOk P w K mg base CX0 2 f fd ["_law_source_here"] spCount := by
  refine F.ok scCount (fun vs H Q E h => ?_) (fun cdv A outer s H vs Q E hr h => ?_)
  · obtain ⟨p, rfl, _⟩ := h
    rfl
  · obtain ⟨p, rfl, sr, k⟩ := h
    refine ⟨_, pss_cons (ps_set (i := 1) scCount.nd rfl (Or.inl rfl) (pCal C hr (pa_cons (pv 0) (pa_cons pe_int pa_nil))))
      (pss_cons (ps_if (pt_cmpR op_lt (pv 1) pe_int (nomark _)) (pss_one (ps_ret (pe_op op_add pe_int (pCal C hr (pa_cons (pv 0) (pa_cons pe_int pa_nil)))))) pss_nil)
      (pss_one (ps_ret (pe_ifExp (pt_cmpR op_eq (pv 1) pe_int (nomark _)) (pe_op op_add pe_int (pCal C hr (pa_cons (pv 0) (pa_cons (pe_op op_pow pe_int pe_int) pa_nil)))) (pe_op op_add (pe_op op_pow pe_int pe_int) (pCal C hr (pa_cons (pv 0) (pa_cons (pe_op op_pow pe_int pe_int) pa_nil)))))))), ?_⟩
    refine g_seq <| g_asg <| g_tcall <| g_cons <| g_var rfl <| g_cons <| g_c <| g_nil ?_
    refine pull_of sr (by decide) (by decide) fun d0 H1 hd0 o1 s1 => ?_
    refine g_name ?_
    dsimp only
    refine g_seq <| g_ifs <| g_test <| g_op <| g_var rfl <| g_c <| g_i0 <| g_bl ?_
    refine g_ite (fun _ => ?_) (fun _ => ?_)
    · refine g_ret <| g_op <| g_c <| g_tcall <| g_cons <| g_var rfl <| g_cons <| g_c <| g_nil ?_
      refine pull_of s1 (by decide) (by decide) fun d1 H2 hd1 o2 s2 => g_i0 ?_
      exact k H2 _ (o1.trans o2) s2 ⟨by omega, by have : (9 : Int) < 10 ^ 45 - 1 := (by decide +kernel); omega⟩
    · refine g_next ?_
      dsimp only
      refine g_ret <| g_tif <| g_test <| g_op <| g_var rfl <| g_c <| g_eqIi <| g_bl ?_
      refine g_ite (fun _ => ?_) (fun _ => ?_)
      · refine g_op <| g_c <| g_tcall <| g_cons <| g_var rfl <| g_cons <| g_op <| g_c <| g_c <| g_i (by walk_at "cond") <| g_nil ?_
        refine pull_of s1 (by decide +kernel) (by decide +kernel) fun d1 H2 hd1 o2 s2 => g_i0 ?_
        exact k H2 _ (o1.trans o2) s2 ⟨by omega, by have : (10 : Int) ^ (9 : Int).toNat < 10 ^ 45 - 1 := (by decide +kernel); omega⟩
      · refine g_op <| g_op <| g_c <| g_c <| g_i (by walk_at "cond") <| g_tcall <| g_cons <| g_var rfl <| g_cons <| g_op <| g_c <| g_c <| g_i (by walk_at "cond") <| g_nil ?_
        refine pull_of s1 (by decide +kernel) (by decide +kernel) fun d1 H2 hd1 o2 s2 => g_i0 ?_
        exact k H2 _ (o1.trans o2) s2 ⟨by have : (1 : Int) ≤ 10 ^ (44 : Int).toNat := (by decide +kernel); omega, by have : (10 : Int) ^ (44 : Int).toNat + 10 ^ (6 : Int).toNat < 10 ^ 45 := (by decide +kernel); omega⟩
end
end My
set_option Elab.async false
set_option maxRecDepth 100000
set_option maxHeartbeats 8000000
namespace My
open PySem PySem.Spec PyProof.Rows L2
local macro_rules | `(tactic| walk_at "cond") => `(tactic| first
  | exact Or.inr ⟨by decide, by decide⟩ | exact Or.inl ⟨by decide, by decide⟩ | exact ⟨by decide, by decide, by decide⟩ | exact ⟨by decide, by decide⟩
  | (refine Or.inl ⟨?_, ?_⟩ <;> omega) | (refine Or.inr ⟨?_, ?_⟩ <;> omega)
  | (show (0 : Int) < _; omega))
local macro_rules | `(tactic| walk_at "mem") => `(tactic| first | exact List.Mem.head _ | exact List.Mem.tail _ (List.Mem.head _) | exact Put.head | (refine List.Mem.tail _ ?_; walk_at "mem") | (apply Put.tail; walk_at "mem"))
local macro_rules | `(tactic| walk_at "st") => `(tactic| first
  | with_reducible refine g_seq ?_ | with_reducible refine g_asg ?_ | with_reducible refine g_name ?_ | ((with_reducible show tVar _ _ _ _); refine g_var rfl ?_) | with_reducible refine g_c ?_
  | with_reducible refine g_op ?_ | with_reducible refine g_test ?_ | with_reducible refine g_bl ?_
  | with_reducible refine g_cb ?_ | with_reducible refine g_cons ?_ | with_reducible refine g_nil ?_ | with_reducible refine g_tif ?_ | with_reducible refine g_ifs ?_ | with_reducible refine g_ret ?_
  | with_reducible refine g_drop ?_ | with_reducible refine g_next ?_
  | with_reducible refine g_i0 ?_ | ((with_reducible show rI _ _ _ _ _ _); refine g_i (by walk_at "cond") ?_) | with_reducible refine g_int ?_ | with_reducible refine g_abs ?_ | with_reducible refine g_or ?_
  | with_reducible refine g_and ?_ | with_reducible refine g_not ?_ | with_reducible refine g_lst ?_ | with_reducible refine g_tup ?_
  | with_reducible refine iteT ?_ | with_reducible refine iteF ?_ | with_reducible refine g_par ?_ | with_reducible refine g_two ?_ | with_reducible refine g_sub ?_
  | ((with_reducible show rIxL _ (V.ref _) (V.int _) _ _); refine g_ixM (by assumption) (by walk_at "mem") rfl rfl ?_)
  | ((with_reducible show rSetL (V.ref _) (V.int _) _ _ _); refine g_setM (by assumption) rfl (by walk_at "mem") fun _ _ => ?_)
  | with_reducible refine g_xmk ?_ | with_reducible refine g_xmkK ?_
  | ((with_reducible show XNew _ (spI1 _ _) _ _ _); refine g_x1 (by assumption) fun _ _ _ _ => ?_)
  | ((with_reducible show XNewK _ _ (spI1 _ _) _ _ _ _); refine g_x1k (by assumption) fun _ _ _ _ => ?_)
  | ((with_reducible show XNew _ (spI3 _ _ _ _) _ _ _); refine g_x3 (by assumption) fun _ _ _ _ => ?_)
  | ((with_reducible show tXmk0 _ _ _ _); refine g_xmk0 (by assumption) fun _ _ _ => ?_)
  | ((with_reducible show NewO _ _ _ _); refine g_newo (by assumption) (by first | decide | simp) fun _ _ _ _ => ?_)
  | ((with_reducible show rCat (V.ref _) (V.ref _) _ _); refine g_cat (by assumption) (by walk_at "mem") (by walk_at "mem") (by first | decide | simp) fun _ _ _ _ => ?_))
local macro_rules | `(tactic| walk_at "st") => `(tactic| first | with_reducible refine g_tcall ?_ | with_reducible refine g_tb ?_ | with_reducible refine g_andV ?_ | with_reducible refine g_notV ?_ | with_reducible refine g_chain ?_ | with_reducible refine g_un ?_ | with_reducible refine g_rU ?_)
/-! ### _law_load of k01 -/
section
variable {X : Cx} {CX : CXT} {k : Nat} {f C : Addr} {sp : Sp} {E : XK} {x : Str} {p pos : Pos}
theorem pe_makeR0 (M : Mk X.K C f) (F : FnR X.prog X.w X.K X.mg X.base CX k f sp) (hr : Room (k + 1) X.A) (hg : Gl X x) (hm : X.mg x = some (.ref C)) (hx : Passes CX X E) (hdb : (x == ("__debug__" : Str)) = false := by decide) :
    PE X (.Call (.Name x p) [] [] pos) (StX.tMakeR C sp E tNil) := by
  refine ⟨fun pins s σ H Q I h => ?_⟩
  refine wpAny_Call_Name_kw (ld_glob I hg hm ?_ hdb)
  exact PySem.W.callWith_K0 I.kIn M.kp (StX.run_makeR (us := []) M F hr hx I .nil h)
end
theorem g_lenLs {K : PySem.W.Frag} {H : Hp} {Q : VK} {p : Addr} {ys : List V} (e : H p = some (.lst ys)) (h : Q (.int ys.length) H) : rLen K [.ref p] H Q := ⟨p, ys, rfl, .inl (SqL.of e), h⟩
section
variable {P : Program} {w : World} {K : PySem.W.Frag} {mg : Str → Option Value} {base : Heap}
theorem made_ld {C CP : Addr} {H : Hp} {Q : VK} {E : XK} {ts : List V} {ps : List (Str × Int)} (pr : Paired (PairAt H) ts ps) (g : GoodP ps) (few : ps.length < 64) (k : ∀ H' x rs, H x = none → Same H H' → Ordered ps rs → LoadAt C H' x rs → Q (.ref x) H') :
    ∀ x dx, H x = Option.none → H dx = Option.none → dx ≠ x → spStar1 (spInitX K C CP) (V.ref x :: ts) (upd (upd H dx (.own x)) x (.ins C dx [])) (fun v H2 => v = .non ∧ Q (.ref x) H2) E := by
  refine made_of (rs := ps.map some) (pairK_rs (pairK_all pr g.name g.count)) (by rw [pr.length]; omega) ?_
  unfold Made
  rw [wrong_none ps 0 [] (by simpa using g.nd)]
  exact ⟨ps, rfl, g.nd, few, k⟩
def spLoadR (C : Addr) : Sp := fun vs H Q _ => ∃ (l : Addr) (ts : List V) (ps : List (Str × Int)), vs = [.ref l] ∧ H l = some (.lst ts) ∧ Paired (PairAt H) ts ps ∧ GoodP ps ∧ ps.length ≤ 20 ∧
  ∀ H' x rs, Same H H' → Ordered ps rs → LoadAt C H' x rs → Q (.ref x) H'
theorem scLoadR : FnScope ["_law_rows"] ["_law_rows"] (defScope s__law_load) := ⟨rfl, rfl, rfl, by decide +kernel, rfl, by decide +kernel, by decide +kernel⟩
theorem ok_loadR {f C CP p gO fL : Addr} {mc : Value} {fd fdO : FuncData} (F : Fun K "_law_load" "_law_load" s__law_load f fd) (mT : mg "tuple" = none) (mN : mg "len" = none) (mL : mg "Load" = some (.ref C))
    (M : Mk K C fL) (FL : FnR P w K mg base (L2.CX P w) 5 fL (spStar1 (spInitX K C CP))) (SM : SMet K C mc "of" p gO) (FO : FnOk P w K mg base (L2.CX P w) 7 gO fdO ["pairs"] (spOf K C CP)) (bO : Binds K fdO ["pairs"] []) : FnOk P w K mg base CX0 8 f fd ["_law_rows"] (spLoadR C) := by
  refine F.ok scLoadR (fun vs H Q E h => ?_) (fun cdv A outer s H vs Q E hr h => ?_)
  · obtain ⟨l, _, _, rfl, _⟩ := h
    rfl
  · obtain ⟨l, ts, ps, rfl, hl, pr, g, few, k⟩ := h
    have hr6 := hr.mono (by decide : 6 ≤ 7)
    refine ⟨_, pss_cons (ps_if (pt_cmpR op_eq (pLen mN (pv 0)) pe_int (nomark _)) (pss_one (ps_ret (pe_makeR0 M FL hr6 rfl mL (passes_call LamX.takes0 fun _ _ _ _ h => h)))) pss_nil)
      (pss_cons (ps_if (pt_cmpR op_eq (pLen mN (pv 0)) pe_int (nomark _)) (pss_one (ps_ret (StX.pe_makeR M FL hr6 rfl mL (passes_call LamX.takes0 fun _ _ _ _ h => h) (pa_cons (pe_ix ix_list (pv 0) pe_int (fun _ _ => rfl)) pa_nil)))) pss_nil)
      (pss_cons (ps_if (pt_cmpR op_eq (pLen mN (pv 0)) pe_int (nomark _)) (pss_one (ps_ret (StX.pe_makeR M FL hr6 rfl mL (passes_call LamX.takes0 fun _ _ _ _ h => h) (pa_cons (pe_ix ix_list (pv 0) pe_int (fun _ _ => rfl)) (pa_cons (pe_ix ix_list (pv 0) pe_int (fun _ _ => rfl)) pa_nil))))) pss_nil)
      (pss_one (ps_ret (pe_ifExp (pt_cmpR op_eq (pLen mN (pv 0)) pe_int (nomark _)) (StX.pe_makeR M FL hr6 rfl mL (passes_call LamX.takes0 fun _ _ _ _ h => h) (pa_cons (pe_ix ix_list (pv 0) pe_int (fun _ _ => rfl)) (pa_cons (pe_ix ix_list (pv 0) pe_int (fun _ _ => rfl)) (pa_cons (pe_ix ix_list (pv 0) pe_int (fun _ _ => rfl)) pa_nil))))
        (pe_smeth (pG mL) SM FO hr bO (passes_call LamX.takes0 fun _ _ _ _ h => h) (pa_cons (pe_callTy (r := rTupZ K) call_tupZ (by rfl) mT PyProof.Rows.boot_tuple (pa_cons (pv 0) pa_nil)) pa_nil))))))), ?_⟩
    have lx := pr.length
    refine g_seq <| g_ifs <| g_test <| g_op <| g_cb <| g_cons <| g_var rfl <| g_nil <| g_lenLs hl <| g_c <| g_eqIi <| g_bl ?_
    refine g_ite (fun c => ?_) (fun c0 => ?_)
    · have e0 : ts = [] := List.length_eq_zero_iff.mp (by omega)
      subst e0
      refine g_ret <| g_mkR <| g_nil ?_
      exact made_ld pr g (by omega) fun H' x rs hx s od la => k H' x rs s od la
    refine g_next ?_
    dsimp only
    refine g_seq <| g_ifs <| g_test <| g_op <| g_cb <| g_cons <| g_var rfl <| g_nil <| g_lenLs hl <| g_c <| g_eqIi <| g_bl ?_
    refine g_ite (fun c => ?_) (fun c1 => ?_)
    · match ts, c, hl, pr with
      | [a], c, hl, pr =>
        refine g_ret <| g_mkR <| g_cons <| g_op <| g_var rfl <| g_c <| ix_at (j := 0) (SqL.of hl) rfl <| g_nil ?_
        exact made_ld pr g (by omega) fun H' x rs hx s od la => k H' x rs s od la
    refine g_next ?_
    dsimp only
    refine g_seq <| g_ifs <| g_test <| g_op <| g_cb <| g_cons <| g_var rfl <| g_nil <| g_lenLs hl <| g_c <| g_eqIi <| g_bl ?_
    refine g_ite (fun c => ?_) (fun c2 => ?_)
    · match ts, c, hl, pr with
      | [a, b], c, hl, pr =>
        refine g_ret <| g_mkR <| g_cons <| g_op <| g_var rfl <| g_c <| ix_at (j := 0) (SqL.of hl) rfl <| g_cons <| g_op <| g_var rfl <| g_c <| ix_at (j := 1) (SqL.of hl) rfl <| g_nil ?_
        exact made_ld pr g (by omega) fun H' x rs hx s od la => k H' x rs s od la
    refine g_next ?_
    dsimp only
    refine g_ret <| g_tif <| g_test <| g_op <| g_cb <| g_cons <| g_var rfl <| g_nil <| g_lenLs hl <| g_c <| g_eqIi <| g_bl ?_
    refine g_ite (fun c => ?_) (fun c3 => ?_)
    · match ts, c, hl, pr with
      | [a, b, d], c, hl, pr =>
        refine g_mkR <| g_cons <| g_op <| g_var rfl <| g_c <| ix_at (j := 0) (SqL.of hl) rfl <| g_cons <| g_op <| g_var rfl <| g_c <| ix_at (j := 1) (SqL.of hl) rfl <| g_cons <| g_op <| g_var rfl <| g_c <| ix_at (j := 2) (SqL.of hl) rfl <| g_nil ?_
        exact made_ld pr g (by omega) fun H' x rs hx s od la => k H' x rs s od la
    · refine ⟨rfl, g_cons <| g_cb <| g_cons <| g_var rfl <| g_nil ⟨l, ts, rfl, SqL.of hl, fun b o hb _ => g_nil ?_⟩⟩
      have s3 : Same H (upd H b (.frz o (.tup ts))) := sameNew hb
      refine of_good (.inl (.inr ⟨o, upd_same⟩)) (pairedMono (fun _ _ h => PairAt.same h s3) pr) g (by omega) fun H' x rs hx s4 od la => ?_
      exact k H' x rs (s3.trans s4) od la
end
end My
set_option Elab.async false
set_option maxRecDepth 100000
set_option maxHeartbeats 8000000
namespace My
open PySem PySem.Spec PyProof.Rows L2
/-! ### len, repr, str, bool and `in` of an instance of an own class -/
section
variable {X : Cx} {CX : CXT} {k : Nat} {C g : Addr} {sp : Sp} {E : XK}
theorem run_ownB {B : Around} {pins : List (Addr × Obj)} {σ : L2.St} {H : Hp} {s : Shared} {Q : VK} {us : List Value} {vs : List V} (F : FnR X.prog X.w X.K X.mg X.base CX k g sp) (hr : Room k B) (e0 : Env0 X.prog X.w X.K X.mg X.base B X.stack s H) (hx : Passes CX X E) (I : Inv X pins σ H s) (r : Vals vs us)
    (h : sp vs H Q E) : wpAny (model X.prog X.w) B (call (.ref g) us) (EP X pins σ Q) X.xe s := by
  refine wpAny_call (codeAny_mono (F B X.stack s H us vs Q E hr e0 r h) fun r s' hq => ?_)
  cases r with
  | error e => exact hx pins σ H s e s' I hq
  | ok fl =>
    cases fl with
    | ret u => exact I.after hq
    | next => exact False.elim hq
    | brk => exact False.elim hq
    | cont => exact False.elim hq
/-- what a len of an own class has to give -/
def rLenO (C : Addr) (sp : Sp) (E : XK) : List V → Hp → VK → Prop := fun xs H Q => ∃ a dx fs, xs = [.ref a] ∧ H a = some (.ins C dx fs) ∧ sp [.ref a] H (fun v H' => ∃ n : Int, v = .int n ∧ 0 ≤ n ∧ n < 2 ^ 63 ∧ Q (.int n) H') E
theorem len_body {B : Around} {pins : List (Addr × Obj)} {σ : L2.St} {H : Hp} {s : Shared} {Q : VK} {a dx : Addr} {fs : List (Str × V)} (hs : PySem.W.findIn X.K (.ref C) "__len__" = some (some (.ref g))) (hf : PySem.W.isFn X.K (.ref g) = true) (F : FnR X.prog X.w X.K X.mg X.base CX k g sp) (hr : Room k B) (e0 : Env0 X.prog X.w X.K X.mg X.base B X.stack s H) (hx : Passes CX X E)
    (I : Inv X pins σ H s) (ha : H a = some (.ins C dx fs)) (q : sp [.ref a] H (fun v H' => ∃ n : Int, v = .int n ∧ 0 ≤ n ∧ n < 2 ^ 63 ∧ Q (.int n) H') E) :
    wpAny (model X.prog X.w) B (Builtin.«len» ⟨[.ref a], []⟩) (fun fin s' => ∃ v, fin = .done (.ret v) ∧ EP X pins σ Q v s') X.xe s := by
  obtain ⟨mA, O, _⟩ := ins_get I.hok ha
  obtain ⟨od, J, _⟩ := O.look
  unfold Builtin.«len»
  refine wpAny_bind (m := oneArg "len" _) (wpAny_pure ?_)
  refine wpAny_bind (m := callSpecial? (.ref a) (Str.ofString "__len__")) (PySem.W.special_fn I.kIn J hs (beq_iff_eq.mp hf) (wpAny_mono (run_ownB F hr e0 hx I (.cons rfl .nil : Vals [V.ref a] [Value.ref a]) q) (fun v s' z => ?_) fun _ _ z => z))
  obtain ⟨y, H', I', ry, n, rfl, n0, n1, q⟩ := z
  obtain ⟨t, rfl⟩ := (show ∃ t, v = Value.int n t from ry)
  refine wpAny_bind (wpAny_holding (wpAny_pure ?_))
  refine wpAny_bind (wpAny_letGo ?_)
  show wpAny _ _ (if n < 0 then _ else _) _ _ _
  rw [if_neg (by omega)]
  show wpAny _ _ (if n ≥ 2 ^ 63 then _ else _) _ _ _
  rw [if_neg (by omega)]
  exact wpAny_bind (wpAny_mkInt (wpAny_pure ⟨_, rfl, .int n, H', I'.tok _, ⟨_, rfl⟩, q⟩))
theorem call_lenO (hs : PySem.W.findIn X.K (.ref C) "__len__" = some (some (.ref g))) (hf : PySem.W.isFn X.K (.ref g) = true) (F : FnR X.prog X.w X.K X.mg X.base CX k g sp) (hr : Room (k + 1) X.A) (hx : Passes CX X E) : CallR X (.builtin "len") (rLenO C sp E) := by
  intro pins s σ H xs us Q I r h
  obtain ⟨a, dx, fs, rfl, ha, q⟩ := h
  obtain rfl := Vals.ref1 r
  exact Calls.call_function_entry kind_len plain_len entry_len (args_len1 _) (len_body hs hf F hr.in1 I.env0.in1 hx I ha q)
/-- what shows an own instance has to give a text -/
def rTxO (C : Addr) (sp : Sp) (E : XK) : List V → Hp → VK → Prop := fun xs H Q => ∃ a dx fs, xs = [.ref a] ∧ H a = some (.ins C dx fs) ∧ sp [.ref a] H (fun v H' => ∃ z : Str, v = .str z ∧ Q (.str z) H') E
theorem call_reprO (hs : PySem.W.findIn X.K (.ref C) "__repr__" = some (some (.ref g))) (hf : PySem.W.isFn X.K (.ref g) = true) (F : FnR X.prog X.w X.K X.mg X.base CX k g sp) (hr : Room (k + 1) X.A) (hx : Passes CX X E) : CallR X (.builtin "repr") (rTxO C sp E) := by
  intro pins s σ H xs us Q I r h
  obtain ⟨a, dx, fs, rfl, ha, q⟩ := h
  obtain rfl := Vals.ref1 r
  obtain ⟨mA, O, _⟩ := ins_get I.hok ha
  obtain ⟨od, J, _⟩ := O.look
  have un := hr.un
  refine Calls.call_function_entry PySem.F.kind_repr PySem.F.plain_repr PySem.F.entry_repr (PySem.F.args_repr1 _) ?_
  unfold Builtin.«repr»
  refine wpAny_bind (m := oneArg "repr" _) (wpAny_pure ?_)
  refine wpAny_bind (m := cRoomFor _ _) (wpAny_cRoomFor (by show X.A.units + 1 < cLine; omega) ?_)
  refine wpAny_bind (wpAny_bind (J.type.here ((PySem.W.looks_findIn I.kIn hs).here ?_)))
  show wpAny _ _ (if (some (Value.ref g)).isNone = true then _ else _) _ _ _
  rw [if_neg (by simp)]
  refine wpAny_bind (m := callSpecialIfBound? (.ref a) (Str.ofString "__repr__")) (PySem.W.ifBound_K I.kIn J hs hf (wpAny_mono (run_ownB F hr.in1 I.env0.in1 hx I (.cons rfl .nil : Vals [V.ref a] [Value.ref a]) q) (fun v s' z => ?_) fun _ _ z => z))
  obtain ⟨y, H', I', ry, z, rfl, q⟩ := z
  obtain ⟨t, rfl⟩ := (show ∃ t, v = Value.str z t from ry)
  refine wpAny_bind (wpAny_isInstance (T := "str") (b := true) rfl isSubtype_str_str ?_)
  exact wpAny_pure ⟨_, rfl, .str z, H', I', ⟨_, rfl⟩, q⟩
theorem call_strO (hs : PySem.W.findIn X.K (.ref C) "__str__" = some (some (.ref g))) (hf : PySem.W.isFn X.K (.ref g) = true) (F : FnR X.prog X.w X.K X.mg X.base CX k g sp) (hr : Room (k + 2) X.A) (hx : Passes CX X E) : CallR X (.type "str") (rTxO C sp E) := by
  intro pins s σ H xs us Q I r h
  obtain ⟨a, dx, fs, rfl, ha, q⟩ := h
  obtain rfl := Vals.ref1 r
  obtain ⟨mA, O, _⟩ := ins_get I.hok ha
  obtain ⟨od, J, _⟩ := O.look
  have un := hr.un
  refine callType_codes (T := "str") (Bi := Builtin.«object.__init__») (Q₁ := fun r s₁ => ∃ y u, r = .str y u ∧ EP X pins σ Q r s₁) PySem.F.called_str (PySem.F.typeCall_str_1 _) PySem.F.entry_object_init ?_ ?_
  · refine codeAny_of_tree ?_
    show wpAny _ X.A.in1.in1 (do checkBuiltinCall "str.__new__" ⟨[.type "str", .ref a], []⟩; again (.builtin "str.__new__" ⟨[.type "str", .ref a], []⟩)) _ _ s
    refine wpAny_bind (wpAny_of_eq (PySem.F.newCall_str_1 _) (wpAny_pure ⟨plainId_quiet (by decide +kernel) _, codeAny_builtin PySem.F.entry_str_new ?_⟩))
    rw [Around.under_plainId (by decide +kernel) _]
    rw [str_new_tree]
    refine wpAny_bind (wpAny_pure ?_)
    refine wpAny_bind (wpAny_of_eq isSubtype_str_str ?_)
    have key : wpAny (model X.prog X.w) X.A.in1.in1 (PySem.Builtin.Str.strOf (.ref a)) (fun r s₁ => ∃ y u, r = .str y u ∧ EP X pins σ Q r s₁) X.xe s := by
      unfold PySem.Builtin.Str.strOf
      rw [show PySem.Builtin.Str.isExactStr (.ref a) = false from rfl]
      refine wpAny_bind (m := cRoomFor _ _) (wpAny_cRoomFor (by show X.A.units + 1 + 1 < cLine; omega) ?_)
      refine wpAny_bind (m := callSpecial? (.ref a) (Str.ofString "__str__")) (PySem.W.special_fn I.kIn J hs (beq_iff_eq.mp hf) (wpAny_mono (run_ownB F hr.in1.in1 I.env0.in1.in1 hx I (.cons rfl .nil : Vals [V.ref a] [Value.ref a]) q) (fun v s' z => ?_) fun _ _ z => z))
      obtain ⟨y, H', I', ry, z, rfl, q⟩ := z
      obtain ⟨t, rfl⟩ := (show ∃ t, v = Value.str z t from ry)
      exact wpAny_pure ⟨_, _, rfl, .str z, H', I', ⟨_, rfl⟩, q⟩
    exact wpAny_bind (wpAny_mono key (fun r s₁ hr => wpAny_pure hr) fun _ _ y => y)
  · rintro obj s₁ ⟨y, u, rfl, hq⟩
    exact ⟨typeIs_str _ _ _, PySem.F.args_object_init_2 _ _, object_init_meets PySem.F.called_str.init.lookup PySem.F.called_str.made (by decide) X.prog X.w X.A.in1 _ s₁ ⟨typeIs_str _ _ _, rfl, hq⟩⟩
/-- the truth of an own instance that has a len and no __bool__ -/
theorem truthyO {B : Around} {pins : List (Addr × Obj)} {σ : L2.St} {H : Hp} {s : Shared} {Q : Bool → Hp → Prop} {a dx : Addr} {fs : List (Str × V)} (hb : PySem.W.findIn X.K (.ref C) "__bool__" = some none) (hs : PySem.W.findIn X.K (.ref C) "__len__" = some (some (.ref g))) (hf : PySem.W.isFn X.K (.ref g) = true) (F : FnR X.prog X.w X.K X.mg X.base CX k g sp) (hr : Room (k + 1) B) (e0 : Env0 X.prog X.w X.K X.mg X.base B X.stack s H) (hx : Passes CX X E)
    (I : Inv X pins σ H s) (ha : H a = some (.ins C dx fs)) (q : sp [.ref a] H (fun v H' => ∃ n : Int, v = .int n ∧ 0 ≤ n ∧ n < 2 ^ 63 ∧ ∃ m : Int, V.int n = .int m ∧ Q (m != 0) H') E) : wpAny (model X.prog X.w) B (truthy (.ref a)) (TP X pins σ Q) X.xe s := by
  obtain ⟨mA, O, _⟩ := ins_get I.hok ha
  obtain ⟨od, J, _⟩ := O.look
  have key : wpAny (model X.prog X.w) B (runValue (.builtin "len" ⟨[.ref a], []⟩)) (fun r s' => ∃ n t, r = .int n t ∧ TP X pins σ Q (n != 0) s') X.xe s := by
    refine wpAny_runValue (codeAny_builtin entry_len ?_)
    rw [Around.under_plainId plain_len _]
    refine wpAny_mono (len_body (B := B.in1) (Q := fun v H' => ∃ m : Int, v = .int m ∧ Q (m != 0) H') hs hf F hr.in1 e0.in1 hx I ha q) (fun fin s' h' => ?_) fun _ _ e => e
    obtain ⟨v, rfl, y, H', I', ry, n, rfl, z⟩ := h'
    obtain ⟨t, rfl⟩ := (show ∃ t, v = Value.int n t from ry)
    exact ⟨n, t, rfl, H', I', z⟩
  have lb := PySem.W.looks_findIn (M := model X.prog X.w) I.kIn hb
  have ll := PySem.W.looks_findIn (M := model X.prog X.w) I.kIn hs
  unfold truthy
  refine wpAny_bind (wpAny_bind (wpAny_bind (J.type.here (lb.here (wpAny_pure ?_)))))
  refine wpAny_bind (wpAny_bind (J.type.here (ll.here ?_)))
  show wpAny _ _ (if (some (Value.ref g)).isNone = true then _ else _) _ _ _
  rw [if_neg (by simp)]
  refine wpAny_bind (wpAny_mono key (fun r s' h' => ?_) fun _ _ e => e)
  obtain ⟨n, t, rfl, z⟩ := h'
  exact wpAny_pure z
def rBoolO (C : Addr) (sp : Sp) (E : XK) : List V → Hp → VK → Prop := fun xs H Q => ∃ a dx fs, xs = [.ref a] ∧ H a = some (.ins C dx fs) ∧ sp [.ref a] H (fun v H' => ∃ n : Int, v = .int n ∧ 0 ≤ n ∧ n < 2 ^ 63 ∧ ∃ m : Int, V.int n = .int m ∧ Q (.bl (m != 0)) H') E
theorem call_boolO (hb : PySem.W.findIn X.K (.ref C) "__bool__" = some none) (hs : PySem.W.findIn X.K (.ref C) "__len__" = some (some (.ref g))) (hf : PySem.W.isFn X.K (.ref g) = true) (F : FnR X.prog X.w X.K X.mg X.base CX k g sp) (hr : Room (k + 3) X.A) (hx : Passes CX X E) : CallR X (.type "bool") (rBoolO C sp E) := by
  intro pins s σ H xs us Q I r h
  obtain ⟨a, dx, fs, rfl, ha, q⟩ := h
  obtain rfl := Vals.ref1 r
  refine callType_codes (T := "bool") (Bi := Builtin.«object.__init__») (Q₁ := fun r s₁ => ∃ y, r = .bool y ∧ EP X pins σ Q r s₁) PySem.F.called_bool (PySem.F.typeCall_bool_1 _) PySem.F.entry_object_init ?_ ?_
  · refine codeAny_of_tree ?_
    show wpAny _ X.A.in1.in1 (do checkBuiltinCall "bool.__new__" ⟨[.type "bool", .ref a], []⟩; again (.builtin "bool.__new__" ⟨[.type "bool", .ref a], []⟩)) _ _ s
    refine wpAny_bind (wpAny_of_eq (PySem.F.newCall_bool_1 _) (wpAny_pure ⟨plainId_quiet (by decide +kernel) _, codeAny_builtin PySem.F.entry_bool_new ?_⟩))
    rw [Around.under_plainId (by decide +kernel) _]
    unfold Builtin.«bool.__new__»
    refine wpAny_bind (m := isType (.type "bool")) (wpAny_pure ?_)
    refine wpAny_bind (wpAny_of_eq PySem.F.conv_sub_bool ?_)
    have key := truthyO (B := X.A.in1.in1) (Q := fun b H' => Q (.bl b) H') hb hs hf F hr.in1.in1 I.env0.in1.in1 hx I ha q
    refine wpAny_bind (m := someArgs "bool" 0 1 _) (wpAny_pure ?_)
    refine wpAny_bind (wpAny_mono key (fun b s' h' => ?_) fun _ _ e => e)
    obtain ⟨H', I', z⟩ := h'
    exact wpAny_pure ⟨b, rfl, .bl b, H', I', rfl, z⟩
  · rintro obj s₁ ⟨y, rfl, hq⟩
    exact ⟨rfl, PySem.F.args_object_init_2 _ _, object_init_meets PySem.F.called_bool.init.lookup PySem.F.called_bool.made (by decide) X.prog X.w X.A.in1 _ s₁ ⟨rfl, rfl, hq⟩⟩
/-- x in own: the own __contains__ -/
def rInO (C : Addr) (sp : Sp) (E : XK) : R2 := fun x y H Q => ∃ a dx fs, y = .ref a ∧ H a = some (.ins C dx fs) ∧ sp [.ref a, x] H (fun v H' => ∃ b : Bool, v = .bl b ∧ Q (.bl b) H') E
theorem op_inO (hs : PySem.W.findIn X.K (.ref C) "__contains__" = some (some (.ref g))) (hf : PySem.W.isFn X.K (.ref g) = true) (F : FnR X.prog X.w X.K X.mg X.base CX k g sp) (hr : Room k X.A) (hx : Passes CX X E) : OpR X (compareOp .In) (rInO C sp E) := by
  intro pins s σ H x y v u Q I rx ry h
  obtain ⟨a, dx, fs, rfl, ha, q⟩ := h
  cases (show u = Value.ref a from ry)
  obtain ⟨mA, O, _⟩ := ins_get I.hok ha
  obtain ⟨od, J, _⟩ := O.look
  have L := PySem.W.looks_findIn (M := model X.prog X.w) I.kIn hs
  have hf' : PySem.W.typeIn X.K (.ref g) = some (.type "function") := beq_iff_eq.mp hf
  unfold compareOp
  dsimp only
  refine wpAny_bind ?_
  unfold contains
  refine wpAny_holding ?_
  refine wpAny_bind (wpAny_bind (J.type.here (L.here ?_)))
  refine wpAny_bind ?_
  unfold callSpecialUnlessNone?
  refine wpAny_bind (wpAny_bind (J.type.here (L.here ?_)))
  refine wpAny_holding (wpAny_bind ((PySem.W.bind_fn I.kIn _ hf').here ?_))
  refine wpAny_bind (wpAny_mono (run_ownB F hr I.env0 hx I (.cons rfl (.cons rx .nil) : Vals [V.ref a, x] [Value.ref a, v]) q) (fun w s' z => wpAny_pure ?_) fun _ _ e => e)
  obtain ⟨y, H', I', ry, b, rfl, z⟩ := z
  cases (show w = Value.bool b from ry)
  exact wpAny_truthy_bool (wpAny_pure ⟨.bl b, H', I', rfl, z⟩)
end
end My
set_option Elab.async false
set_option maxRecDepth 100000
set_option maxHeartbeats 8000000
namespace My
open PySem PySem.Spec PyProof.Rows L2
local macro_rules | `(tactic| walk_at "cond") => `(tactic| first
  | exact Or.inr ⟨by decide, by decide⟩ | exact Or.inl ⟨by decide, by decide⟩ | exact ⟨by decide, by decide, by decide⟩ | exact ⟨by decide, by decide⟩
  | (refine Or.inl ⟨?_, ?_⟩ <;> omega) | (refine Or.inr ⟨?_, ?_⟩ <;> omega)
  | (show (0 : Int) < _; omega))
local macro_rules | `(tactic| walk_at "mem") => `(tactic| first | exact List.Mem.head _ | exact List.Mem.tail _ (List.Mem.head _) | exact Put.head | (refine List.Mem.tail _ ?_; walk_at "mem") | (apply Put.tail; walk_at "mem"))
local macro_rules | `(tactic| walk_at "st") => `(tactic| first
  | with_reducible refine g_seq ?_ | with_reducible refine g_asg ?_ | with_reducible refine g_name ?_ | ((with_reducible show tVar _ _ _ _); refine g_var rfl ?_) | with_reducible refine g_c ?_
  | with_reducible refine g_op ?_ | with_reducible refine g_test ?_ | with_reducible refine g_bl ?_
  | with_reducible refine g_cb ?_ | with_reducible refine g_cons ?_ | with_reducible refine g_nil ?_ | with_reducible refine g_tif ?_ | with_reducible refine g_ifs ?_ | with_reducible refine g_ret ?_
  | with_reducible refine g_drop ?_ | with_reducible refine g_next ?_
  | with_reducible refine g_i0 ?_ | ((with_reducible show rI _ _ _ _ _ _); refine g_i (by walk_at "cond") ?_) | with_reducible refine g_int ?_ | with_reducible refine g_abs ?_ | with_reducible refine g_or ?_
  | with_reducible refine g_and ?_ | with_reducible refine g_not ?_ | with_reducible refine g_lst ?_ | with_reducible refine g_tup ?_
  | with_reducible refine iteT ?_ | with_reducible refine iteF ?_ | with_reducible refine g_par ?_ | with_reducible refine g_two ?_ | with_reducible refine g_sub ?_
  | ((with_reducible show rIxL _ (V.ref _) (V.int _) _ _); refine g_ixM (by assumption) (by walk_at "mem") rfl rfl ?_)
  | ((with_reducible show rSetL (V.ref _) (V.int _) _ _ _); refine g_setM (by assumption) rfl (by walk_at "mem") fun _ _ => ?_)
  | with_reducible refine g_xmk ?_ | with_reducible refine g_xmkK ?_
  | ((with_reducible show XNew _ (spI1 _ _) _ _ _); refine g_x1 (by assumption) fun _ _ _ _ => ?_)
  | ((with_reducible show XNewK _ _ (spI1 _ _) _ _ _ _); refine g_x1k (by assumption) fun _ _ _ _ => ?_)
  | ((with_reducible show XNew _ (spI3 _ _ _ _) _ _ _); refine g_x3 (by assumption) fun _ _ _ _ => ?_)
  | ((with_reducible show tXmk0 _ _ _ _); refine g_xmk0 (by assumption) fun _ _ _ => ?_)
  | ((with_reducible show NewO _ _ _ _); refine g_newo (by assumption) (by first | decide | simp) fun _ _ _ _ => ?_)
  | ((with_reducible show rCat (V.ref _) (V.ref _) _ _); refine g_cat (by assumption) (by walk_at "mem") (by walk_at "mem") (by first | decide | simp) fun _ _ _ _ => ?_))
local macro_rules | `(tactic| walk_at "st") => `(tactic| first | with_reducible refine g_tcall ?_ | with_reducible refine g_tb ?_ | with_reducible refine g_andV ?_ | with_reducible refine g_notV ?_ | with_reducible refine g_chain ?_ | with_reducible refine g_un ?_ | with_reducible refine g_rU ?_)
theorem valV_kv (ps : List (Str × Int)) (s : Str) : (valV (kvOf ps) (Sum.inr s)).isSome = decide (s ∈ ps.map (·.1)) := by
  induction ps with
  | nil => rfl
  | cons p r ih =>
    unfold valV kvOf at ih ⊢
    rw [List.map_cons, List.find?_cons]
    by_cases h : p.1 = s
    · subst h
      simp
    · have e : decide (((Sum.inr p.1 : Key), V.int p.2).1 = Sum.inr s) = false := by
        simp [h]
      rw [e]
      simp only [ih]
      simp [h, Ne.symm h]
section
variable {P : Program} {w : World} {K : PySem.W.Frag} {mg : Str → Option Value} {base : Heap}
/-- load.pairs -/
def spPairsL (K : PySem.W.Frag) (C : Addr) : Sp := fun vs H Q _ => ∃ a ps, vs = [.ref a] ∧ LoadAt C H a ps ∧ ∀ t ts, SqT K H t ts → TupZ H t ts → Paired (PairAt H) ts ps → Q (.ref t) H
theorem scPairsL : FnScope ["self"] ["self"] (defScope s_Load_pairs) := ⟨rfl, rfl, rfl, by decide +kernel, rfl, by decide +kernel, by decide +kernel⟩
theorem ok_pairsL {f C : Addr} {fd : FuncData} (F : Fun K "pairs" "Load.pairs" s_Load_pairs f fd) (c : LoadC K C) : FnOk P w K mg base CX0 1 f fd ["self"] (spPairsL K C) := by
  refine F.ok scPairsL (fun vs H Q E h => ?_) (fun cdv A outer s H vs Q E hr h => ?_)
  · obtain ⟨a, _, rfl, _⟩ := h
    rfl
  · obtain ⟨a, ps, rfl, la, q⟩ := h
    obtain ⟨dx, t, d, ts, e1, tz, pr, e3⟩ := id la
    refine ⟨_, pss_one (ps_ret (pe_fld (pv 0) rfl)), ?_⟩
    refine g_ret (g_fld (g_var rfl ?_))
    exact ⟨a, C, dx, _, _, rfl, e1, c.ic.cl, c.n1, rfl, q t ts tz.seq tz pr⟩
/-- len(load) -/
def spLenL (C : Addr) : Sp := fun vs H Q _ => ∃ a ps, vs = [.ref a] ∧ LoadAt C H a ps ∧ Q (.int ps.length) H
theorem scLenL : FnScope ["self"] ["self"] (defScope s_Load___len__) := ⟨rfl, rfl, rfl, by decide +kernel, rfl, by decide +kernel, by decide +kernel⟩
theorem ok_lenL {f C : Addr} {fd : FuncData} (F : Fun K "__len__" "Load.__len__" s_Load___len__ f fd) (c : LoadC K C) (mL : mg "len" = none) : FnOk P w K mg base CX0 1 f fd ["self"] (spLenL C) := by
  refine F.ok scLenL (fun vs H Q E h => ?_) (fun cdv A outer s H vs Q E hr h => ?_)
  · obtain ⟨a, _, rfl, _⟩ := h
    rfl
  · obtain ⟨a, ps, rfl, la, q⟩ := h
    obtain ⟨dx, t, d, ts, e1, tz, pr, e3⟩ := id la
    refine ⟨_, pss_one (ps_ret (pLen mL (pe_fld (pv 0) rfl))), ?_⟩
    refine g_ret (g_cb (g_cons (g_fld (g_var rfl ?_))))
    refine ⟨a, C, dx, _, _, rfl, e1, c.ic.cl, c.n1, rfl, g_nil (g_lenT tz.seq ?_)⟩
    rw [pr.length]
    exact q
/-- x in load -/
def spInL (K : PySem.W.Frag) (C : Addr) : Sp := fun vs H Q _ => ∃ a ps v r, vs = [.ref a, v] ∧ LoadAt C H a ps ∧ NameK K H v r ∧ ∀ H', Same H H' → Q (.bl (match r with | some s => decide (s ∈ ps.map (·.1)) | none => false)) H'
theorem scInL : FnScope ["self", "x"] ["self", "x"] (defScope s_Load___contains__) := ⟨rfl, rfl, rfl, by decide +kernel, rfl, by decide +kernel, by decide +kernel⟩
theorem name_eq {H : Hp} {v : V} {s : Str} (h : NameK K H v (some s)) : v = .str s := by
  generalize e : some s = r at h
  cases h with
  | @str z hz =>
    by_cases c : nameB z = true
    · rw [if_pos c] at e
      cases e
      rfl
    · rw [if_neg c] at e
      cases e
  | other ty k => cases e
theorem ok_inL {f C : Addr} {fd : FuncData} (F : Fun K "__contains__" "Load.__contains__" s_Load___contains__ f fd) (c : LoadC K C) (C1 : Cal P w K mg base 1 "is_name" ["value"] (spName K)) : FnOk P w K mg base CX0 2 f fd ["self", "x"] (spInL K C) := by
  refine F.ok scInL (fun vs H Q E h => ?_) (fun cdv A outer s H vs Q E hr h => ?_)
  · obtain ⟨a, _, v, _, rfl, _⟩ := h
    rfl
  · obtain ⟨a, ps, v, r, rfl, la, nk, q⟩ := h
    have hu := hu_of (hr.mono (by decide : 0 ≤ 1))
    obtain ⟨dx, t, d, ts, e1, tz, pr, e3⟩ := id la
    refine ⟨_, pss_one (ps_ret (pe_and (pCal C1 hr (pa_cons (pv 1) pa_nil)) (pe_one (pe_cmp (pc_din hu (pv 1) (pe_fld (pv 0) rfl)))))), ?_⟩
    refine g_ret (g_andV (g_tcall (g_cons (g_var rfl (g_nil ?_)))))
    refine name_of nk fun H1 s1 => ⟨_, rfl, ?_⟩
    have q1 := q H1 s1
    cases r with
    | none => exact iteF q1
    | some s =>
      obtain rfl := name_eq nk
      refine iteT (g_din (g_var rfl (g_fld (g_var rfl ?_))))
      refine ⟨a, C, dx, _, _, rfl, s1 _ _ e1, c.ic.cl, c.n2, rfl, d, _, rfl, DGet.k (k := Sum.inr s) (s1 _ _ e3), ?_⟩
      have z := valV_kv ps s
      unfold kvOf at z
      rw [z]
      exact q1
end
end My
set_option Elab.async false
set_option maxRecDepth 100000
set_option maxHeartbeats 8000000
namespace My
open PySem PySem.Spec PyProof.Rows L2
/-! ### repr of plain data -/
section
variable {X : Cx}
theorem call_reprD (gd : X.A.guards = some []) (hu : X.A.units + 16 < cLine) : CallR X (.builtin "repr") (fun xs H Q => ∃ (a : Addr) (d : PyData), xs = [.ref a] ∧ Dp X.K H (.ref a) d ∧ d.showable = true ∧ d.hasDict = false ∧ d.depth ≤ 8 ∧ d.shown.length ≤ sizeLine ∧ Q (.str d.shown) H) := by
  intro pins s σ H xs us Q I r h
  obtain ⟨a, d, rfl, dp, h1, h2, h3, h4, q⟩ := h
  obtain rfl := Vals.ref1 r
  obtain ⟨as, rd⟩ := Dp.reads I d (.ref a) (.ref a) dp rfl
  refine repr_of_reads' rd h1 (fun z => by rw [h2] at z; cases z) gd (by omega) (fun _ _ e => e) (fun h' u tk hk => ?_) h4
  exact ⟨.str d.shown, H, I.kept (t' := tk) hk, ⟨_, rfl⟩, q⟩
end
end My
set_option Elab.async false
set_option maxRecDepth 100000
set_option maxHeartbeats 8000000
namespace My
open PySem PySem.Spec PyProof.Rows L2
local macro_rules | `(tactic| walk_at "cond") => `(tactic| first
  | exact Or.inr ⟨by decide, by decide⟩ | exact Or.inl ⟨by decide, by decide⟩ | exact ⟨by decide, by decide, by decide⟩ | exact ⟨by decide, by decide⟩
  | (refine Or.inl ⟨?_, ?_⟩ <;> omega) | (refine Or.inr ⟨?_, ?_⟩ <;> omega)
  | (show (0 : Int) < _; omega))
local macro_rules | `(tactic| walk_at "mem") => `(tactic| first | exact List.Mem.head _ | exact List.Mem.tail _ (List.Mem.head _) | exact Put.head | (refine List.Mem.tail _ ?_; walk_at "mem") | (apply Put.tail; walk_at "mem"))
local macro_rules | `(tactic| walk_at "st") => `(tactic| first
  | with_reducible refine g_seq ?_ | with_reducible refine g_asg ?_ | with_reducible refine g_name ?_ | ((with_reducible show tVar _ _ _ _); refine g_var rfl ?_) | with_reducible refine g_c ?_
  | with_reducible refine g_op ?_ | with_reducible refine g_test ?_ | with_reducible refine g_bl ?_
  | with_reducible refine g_cb ?_ | with_reducible refine g_cons ?_ | with_reducible refine g_nil ?_ | with_reducible refine g_tif ?_ | with_reducible refine g_ifs ?_ | with_reducible refine g_ret ?_
  | with_reducible refine g_drop ?_ | with_reducible refine g_next ?_
  | with_reducible refine g_i0 ?_ | ((with_reducible show rI _ _ _ _ _ _); refine g_i (by walk_at "cond") ?_) | with_reducible refine g_int ?_ | with_reducible refine g_abs ?_ | with_reducible refine g_or ?_
  | with_reducible refine g_and ?_ | with_reducible refine g_not ?_ | with_reducible refine g_lst ?_ | with_reducible refine g_tup ?_
  | with_reducible refine iteT ?_ | with_reducible refine iteF ?_ | with_reducible refine g_par ?_ | with_reducible refine g_two ?_ | with_reducible refine g_sub ?_
  | ((with_reducible show rIxL _ (V.ref _) (V.int _) _ _); refine g_ixM (by assumption) (by walk_at "mem") rfl rfl ?_)
  | ((with_reducible show rSetL (V.ref _) (V.int _) _ _ _); refine g_setM (by assumption) rfl (by walk_at "mem") fun _ _ => ?_)
  | with_reducible refine g_xmk ?_ | with_reducible refine g_xmkK ?_
  | ((with_reducible show XNew _ (spI1 _ _) _ _ _); refine g_x1 (by assumption) fun _ _ _ _ => ?_)
  | ((with_reducible show XNewK _ _ (spI1 _ _) _ _ _ _); refine g_x1k (by assumption) fun _ _ _ _ => ?_)
  | ((with_reducible show XNew _ (spI3 _ _ _ _) _ _ _); refine g_x3 (by assumption) fun _ _ _ _ => ?_)
  | ((with_reducible show tXmk0 _ _ _ _); refine g_xmk0 (by assumption) fun _ _ _ => ?_)
  | ((with_reducible show NewO _ _ _ _); refine g_newo (by assumption) (by first | decide | simp) fun _ _ _ _ => ?_)
  | ((with_reducible show rCat (V.ref _) (V.ref _) _ _); refine g_cat (by assumption) (by walk_at "mem") (by walk_at "mem") (by first | decide | simp) fun _ _ _ _ => ?_))
local macro_rules | `(tactic| walk_at "st") => `(tactic| first | with_reducible refine g_tcall ?_ | with_reducible refine g_tb ?_ | with_reducible refine g_andV ?_ | with_reducible refine g_notV ?_ | with_reducible refine g_chain ?_ | with_reducible refine g_un ?_ | with_reducible refine g_rU ?_)
theorem cut_first (x : V) (xs : List V) : cutV (x :: xs) none (some 1) = [x] := by
  unfold cutV
  rw [HT.sIx_none, show (some (1 : Int)) = some ((1 : Nat) : Int) from rfl, HT.sIx_nat]
  simp
/-- what kinds that are none look like, and where they are wrong -/
def BadS (K : PySem.W.Frag) (H : Hp) (bad : V) (i : Option Nat) (n : Nat) : Prop :=
  (∃ ty, TyX K H bad ty ∧ PySem.W.kitOne K ty (.type "tuple") = some false ∧ i = none) ∨ (∃ b, bad = .ref b ∧ SqT K H b [] ∧ i = none) ∨
  (∃ b s r, bad = .ref b ∧ SqT K H b (V.str s :: r) ∧ (∀ x ∈ V.str s :: r, isS x = true) ∧ i = if s = "A" then some 0 else some n)
theorem isS_names {ks : List Str} (h : ∀ k ∈ ks, nameB k = true) : ∀ x ∈ ks.map V.str, isS x = true := fun x hx => by
  obtain ⟨k, hk, rfl⟩ := List.mem_map.mp hx
  exact name_strOk (h k hk)
theorem g_mkR2 {C : Addr} {sp : Sp} {E : XK} {t : TA} {σ : L2.St} {H : Hp} {Q : VK} (h : t σ H fun vs H1 => ∀ (x dx : Addr), H1 x = none → H1 dx = none → dx ≠ x → sp (V.ref x :: vs) (upd (upd H1 dx (HO.own x)) x (HO.ins C dx [])) (fun v H2 => v = V.non ∧ Q (V.ref x) H2) E) : StX.tMakeR C sp E t σ H Q := h
theorem g_callK {sp : Sp} {gV : List V → List V → List V} {E : XK} {t tk : TA} {σ : L2.St} {H : Hp} {Q : VK} (h : t σ H fun vs H1 => tk σ H1 fun zs H2 => sp (gV vs zs) H2 Q E) : tCallK sp gV E t tk σ H Q := h
theorem made_ofR {K : PySem.W.Frag} {C CP : Addr} {rs : List (Option (Str × Int))} {H : Hp} {R : Addr → Hp → Prop} {E : XK} {xs : List V} (pr : Paired (PairK K H) xs rs) (hl : xs.length ≤ 1000) (h : Made K C CP rs H (fun v H' => match v with | .ref x => R x H' | _ => False) E) :
    ∀ x dx, H x = Option.none → H dx = Option.none → dx ≠ x → spStar1 (spInitX K C CP) (V.ref x :: xs) (upd (upd H dx (.own x)) x (.ins C dx [])) (fun v H2 => v = .non ∧ R x H2) E :=
  fun x dx a b c => made_of (Q := fun v H' => match v with | .ref x => R x H' | _ => False) pr hl h x dx a b c
theorem loadNo_ext {K : PySem.W.Frag} {C : Addr} {H H' : Hp} {v : V} (h : LoadK K C H v none) (e : LamX.ExtN H H') : LoadK K C H' v none := by
  cases h with
  | no ty k => exact .no (ty_ext ty e) k
theorem VOk.ix (i : Option Nat) : VOk (ixV i) := by
  cases i <;> exact .inl rfl
section
variable {P : Program} {w : World} {K : PySem.W.Frag} {mg : Str → Option Value} {base : Heap}
end
end My
set_option Elab.async false
set_option maxRecDepth 100000
set_option maxHeartbeats 8000000
namespace My
open PySem PySem.Spec PyProof.Rows L2
section
variable {X : Cx} {CX : CXT} {k : Nat} {f : Addr} {fd : FuncData} {ps ks : List Str} {sp : Sp} {E : XK} {x : Str} {p pos : Pos} {kws : List Keyword} {tk : TA} {g : List Value → List Value → List Value} {gV : List V → List V → List V}
/-- a call with keywords alone -/
theorem pe_callK0 (F : FnOk X.prog X.w X.K X.mg X.base CX k f fd ps sp) (hr : Room k X.A) (hg : Gl X x) (hm : X.mg x = some (.ref f)) (hk : PySem.W.keepIn X.K (.ref f) = true) (hb : KBinds X.K fd ps ks g gV) (hx : Passes CX X E) (hkw : PK X kws tk)
    (hall : (backToKw pos (keywordEach kws X.env)).all (·.1.isSome) = true := by rfl) (hks : (backToKw pos (keywordEach kws X.env)).filterMap (·.1) = ks := by rfl) (hdb : (x == ("__debug__" : Str)) = false := by decide)
    (hpl : ((backTo pos (starEach [] X.env)).any (·.1) || (backToKw pos (keywordEach kws X.env)).any (·.1.isNone)) = false := by rfl) :
    PE X (.Call (.Name x p) [] kws pos) (tCallK sp gV E tNil tk) := by
  refine ⟨fun pins s σ H Q I h => ?_⟩
  refine wpAny_Call_Name_kw (ld_glob I hg hm ?_ hdb)
  refine PySem.W.callWith_KW0 (h₀ := X.base) I.ok.mod.kin hk hall ?_ hpl
  have h' : tk σ H fun zs H2 => sp (gV [] zs) H2 Q E := h
  refine thn (hkw.run pos pins s σ H _ I h') fun ws s1 ⟨zs, H1, I1, r, q⟩ => ⟨I1.kIn, ?_⟩
  have rr := hb.rel (.nil : Vals [] []) r
  have hl : (g [] ws).length = ps.length := by
    rw [← rr.length]
    exact F.len _ _ _ _ q
  have bd := hb.to s1 [] ws I1.kIn hl
  rw [hks]
  refine wpAny_call (codeAny_mono (F.run X.A X.stack s1 H1 ⟨[], ks.zip ws⟩ (g [] ws) (gV [] zs) Q E hr I1.env0 bd rr q) fun r s' hq => ?_)
  cases r with
  | error er => exact hx pins σ _ _ er s' I1 hq
  | ok fl =>
    cases fl with
    | ret u => exact I1.after hq
    | next => exact False.elim hq
    | brk => exact False.elim hq
    | cont => exact False.elim hq
end
end My
set_option Elab.async false
set_option maxRecDepth 100000
set_option maxHeartbeats 8000000
namespace My
open PySem PySem.Spec PyProof.Rows L2
/-! ### C.m(x=e), m a staticmethod -/
section
variable {X : Cx} {CX : CXT} {k : Nat} {C p g : Addr} {mc : Value} {fd : FuncData} {ps ks : List Str} {sp : Sp} {E : XK} {o : Expr} {m : Str} {pos apos : Pos} {ta : TE} {tk : TA} {pl : Sem Bool} {kws : List Keyword} {gg : List Value → List Value → List Value} {gV : List V → List V → List V}
def tSMethK (C : Addr) (sp : Sp) (gV : List V → List V → List V) (E : XK) (ta : TE) (tk : TA) : TE := fun σ H Q => ta σ H fun x H1 => x = .ref C ∧ tk σ H1 fun zs H2 => sp (gV [] zs) H2 Q E
theorem pe_smethK (he : PE X o ta) (c : SMet X.K C mc m p g) (F : FnOk X.prog X.w X.K X.mg X.base CX k g fd ps sp) (hr : Room k X.A) (hb : KBinds X.K fd ps ks gg gV) (hx : Passes CX X E) (hkw : PK X kws tk)
    (hall : (backToKw pos (keywordEach kws X.env)).all (·.1.isSome) = true := by rfl) (hks : (backToKw pos (keywordEach kws X.env)).filterMap (·.1) = ks := by rfl)
    (hpl : ((backTo pos (starEach [] X.env)).any (·.1) || (backToKw pos (keywordEach kws X.env)).any (·.1.isNone)) = false := by rfl)
    (ht : eval (.Call (.Attribute o m apos) [] kws pos) X.env = (do
      let ov ← eval o X.env
      standAt apos.atName
      let (f, first) ← holding [ov] (getMethod ov m pl)
      callWith pos f first (backTo pos (starEach [] X.env)) (backToKw pos (keywordEach kws X.env))) := by rfl) :
    PE X (.Call (.Attribute o m apos) [] kws pos) (tSMethK C sp gV E ta tk) := by
  refine ⟨fun pins s σ H Q I h => ?_⟩
  refine PySem.W.methodCall_KW (pl := pl) (thn (he.run pins s σ H _ I h) fun u s1 ⟨x, H1, I1, rx, ex, q⟩ => ?_) ht
  subst ex
  obtain rfl : u = Value.ref C := rx
  obtain ⟨rest, hp⟩ := c.rc
  refine PySem.W.method_cls I1.kIn c.ga (PySem.W.cls_bind I1.kIn c.rd c.at_ (wpAny_call (PySem.W.sm_get (s := { s1 with toks := s1.toks + 1 }) I1.kIn hp (PySem.W.handed_on rfl ?_))))
  have I2 := I1.tok (s1.toks + 1)
  refine PySem.W.callWith_KW0 (h₀ := X.base) I2.ok.mod.kin c.kp hall ?_ hpl
  refine thn (hkw.run pos pins _ σ H1 _ I2 q) fun ws s3 ⟨zs, H3, I3, r, q3⟩ => ⟨I3.kIn, ?_⟩
  have rr := hb.rel (.nil : Vals [] []) r
  have hl : (gg [] ws).length = ps.length := by
    rw [← rr.length]
    exact F.len _ _ _ _ q3
  have bd := hb.to s3 [] ws I3.kIn hl
  rw [hks]
  refine wpAny_call (codeAny_mono (F.run X.A X.stack s3 H3 ⟨[], ks.zip ws⟩ (gg [] ws) (gV [] zs) Q E hr I3.env0 bd rr q3) fun r s' hq => ?_)
  cases r with
  | error er => exact hx pins σ _ _ er s' I3 hq
  | ok fl =>
    cases fl with
    | ret u => exact I3.after hq
    | next => exact False.elim hq
    | brk => exact False.elim hq
    | cont => exact False.elim hq
end
end My
set_option Elab.async false
set_option linter.all false
set_option maxRecDepth 100000
/-! != of lists, where == tells that the items are equal -/
namespace NeG
open PySem PySem.SeqAt
open AutoSeq1 (wpAny_loadPart')
open MeetsSeq MeetsSeq2 MeetsSeq3 SeqRoads2
section
variable {prog : Program} {w : World} {A : Around} {R : Result → Shared → Prop}
theorem ne_loopG (l b : Addr) (N : Nat) (I : Nat → Shared → Prop) (hl : GQ.ListI prog w A (fun e s' => R (.error e) s') l b N I)
    (fin : ∀ s, I N s → R (.ok (.ret (.bool false))) s) (k : Nat) :
    ∀ i : Nat, N - i = k → i ≤ N → ∀ s, I i s →
      wpAny (model prog w) A.in1 (Builtin.«list.__eq__.loop» ⟨[.ref l, .ref b, rawInt i, rawInt 3], []⟩) (GQ.FinOf prog w A R) (fun e s' => R (.error e) s') s := by
  induction k with
  | zero =>
    intro i hk hi s h
    obtain ⟨items, items2, n, n2, hl1, hb1, hs1, hs2, _⟩ := hl _ _ h
    have hi' : i = N := by omega
    have hR : R (.ok (.ret (.bool false))) s := fin s (hi' ▸ h)
    obtain ⟨hp, g, d, tk, os⟩ := s
    wp_walk using wpAny_loadPart' hl1, wpAny_loadPart' hb1
    have hi1 : items[((i : Nat) : Int).toNat]? = none := by simp; omega
    have hi2 : items2[((i : Nat) : Int).toNat]? = none := by simp; omega
    rw [hi1, hi2]
    wp_walk using wpAny_loadPart' hl1, wpAny_loadPart' hb1
    show R (.ok (.ret (.bool (items.size != items2.size)))) _
    rw [hs1, hs2]
    simpa using hR
  | succ k ih =>
    intro i hk hi s h
    obtain ⟨items, items2, n, n2, hl1, hb1, hs1, hs2, turn⟩ := hl _ _ h
    have hlt : i < items.size := by omega
    have hlt2 : i < items2.size := by omega
    have ht := turn hlt hlt2
    obtain ⟨hp, g, d, tk, os⟩ := s
    wp_walk using wpAny_loadPart' hl1, wpAny_loadPart' hb1
    have hi1 : items[((i : Nat) : Int).toNat]? = some items[i] := by simp [hlt]
    have hi2 : items2[((i : Nat) : Int).toNat]? = some items2[i] := by simp [hlt2]
    have hc : ((i : Int) + 1) = ((i + 1 : Nat) : Int) := by omega
    rw [hi1, hi2]
    refine wpAny_bind (wpAny_mono ht (fun r s2 h2 => ?_) fun _ _ x => x)
    obtain ⟨hr, h2⟩ := h2
    subst hr
    have hrec := ih (i + 1) (by omega) (by omega) s2 h2
    obtain ⟨hp2, g2, d2, tk2, os2⟩ := s2
    wp_walk
    rw [hc]
    exact ⟨plainId_quiet plain_eq_loop _, codeAny_builtin entry_eq_loop (by
      rw [Around.under_plainId plain_eq_loop _]
      exact hrec)⟩
theorem list_neG (l b : Addr) (N : Nat) (I : Nat → Shared → Prop) (hl : GQ.ListI prog w A (fun e s' => R (.error e) s') l b N I)
    (fin : ∀ s, I N s → R (.ok (.ret (.bool false))) s) {s : Shared} (h : I 0 s) :
    wpAny (model prog w) A.in1 (Builtin.«list.__ne__» ⟨[.ref l, .ref b], []⟩) (GQ.FinOf prog w A R) (fun e s' => R (.error e) s') s := by
  obtain ⟨items, items2, n, n2, hl1, hb1, hs1, hs2, _⟩ := hl _ _ h
  have hrec := ne_loopG (A := A) (R := R) l b N I hl fin _ 0 rfl (Nat.zero_le _) s h
  obtain ⟨hp, g, d, tk, os⟩ := s
  have f3 := AutoSeq1.sub_list_list
  have hne : ¬ (items.size != items2.size) = true := by simp [hs1, hs2]
  wp_walk using wpAny_loadPart' hl1, wpAny_loadPart' hb1
  exact ⟨plainId_quiet plain_eq_loop _, codeAny_builtin entry_eq_loop (by
    rw [Around.under_plainId plain_eq_loop _]
    exact hrec)⟩
end
section
variable {prog : Program} {w : World} {A : Around} {E : Value → Shared → Prop} {s : Shared}
theorem rc_listNe {l b : Addr} {N : Nat} {Q : Value → Shared → Prop} (hu : A.units < cLine) (I : Nat → Shared → Prop) (hl : GQ.ListI prog w A E l b N I)
    (fin : ∀ s, I N s → Q (.bool false) s) (h : I 0 s) : wpAny (model prog w) A (richCompare .NotEq (.ref l) (.ref b)) Q E s := by
  obtain ⟨items, items2, n, n2, hl1, hb1, _, _, _⟩ := hl _ _ h
  refine wpAny_richCompare_same_room (op := .NotEq) ⟨_, hl1, rfl⟩ ⟨_, hb1, rfl⟩ PySem.F.slot_list_ne (GQ.call_here PySem.F.slot_list_ne ⟨_, hl1, rfl⟩ PySem.F.entry_list_ne (PySem.F.args_list_ne_2 _ _) ?_) hu
  exact list_neG (R := wants (fun v s' => v ≠ .notImplemented ∧ Q v s') E) l b N I hl (fun s' q => ⟨(fun x => nomatch x), fin s' q⟩) h
end
end NeG
set_option Elab.async false
set_option maxRecDepth 100000
set_option maxHeartbeats 8000000
namespace My
open PySem PySem.Spec PyProof.Rows L2
open TL
/-! ### what a load shows, as data -/
def pd (p : Str × Int) : PyData := .tuple [.str p.1, .int p.2]
def shownD (rs : List (Str × Int)) : PyData :=
  .list [.tuple (rs.map pd), .tuple ((rs.map (·.1)).map PyData.str), .int (sumP rs), .int (rs.length : Int), .str (pairsTx rs), .str (loadText rs), .bool ((rs.length : Int) != 0)]
theorem int_len64 {n : Int} (h0 : 0 ≤ n) (h1 : n < 10 ^ 64) : (Str.ofString (toString n)).length ≤ 64 := by
  obtain ⟨m, rfl⟩ := Int.eq_ofNat_of_zero_le h0
  have e : tl (Str.ofString (toString ((m : Nat) : Int))) = numL m := tl_num m
  have z := numL_len (n := m) (k := 64) (by decide) (by
    have : ((10 ^ 64 : Nat) : Int) = (10 : Int) ^ 64 := by decide +kernel
    omega)
  rw [len_tl, e]
  exact z
theorem int_low {n : Int} (h0 : 0 ≤ n) : ∀ c ∈ tl (Str.ofString (toString n)), c < 16 ^ 8 := by
  obtain ⟨m, rfl⟩ := Int.eq_ofNat_of_zero_le h0
  have e : tl (Str.ofString (toString ((m : Nat) : Int))) = numL m := tl_num m
  intro c hc
  rw [e] at hc
  have := numL_digits m c hc
  omega
theorem name_low {s : Str} (h : nameB s = true) : ∀ c ∈ tl s, c < 16 ^ 8 := by
  intro c hc
  unfold nameB at h
  simp only [Bool.and_eq_true] at h
  have m := of_decide_eq_true (List.all_eq_true.mp h.2.2.2 c hc)
  have e : ("abcdefghijklmnopqrstuvwxyz0123456789" : Str).cps.toList.all (fun c => decide (c < 16 ^ 8)) = true := by decide +kernel
  exact of_decide_eq_true (List.all_eq_true.mp e c m)
theorem join_low (S : List Nat) : ∀ {ps : List (List Nat)} {c : Nat}, c ∈ joinL S ps → c ∈ S ∨ ∃ p ∈ ps, c ∈ p
  | [], _, h => nomatch h
  | [p], c, h => .inr ⟨p, List.mem_cons_self, h⟩
  | p :: q :: r, c, h => by
    have h' : c ∈ p ++ (S ++ joinL S (q :: r)) := h
    rcases List.mem_append.mp h' with h1 | h1
    · exact .inr ⟨p, List.mem_cons_self, h1⟩
    · rcases List.mem_append.mp h1 with h2 | h2
      · exact .inl h2
      · rcases join_low S h2 with h3 | ⟨x, hx, h3⟩
        · exact .inl h3
        · exact .inr ⟨x, List.mem_cons_of_mem _ hx, h3⟩
theorem tx_low {p : Str × Int} (h : nameB p.1 = true) (h0 : 0 ≤ p.2) : ∀ c ∈ tl (pairTx p), c < 16 ^ 8 := by
  obtain ⟨n, hn⟩ := Int.eq_ofNat_of_zero_le h0
  intro c hc
  rw [pairTx_tl hn] at hc
  rcases List.mem_append.mp hc with h1 | h1
  · have := numL_digits n c h1
    omega
  · rcases List.mem_append.mp h1 with h2 | h2
    · have : c = 32 := by simpa using h2
      omega
    · exact name_low h c h2
theorem line_low {rs : List (Str × Int)} (g : GoodP rs) : ∀ c ∈ tl (pairsTx rs), c < 16 ^ 8 := by
  intro c hc
  unfold pairsTx at hc
  rw [join_eq, tl_join] at hc
  rcases join_low _ hc with h | ⟨p, hp, h⟩
  · have e : (tl (", " : Str)).all (fun c => decide (c < 16 ^ 8)) = true := by decide +kernel
    exact of_decide_eq_true (List.all_eq_true.mp e c h)
  · obtain ⟨y, hy, rfl⟩ := List.mem_map.mp hp
    obtain ⟨q, hq, rfl⟩ := List.mem_map.mp hy
    exact tx_low (g.name q hq) (by have := g.count q hq; omega) c h
theorem pairTx_len2 {p : Str × Int} (h : p.1.length ≤ 8 ∧ 0 ≤ p.2 ∧ p.2 < 10 ^ 64) : (pairTx p).length ≤ 73 := by
  have t := int_len64 h.2.1 h.2.2
  have c0 : Str.empty.length = 0 := rfl
  have c1 : (" " : Str).length = 1 := rfl
  unfold pairTx
  simp only [strLen_append]
  omega
theorem line_len {rs : List (Str × Int)} (s : SmallP rs) : (pairsTx rs).length ≤ rs.length * 75 := by
  have z := sumLen_le (l := rs.map pairTx) (k := 73) fun y hy => by
    obtain ⟨r, hr, rfl⟩ := List.mem_map.mp hy
    exact pairTx_len2 (s r hr)
  have y : (Str.join ", " (rs.map pairTx)).length ≤ ((rs.map pairTx).map (·.length)).sum + (rs.map pairTx).length * 2 := StrLaws.join_length_le ", " (rs.map pairTx)
  unfold pairsTx
  rw [join_eq]
  rw [List.length_map] at z y
  omega
theorem text_low {rs : List (Str × Int)} (h0 : 0 ≤ sumP rs) : ∀ c ∈ tl (loadText rs), c < 16 ^ 8 := by
  intro c hc
  unfold loadText at hc
  simp only [tl_append, List.mem_append] at hc
  have lit : ∀ z : Str, (tl z).all (fun c => decide (c < 16 ^ 8)) = true → c ∈ tl z → c < 16 ^ 8 := fun z e h => of_decide_eq_true (List.all_eq_true.mp e c h)
  rcases hc with ((((h | h) | h) | h) | h) | h
  · exact lit Str.empty (by decide +kernel) h
  · exact lit _ (by decide +kernel) h
  · exact int_low (by omega) c h
  · exact lit _ (by decide +kernel) h
  · exact int_low h0 c h
  · exact lit _ (by decide +kernel) h
theorem text_len {rs : List (Str × Int)} (h0 : 0 ≤ sumP rs) (h1 : sumP rs < 10 ^ 64) (few : rs.length ≤ 1000) : (loadText rs).length ≤ 150 := by
  have a := int_len64 h0 h1
  have b := int_len64 (n := (rs.length : Int)) (by omega) (by
    have : (1000 : Int) < 10 ^ 64 := by decide +kernel
    omega)
  have c0 : Str.empty.length = 0 := rfl
  have c1 : ("Load(" : Str).length = 5 := rfl
  have c2 : (" names, size " : Str).length = 13 := rfl
  have c3 : (")" : Str).length = 1 := rfl
  unfold loadText
  simp only [strLen_append]
  omega
theorem pds_show {rs : List (Str × Int)} (s : SmallP rs) : PyData.showableAll (rs.map pd) = true ∧ PyData.hasDictAll (rs.map pd) = false ∧ PyData.depthAll (rs.map pd) ≤ 1 := by
  induction rs with
  | nil => exact ⟨rfl, rfl, Nat.zero_le _⟩
  | cons p r ih =>
    obtain ⟨h1, h2, h3⟩ := ih fun q hq => s q (List.mem_cons_of_mem _ hq)
    obtain ⟨_, b, c⟩ := s p List.mem_cons_self
    have lg := log_small b c
    refine ⟨?_, ?_, ?_⟩
    · show (PyData.showable (pd p) && PyData.showableAll (r.map pd)) = true
      rw [h1]
      simp [pd, PyData.showable, PyData.showableAll, lg]
    · show (PyData.hasDict (pd p) || PyData.hasDictAll (r.map pd)) = false
      rw [h2]
      simp [pd, PyData.hasDict, PyData.hasDictAll]
    · show max (PyData.depth (pd p)) (PyData.depthAll (r.map pd)) ≤ 1
      have : PyData.depth (pd p) = 1 := by simp [pd, PyData.depth, PyData.depthAll]
      omega
theorem nms_show (ns : List Str) : PyData.showableAll (ns.map PyData.str) = true ∧ PyData.hasDictAll (ns.map PyData.str) = false ∧ PyData.depthAll (ns.map PyData.str) = 0 := by
  induction ns with
  | nil => exact ⟨rfl, rfl, rfl⟩
  | cons p r ih =>
    obtain ⟨h1, h2, h3⟩ := ih
    refine ⟨?_, ?_, ?_⟩
    · show (PyData.showable (.str p) && PyData.showableAll (r.map PyData.str)) = true
      rw [h1]
      rfl
    · show (PyData.hasDict (.str p) || PyData.hasDictAll (r.map PyData.str)) = false
      rw [h2]
      rfl
    · show max (PyData.depth (.str p)) (PyData.depthAll (r.map PyData.str)) = 0
      rw [h3]
      rfl
theorem pds_len {rs : List (Str × Int)} (s : SmallP rs) (nb : ∀ p ∈ rs, nameB p.1 = true) : PyData.leavesShortAll 100 (rs.map pd) = true ∧ PyData.bulkAll (rs.map pd) ≤ rs.length * 11 := by
  induction rs with
  | nil => exact ⟨rfl, Nat.le_refl _⟩
  | cons p r ih =>
    obtain ⟨h1, h2⟩ := ih (fun q hq => s q (List.mem_cons_of_mem _ hq)) fun q hq => nb q (List.mem_cons_of_mem _ hq)
    obtain ⟨a, b, c⟩ := s p List.mem_cons_self
    have l1 : (PyData.shown (.int p.2)).length ≤ 100 := Nat.le_trans (int_len64 b c) (by decide)
    have l2 : p.1.cps.toList.all (fun c => decide (c < 16 ^ 8)) = true := List.all_eq_true.mpr fun c hc => decide_eq_true (name_low (nb p List.mem_cons_self) c hc)
    refine ⟨?_, ?_⟩
    · show (PyData.leavesShort 100 (pd p) && PyData.leavesShortAll 100 (r.map pd)) = true
      rw [h1, Bool.and_true]
      unfold pd
      simp only [PyData.leavesShort, PyData.leavesShortAll, l2, decide_eq_true l1, Bool.and_self]
    · show PyData.bulk (pd p) + 1 + PyData.bulkAll (r.map pd) ≤ (r.length + 1) * 11
      have : PyData.bulk (pd p) = p.1.cps.size + 2 := by simp [pd, PyData.bulk, PyData.bulkAll]
      have z : p.1.cps.size ≤ 8 := a
      omega
theorem nms_len {ns : List Str} (nb : ∀ n ∈ ns, nameB n = true) : PyData.leavesShortAll 100 (ns.map PyData.str) = true ∧ PyData.bulkAll (ns.map PyData.str) ≤ ns.length * 9 := by
  induction ns with
  | nil => exact ⟨rfl, Nat.le_refl _⟩
  | cons p r ih =>
    obtain ⟨h1, h2⟩ := ih fun q hq => nb q (List.mem_cons_of_mem _ hq)
    have l2 : p.cps.toList.all (fun c => decide (c < 16 ^ 8)) = true := List.all_eq_true.mpr fun c hc => decide_eq_true (name_low (nb p List.mem_cons_self) c hc)
    have a : p.length ≤ 8 := by
      have h := nb p List.mem_cons_self
      unfold nameB at h
      simp only [Bool.and_eq_true, decide_eq_true_eq] at h
      exact h.2.1
    refine ⟨?_, ?_⟩
    · show (PyData.leavesShort 100 (.str p) && PyData.leavesShortAll 100 (r.map PyData.str)) = true
      rw [h1, Bool.and_true]
      simp only [PyData.leavesShort, l2]
    · show PyData.bulk (.str p) + 1 + PyData.bulkAll (r.map PyData.str) ≤ (r.length + 1) * 9
      have : PyData.bulk (.str p) = p.cps.size := by simp [PyData.bulk]
      have z : p.cps.size ≤ 8 := a
      omega
/-- all that repr asks of what a load shows -/
theorem shown_ok {rs : List (Str × Int)} (g : GoodP rs) (s : SmallP rs) (few : rs.length ≤ 100) (z0 : 0 ≤ sumP rs) (z1 : sumP rs < 10 ^ 64) : (shownD rs).showable = true ∧ (shownD rs).hasDict = false ∧ (shownD rs).depth ≤ 8 ∧ (shownD rs).shown.length ≤ sizeLine := by
  obtain ⟨a1, a2, a3⟩ := pds_show s
  obtain ⟨b1, b2, b3⟩ := nms_show (rs.map (·.1))
  obtain ⟨c1, c2⟩ := pds_len s g.name
  obtain ⟨e1, e2⟩ := nms_len (ns := rs.map (·.1)) fun n hn => by
    obtain ⟨p, hp, rfl⟩ := List.mem_map.mp hn
    exact g.name p hp
  rw [List.length_map] at e2
  have k1000 : (1000 : Int) < 10 ^ 64 := by decide +kernel
  have lgs := log_small z0 z1
  have lgl := log_small (n := (rs.length : Int)) (by omega) (by omega)
  have m1 := int_len64 z0 z1
  have m2 := int_len64 (n := (rs.length : Int)) (by omega) (by omega)
  have ll := line_len s
  have tt := text_len z0 z1 (by omega : rs.length ≤ 1000)
  have lo1 : (pairsTx rs).cps.toList.all (fun c => decide (c < 16 ^ 8)) = true := List.all_eq_true.mpr fun c hc => decide_eq_true (line_low g c hc)
  have lo2 : (loadText rs).cps.toList.all (fun c => decide (c < 16 ^ 8)) = true := List.all_eq_true.mpr fun c hc => decide_eq_true (text_low z0 c hc)
  have i1 : (PyData.shown (.int (sumP rs))).length ≤ 100 := Nat.le_trans m1 (by decide)
  have i2 : (PyData.shown (.int (rs.length : Int))).length ≤ 100 := Nat.le_trans m2 (by decide)
  refine ⟨?_, ?_, ?_, ?_⟩
  · simp [shownD, PyData.showable, PyData.showableAll, a1, lgs]
    exact ⟨by simpa using b1, by simpa using lgl⟩
  · simp [shownD, PyData.hasDict, PyData.hasDictAll, a2]
    simpa using b2
  · have e : (shownD rs).depth = max (PyData.depthAll (rs.map pd) + 1) (PyData.depthAll ((rs.map (·.1)).map PyData.str) + 1) + 1 := by
      simp [shownD, PyData.depth, PyData.depthAll]
    rw [e, b3]
    omega
  · have ls : (shownD rs).leavesShort 100 = true := by
      unfold shownD
      simp only [PyData.leavesShort, PyData.leavesShortAll, c1, e1, lo1, lo2, decide_eq_true i1, decide_eq_true i2, Bool.and_self]
    have bd := PyData.shown_le_bulk 100 (by decide) (shownD rs) ls
    have be : (shownD rs).bulk = PyData.bulkAll (rs.map pd) + 1 + (PyData.bulkAll ((rs.map (·.1)).map PyData.str) + 1 + (0 + 1 + (0 + 1 + ((pairsTx rs).cps.size + 1 + ((loadText rs).cps.size + 1 + (0 + 1 + 0)))))) := by
      unfold shownD
      simp only [PyData.bulk, PyData.bulkAll]
    have q1 : (pairsTx rs).cps.size ≤ rs.length * 75 := ll
    have q2 : (loadText rs).cps.size ≤ 150 := tt
    rw [sizeLine_eq]
    omega
end My
set_option Elab.async false
set_option maxRecDepth 100000
set_option maxHeartbeats 8000000
namespace My
open PySem PySem.Spec PyProof.Rows L2
/-! ### loads as functions of names: operators -/
theorem nodup_sub_len : ∀ {l L : List Str}, l.Nodup → (∀ x ∈ l, x ∈ L) → l.length ≤ L.length
  | [], _, _, _ => Nat.zero_le _
  | x :: l, L, nd, h => by
    rw [List.nodup_cons] at nd
    have hx := h x List.mem_cons_self
    have ih := nodup_sub_len (l := l) (L := L.erase x) nd.2 fun y hy => by
      have ne : y ≠ x := fun e => nd.1 (e ▸ hy)
      exact (List.mem_erase_of_ne ne).mpr (h y (List.mem_cons_of_mem _ hy))
    rw [List.length_erase_of_mem hx] at ih
    have : 0 < L.length := List.length_pos_of_mem hx
    rw [List.length_cons]
    omega
def LdF (C : Addr) (H : Hp) (a : Addr) (f : Str → Int) : Prop := ∃ ps, LoadAt C H a ps ∧ Can ps ∧ ∀ s, countOf ps s = f s
theorem LdF.same {C a : Addr} {H H' : Hp} {f : Str → Int} (h : LdF C H a f) (e : Same H H') : LdF C H' a f := let ⟨ps, l, c, z⟩ := h; ⟨ps, l.same e, c, z⟩
theorem LdF.ext {C a : Addr} {H H' : Hp} {f : Str → Int} (h : LdF C H a f) (e : LamX.ExtN H H') : LdF C H' a f := let ⟨ps, l, c, z⟩ := h; ⟨ps, loadAt_ext l e, c, z⟩
theorem LdF.ins {C a : Addr} {H : Hp} {f : Str → Int} (h : LdF C H a f) : ∃ dx fs, H a = some (.ins C dx fs) := let ⟨_, l, _⟩ := h; loadK_ownTy l
theorem LdF.congr {C a : Addr} {H : Hp} {f g : Str → Int} (h : LdF C H a f) (e : ∀ s, f s = g s) : LdF C H a g := let ⟨ps, l, c, z⟩ := h; ⟨ps, l, c, fun s => (z s).trans (e s)⟩
structure BagL (L : List Str) (f : Str → Int) : Prop where
  pos : ∀ s, 0 ≤ f s
  out : ∀ s, s ∉ L → f s = 0
theorem can_len {L : List Str} {f : Str → Int} {ps : List (Str × Int)} (B : BagL L f) (c : Can ps) (z : ∀ s, countOf ps s = f s) : ps.length ≤ L.length := by
  have := nodup_sub_len (l := ps.map (·.1)) (L := L) c.good.nd fun s hs => by
    obtain ⟨p, hp, rfl⟩ := List.mem_map.mp hs
    have e := count_mem c.good.nd (show (p.1, p.2) ∈ ps from hp)
    have g := c.good.count p hp
    by_cases h : p.1 ∈ L
    · exact h
    · have := B.out _ h
      rw [← z, e] at this
      omega
  simpa using this
def leF (L : List Str) (f g : Str → Int) : Bool := L.all fun s => decide (f s ≤ g s)
theorem leF_iff {L : List Str} {f g : Str → Int} (B : BagL L f) (B2 : BagL L g) : leF L f g = true ↔ ∀ s, f s ≤ g s := by
  unfold leF
  rw [List.all_eq_true]
  constructor
  · intro h s
    by_cases m : s ∈ L
    · exact of_decide_eq_true (h s m)
    · rw [B.out s m, B2.out s m]
      omega
  · exact fun h s _ => decide_eq_true (h s)
theorem lack_none {ps qs : List (Str × Int)} (g : GoodP ps) (g2 : GoodP qs) : lackOf ps qs = none ↔ ∀ s, countOf ps s ≤ countOf qs s := by
  unfold lackOf
  rw [Option.map_eq_none_iff, List.find?_eq_none]
  constructor
  · intro h s
    by_cases z : ∃ m, (s, m) ∈ ps
    · obtain ⟨m, hm⟩ := z
      have := h (s, m) hm
      rw [count_mem g.nd hm]
      have : ¬ countOf qs s < m := fun e => this (decide_eq_true e)
      omega
    · rw [count_out fun m hm => z ⟨m, hm⟩]
      exact count_pos g2.count
  · intro h p hp e
    have e := of_decide_eq_true e
    have := h p.1
    rw [count_mem g.nd (show (p.1, p.2) ∈ ps from hp)] at this
    omega
theorem find_least : ∀ {l : List (Str × Int)} {t : Str × Int → Bool} {p : Str × Int}, sortedS (l.map (·.1)) = true → l.find? t = some p → ∀ q ∈ l, t q = true → leS p.1 q.1
  | [], _, _, _, h => by cases h
  | x :: l, t, p, s, h => by
    intro q hq ht
    rw [List.find?_cons] at h
    have r : ∀ y ∈ l.map Prod.fst, leS x.1 y := rising_le (x := x.1) (l := l.map Prod.fst) (show risingS x.1 (l.map Prod.fst) = true from s)
    cases hx : t x with
    | true =>
      rw [hx] at h
      cases h
      rcases List.mem_cons.mp hq with rfl | hq
      · have z : ∀ a : List Nat, ltCps a a = false := by
          intro a
          induction a with
          | nil => unfold ltCps; rfl
          | cons y a ih => unfold ltCps; simp [ih]
        exact z _
      · exact r _ (List.mem_map_of_mem (f := Prod.fst) hq)
    | false =>
      rw [hx] at h
      rcases List.mem_cons.mp hq with rfl | hq
      · rw [hx] at ht
        cases ht
      · exact find_least (sorted_tail s) h q hq ht
theorem lack_some {ps qs : List (Str × Int)} {s : Str} (c : Can ps) (g2 : GoodP qs) (h : lackOf ps qs = some s) : countOf qs s < countOf ps s ∧ ∀ t, countOf qs t < countOf ps t → leS s t := by
  unfold lackOf at h
  obtain ⟨p, hp, rfl⟩ := Option.map_eq_some_iff.mp h
  have hm := List.mem_of_find?_eq_some hp
  have ht : countOf qs p.1 < p.2 := by
    have z := List.find?_some hp
    exact of_decide_eq_true z
  have e := count_mem c.good.nd (show (p.1, p.2) ∈ ps from hm)
  refine ⟨by rw [e]; exact ht, fun t h2 => ?_⟩
  have z : ∃ m, (t, m) ∈ ps := by
    by_cases z : ∃ m, (t, m) ∈ ps
    · exact z
    · rw [count_out (ps := ps) fun m hm => z ⟨m, hm⟩] at h2
      have := count_pos (s := t) g2.count
      omega
  obtain ⟨m, hm2⟩ := z
  rw [count_mem c.good.nd hm2] at h2
  exact find_least c.sorted hp (t, m) hm2 (decide_eq_true h2)
section
variable {K : PySem.W.Frag} {C CL CA CN a b : Addr} {H : Hp} {Q : VK} {E : XK} {L : List Str} {f g : Str → Int} {nm : String}
theorem own2_at {sp : Sp} (ha : LdF C H a f) (hb : LdF C H b g) (q : sp [.ref a, .ref b] H Q E) : rOwnB K C nm sp E (.ref a) (.ref b) H Q := by
  obtain ⟨dx, fs, ea⟩ := ha.ins
  obtain ⟨dy, gs, eb⟩ := hb.ins
  exact ⟨a, dx, fs, rfl, ea, .inl ⟨b, dy, gs, rfl, eb⟩, q⟩
theorem g_addF (ha : LdF C H a f) (hb : LdF C H b g) (B : BagL L f) (B2 : BagL L g) (few : L.length ≤ 20) (q : ∀ H' x, Same H H' → LdF C H' x (fun s => f s + g s) → Q (.ref x) H') : rOwnB K C nm (spAdd K C CL) E (.ref a) (.ref b) H Q := by
  refine own2_at ha hb ?_
  obtain ⟨ps, la, ca, ea⟩ := ha
  obtain ⟨qs, lb, cb, eb⟩ := hb
  have l1 := can_len B ca ea
  have l2 := can_len B2 cb eb
  refine ⟨a, ps, .ref b, some qs, rfl, la, .load lb, ca.good, cb.good, by omega, fun H' x rs _ s od lx => ?_⟩
  have gd : GoodP (addP ps qs) := addP_good ca.good cb.good.name cb.good.count
  exact q H' x s ⟨rs, lx, can_of gd od, fun t => by rw [count_perm gd od.perm, count_addP t cb.good.nd, ea, eb]⟩
theorem g_orF (ha : LdF C H a f) (hb : LdF C H b g) (B : BagL L f) (B2 : BagL L g) (few : L.length ≤ 20) (q : ∀ H' x, Same H H' → LdF C H' x (fun s => if f s < g s then g s else f s) → Q (.ref x) H') : rOwnB K C nm (spOr K C CL) E (.ref a) (.ref b) H Q := by
  refine own2_at ha hb ?_
  obtain ⟨ps, la, ca, ea⟩ := ha
  obtain ⟨qs, lb, cb, eb⟩ := hb
  have l1 := can_len B ca ea
  have l2 := can_len B2 cb eb
  refine ⟨a, ps, .ref b, some qs, rfl, la, .load lb, ca.good, cb.good, by omega, fun H' x rs _ s od lx => ?_⟩
  have gd : GoodP (grP ps qs) := grP_good ca.good cb.good.name
  exact q H' x s ⟨rs, lx, can_of gd od, fun t => by rw [count_perm gd od.perm, count_grP t cb.good.nd cb.good.count (count_pos ca.good.count), ea, eb]⟩
theorem g_andF (ha : LdF C H a f) (hb : LdF C H b g) (B : BagL L f) (B2 : BagL L g) (few : L.length ≤ 20) (q : ∀ H' x, Same H H' → LdF C H' x (fun s => if g s < f s then g s else f s) → Q (.ref x) H') : rOwnB K C nm (spAnd K C CL) E (.ref a) (.ref b) H Q := by
  refine own2_at ha hb ?_
  obtain ⟨ps, la, ca, ea⟩ := ha
  obtain ⟨qs, lb, cb, eb⟩ := hb
  have l1 := can_len B ca ea
  have l2 := can_len B2 cb eb
  refine ⟨a, ps, .ref b, some qs, rfl, la, .load lb, ca.good, cb.good, by omega, fun H' x rs _ s od lx => ?_⟩
  have gd : GoodP (lesP ps qs) := lesP_good ca.good cb.good
  exact q H' x s ⟨rs, lx, can_of gd od, fun t => by rw [count_perm gd od.perm, count_lesP ca.good cb.good, ea, eb]⟩
theorem g_subF (ha : LdF C H a f) (hb : LdF C H b g) (B : BagL L f) (B2 : BagL L g) (few : L.length ≤ 20) (no : ∀ s, f s < g s → (∀ t, f t < g t → leS s t) → BadV CA "name" (.str s) H E)
    (q : (∀ s, g s ≤ f s) → ∀ H' x, Same H H' → LdF C H' x (fun s => f s - g s) → Q (.ref x) H') : rOwnB K C nm (spSub K C CL CA) E (.ref a) (.ref b) H Q := by
  refine own2_at ha hb ?_
  obtain ⟨ps, la, ca, ea⟩ := ha
  obtain ⟨qs, lb, cb, eb⟩ := hb
  have l1 := can_len B ca ea
  refine ⟨a, ps, .ref b, some qs, rfl, la, .load lb, ca.good, by omega, ?_⟩
  cases hl : lackOf qs ps with
  | some s =>
    obtain ⟨h1, h2⟩ := lack_some cb ca.good hl
    exact no s (by rw [← ea, ← eb]; exact h1) fun t ht => h2 t (by rw [ea, eb]; exact ht)
  | none =>
    have le := (lack_none cb.good ca.good).mp hl
    intro H' x rs _ s od lx
    have gd : GoodP (takenP ps qs) := takenP_good ca.good
    refine q (fun t => by rw [← ea, ← eb]; exact le t) H' x s ⟨rs, lx, can_of gd od, fun t => ?_⟩
    rw [count_perm gd od.perm, count_takenP ca.good t (count_pos cb.good.count), ea, eb]
    have := le t
    rw [ea, eb] at this
    dsimp only
    split <;> omega
theorem g_mulF {n : Int} (ha : LdF C H a f) (B : BagL L f) (few : L.length ≤ 20) (h0 : 0 ≤ n) (h1 : n < 2 ^ 64) (q : ∀ H' x, Same H H' → LdF C H' x (fun s => f s * n) → Q (.ref x) H') : spMul K C CN [.ref a, .int n] H Q E := by
  obtain ⟨ps, la, ca, ea⟩ := ha
  have l1 := can_len B ca ea
  refine ⟨a, ps, .int n, rfl, la, ca.good, by omega, .inr ⟨n, rfl, h0, h1, fun H' x rs _ s od lx => ?_⟩⟩
  have gd : GoodP (multP ps n) := multP_good ca.good h0
  exact q H' x s ⟨rs, lx, can_of gd od, fun t => by rw [count_perm gd od.perm, count_multP ca.good, ea]⟩
theorem cmpF_T {ps qs : List (Str × Int)} (B : BagL L f) (B2 : BagL L g) (ca : Can ps) (cb : Can qs) (ea : ∀ s, countOf ps s = f s) (eb : ∀ s, countOf qs s = g s) : leT ps qs = leF L f g ∧ decide (ps = qs) = (leF L f g && leF L g f) := by
  have e1 : leT ps qs = leF L f g := by
    rw [Bool.eq_iff_iff, leF_iff B B2]
    unfold leT
    rw [Option.isNone_iff_eq_none, lack_none ca.good cb.good]
    simp only [ea, eb]
  refine ⟨e1, ?_⟩
  rw [Bool.eq_iff_iff, Bool.and_eq_true, leF_iff B B2, leF_iff B2 B, decide_eq_true_eq]
  constructor
  · rintro rfl
    exact ⟨fun s => by rw [← ea, ← eb]; exact Int.le_refl _, fun s => by rw [← ea, ← eb]; exact Int.le_refl _⟩
  · rintro ⟨h1, h2⟩
    exact can_ext ca cb fun s => by
      have := h1 s
      have := h2 s
      rw [ea, eb]
      omega
theorem cmp2_at {sp : Sp} (ha : LdF C H a f) (hb : LdF C H b g) (q : sp [.ref a, .ref b] H Q E) : rOwnC K C sp E (.ref a) (.ref b) H Q := by
  obtain ⟨dx, fs, ea⟩ := ha.ins
  obtain ⟨dy, gs, eb⟩ := hb.ins
  exact ⟨a, dx, fs, .ref C, rfl, ea, .inl ⟨b, dy, gs, rfl, eb, rfl⟩, notFirst_own, q⟩
theorem g_leF (ha : LdF C H a f) (hb : LdF C H b g) (B : BagL L f) (B2 : BagL L g) (q : ∀ H', Same H H' → Q (.bl (leF L f g)) H') : rOwnC K C (spLe K C CL) E (.ref a) (.ref b) H Q := by
  refine cmp2_at ha hb ?_
  obtain ⟨ps, la, ca, ea⟩ := ha
  obtain ⟨qs, lb, cb, eb⟩ := hb
  obtain ⟨t1, _⟩ := cmpF_T B B2 ca cb ea eb
  refine ⟨a, ps, .ref b, some qs, rfl, la, .load lb, fun H' s => ?_⟩
  have z := q H' s
  rw [← t1] at z
  exact z
theorem g_geF (ha : LdF C H a f) (hb : LdF C H b g) (B : BagL L f) (B2 : BagL L g) (q : ∀ H', Same H H' → Q (.bl (leF L g f)) H') : rOwnC K C (spCmp K C CL fun ps qs => leT qs ps) E (.ref a) (.ref b) H Q := by
  refine cmp2_at ha hb ?_
  obtain ⟨ps, la, ca, ea⟩ := ha
  obtain ⟨qs, lb, cb, eb⟩ := hb
  obtain ⟨t1, _⟩ := cmpF_T B2 B cb ca eb ea
  refine ⟨a, ps, .ref b, some qs, rfl, la, .load lb, ca.good.name, cb.good.name, fun H' s => ?_⟩
  dsimp only
  rw [t1]
  exact q H' s
theorem g_ltF (ha : LdF C H a f) (hb : LdF C H b g) (B : BagL L f) (B2 : BagL L g) (q : ∀ H', Same H H' → Q (.bl (leF L f g && !leF L g f)) H') : rOwnC K C (spCmpT K C CL ltT) E (.ref a) (.ref b) H Q := by
  refine cmp2_at ha hb ?_
  obtain ⟨ps, la, ca, ea⟩ := ha
  obtain ⟨qs, lb, cb, eb⟩ := hb
  obtain ⟨t1, t2⟩ := cmpF_T B B2 ca cb ea eb
  refine ⟨⟨a, .ref b, rfl, loadTy lb⟩, a, ps, .ref b, some qs, rfl, la, .load lb, ca.good.name, cb.good.name, fun H' s => ?_⟩
  unfold ltT
  rw [t1, t2]
  have e : (leF L f g && !(leF L f g && leF L g f)) = (leF L f g && !leF L g f) := by cases leF L f g <;> cases leF L g f <;> rfl
  rw [e]
  exact q H' s
theorem g_gtF (ha : LdF C H a f) (hb : LdF C H b g) (B : BagL L f) (B2 : BagL L g) (q : ∀ H', Same H H' → Q (.bl (leF L g f && !leF L f g)) H') : rOwnC K C (spCmpT K C CL fun ps qs => leT qs ps && !decide (ps = qs)) E (.ref a) (.ref b) H Q := by
  refine cmp2_at ha hb ?_
  obtain ⟨ps, la, ca, ea⟩ := ha
  obtain ⟨qs, lb, cb, eb⟩ := hb
  obtain ⟨_, t2⟩ := cmpF_T B B2 ca cb ea eb
  obtain ⟨t1, _⟩ := cmpF_T B2 B cb ca eb ea
  refine ⟨⟨a, .ref b, rfl, loadTy lb⟩, a, ps, .ref b, some qs, rfl, la, .load lb, ca.good.name, cb.good.name, fun H' s => ?_⟩
  dsimp only
  rw [t1, t2]
  have e : (leF L g f && !(leF L f g && leF L g f)) = (leF L g f && !leF L f g) := by cases leF L f g <;> cases leF L g f <;> rfl
  rw [e]
  exact q H' s
theorem g_eqF (ha : LdF C H a f) (hb : LdF C H b g) (B : BagL L f) (B2 : BagL L g) (q : ∀ H', Same H H' → Q (.bl (leF L f g && leF L g f)) H') : rOwnC K C (spEqL K C) E (.ref a) (.ref b) H Q := by
  refine cmp2_at ha hb ?_
  obtain ⟨ps, la, ca, ea⟩ := ha
  obtain ⟨qs, lb, cb, eb⟩ := hb
  obtain ⟨_, t2⟩ := cmpF_T B B2 ca cb ea eb
  refine ⟨a, ps, .ref b, some qs, rfl, la, ca.good.name, .load lb, cb.good.name, fun H' s => ?_⟩
  show Q (.bl (decide (ps = qs))) H'
  rw [t2]
  exact q H' s
theorem g_neF (ha : LdF C H a f) (hb : LdF C H b g) (e : ∀ s, f s = g s) (q : ∀ H', Same H H' → Q (.bl false) H') : rOwnNe K C (spEqL K C) E (.ref a) (.ref b) H Q := by
  obtain ⟨dx, fs, ea'⟩ := ha.ins
  obtain ⟨ps, la, ca, ea⟩ := ha
  obtain ⟨qs, lb, cb, eb⟩ := hb
  have : ps = qs := can_ext ca cb fun s => by rw [ea, eb, e]
  subst this
  refine neq_at ea' la lb ca.good.name ca.good.name fun H' s => ?_
  rw [decide_eq_true rfl]
  exact q H' s
end
/-- two loads with the same counts, where == is asked inside a list -/
def RLd (C : Addr) (a b : Addr) (H : Hp) : Prop := ∃ f, LdF C H a f ∧ LdF C H b f
theorem rld_eq {K : PySem.W.Frag} {C : Addr} {vs : List V} {H : Hp} {Q : VK} {E : XK} (h : spEq (RLd C) vs H Q E) : spEqL K C vs H Q E := by
  obtain ⟨a, b, rfl, ⟨f, ha, hb⟩, q⟩ := h
  obtain ⟨ps, la, ca, ea⟩ := ha
  obtain ⟨qs, lb, cb, eb⟩ := hb
  have : ps = qs := can_ext ca cb fun s => by rw [ea, eb]
  subst this
  refine ⟨a, ps, .ref b, some ps, rfl, la, ca.good.name, .load lb, ca.good.name, fun H' s => ?_⟩
  show Q (.bl (decide (ps = ps))) H'
  rw [decide_eq_true rfl]
  exact q H' s
theorem mon_ld {C : Addr} : Mon (DIns C (RLd C)) := mon_ins fun a b H H' e h => let ⟨f, h1, h2⟩ := h; ⟨f, h1.same e, h2.same e⟩
end My
set_option Elab.async false
set_option maxRecDepth 100000
set_option maxHeartbeats 8000000
namespace My
open PySem PySem.Spec PyProof.Rows L2
local macro_rules | `(tactic| walk_at "cond") => `(tactic| first
  | exact Or.inr ⟨by decide, by decide⟩ | exact Or.inl ⟨by decide, by decide⟩ | exact ⟨by decide, by decide, by decide⟩ | exact ⟨by decide, by decide⟩
  | (refine Or.inl ⟨?_, ?_⟩ <;> omega) | (refine Or.inr ⟨?_, ?_⟩ <;> omega)
  | (show (0 : Int) < _; omega))
local macro_rules | `(tactic| walk_at "mem") => `(tactic| first | exact List.Mem.head _ | exact List.Mem.tail _ (List.Mem.head _) | exact Put.head | (refine List.Mem.tail _ ?_; walk_at "mem") | (apply Put.tail; walk_at "mem"))
local macro_rules | `(tactic| walk_at "st") => `(tactic| first
  | with_reducible refine g_seq ?_ | with_reducible refine g_asg ?_ | with_reducible refine g_name ?_ | ((with_reducible show tVar _ _ _ _); refine g_var rfl ?_) | with_reducible refine g_c ?_
  | with_reducible refine g_op ?_ | with_reducible refine g_test ?_ | with_reducible refine g_bl ?_
  | with_reducible refine g_cb ?_ | with_reducible refine g_cons ?_ | with_reducible refine g_nil ?_ | with_reducible refine g_tif ?_ | with_reducible refine g_ifs ?_ | with_reducible refine g_ret ?_
  | with_reducible refine g_drop ?_ | with_reducible refine g_next ?_
  | with_reducible refine g_i0 ?_ | ((with_reducible show rI _ _ _ _ _ _); refine g_i (by walk_at "cond") ?_) | with_reducible refine g_int ?_ | with_reducible refine g_abs ?_ | with_reducible refine g_or ?_
  | with_reducible refine g_and ?_ | with_reducible refine g_not ?_ | with_reducible refine g_lst ?_ | with_reducible refine g_tup ?_
  | with_reducible refine iteT ?_ | with_reducible refine iteF ?_ | with_reducible refine g_par ?_ | with_reducible refine g_two ?_ | with_reducible refine g_sub ?_
  | ((with_reducible show rIxL _ (V.ref _) (V.int _) _ _); refine g_ixM (by assumption) (by walk_at "mem") rfl rfl ?_)
  | ((with_reducible show rSetL (V.ref _) (V.int _) _ _ _); refine g_setM (by assumption) rfl (by walk_at "mem") fun _ _ => ?_)
  | with_reducible refine g_xmk ?_ | with_reducible refine g_xmkK ?_
  | ((with_reducible show XNew _ (spI1 _ _) _ _ _); refine g_x1 (by assumption) fun _ _ _ _ => ?_)
  | ((with_reducible show XNewK _ _ (spI1 _ _) _ _ _ _); refine g_x1k (by assumption) fun _ _ _ _ => ?_)
  | ((with_reducible show XNew _ (spI3 _ _ _ _) _ _ _); refine g_x3 (by assumption) fun _ _ _ _ => ?_)
  | ((with_reducible show tXmk0 _ _ _ _); refine g_xmk0 (by assumption) fun _ _ _ => ?_)
  | ((with_reducible show NewO _ _ _ _); refine g_newo (by assumption) (by first | decide | simp) fun _ _ _ _ => ?_)
  | ((with_reducible show rCat (V.ref _) (V.ref _) _ _); refine g_cat (by assumption) (by walk_at "mem") (by walk_at "mem") (by first | decide | simp) fun _ _ _ _ => ?_))
local macro_rules | `(tactic| walk_at "st") => `(tactic| first | with_reducible refine g_tcall ?_ | with_reducible refine g_tb ?_ | with_reducible refine g_andV ?_ | with_reducible refine g_notV ?_ | with_reducible refine g_chain ?_ | with_reducible refine g_un ?_ | with_reducible refine g_rU ?_)
abbrev NSh : List Str := ["_law_load_here", "_law_rows", "_law_spare", "_law_due", "_law_counts", "_law_line", "_law_size", "_law_shown", "_law_told", "_law_due_pairs", "_law_name", "_law_count_here"]
theorem scSh : FnScope NSh ["_law_load_here", "_law_rows", "_law_spare"] (defScope s__law_shown_right) := ⟨rfl, rfl, rfl, by decide +kernel, rfl, by decide +kernel, by decide +kernel⟩
abbrev rDictP (K : PySem.W.Frag) : List V → Hp → VK → Prop := fun xs H Q => ∃ (a : Addr) (ps : List Addr) (kvs : List (Key × V)), xs = [.ref a] ∧ SqL K H a (ps.map V.ref) ∧ Paired (fun p kv => SqT K H p [kV kv.1, kv.2]) ps kvs ∧
    ∀ p, H p = none → Q (.ref p) (upd H p (.dK (mergeK [] kvs)))
abbrev rAddS : R2 := fun x y H Q => ∃ i j, x = .str i ∧ y = .str j ∧ i.length + j.length ≤ sizeLine ∧ Q (.str (i ++ j)) H
abbrev rStrI : List V → Hp → VK → Prop := fun xs H Q => ∃ i : Int, xs = [.int i] ∧ i.natAbs.log2 < 1920 ∧ Q (.str (toString i : String)) H
theorem nameB_le8 {s : Str} (h : nameB s = true) : s.length ≤ 8 := by
  unfold nameB at h
  simp only [Bool.and_eq_true, decide_eq_true_eq] at h
  exact h.2.1
theorem sumP_le {B : Int} : ∀ {rs : List (Str × Int)}, (∀ p ∈ rs, 0 ≤ p.2 ∧ p.2 < B) → 0 ≤ sumP rs ∧ sumP rs ≤ rs.length * B
  | [], _ => ⟨by unfold sumP; simp, by unfold sumP; simp⟩
  | p :: r, h => by
    obtain ⟨z1, z2⟩ := sumP_le (B := B) fun q hq => h q (List.mem_cons_of_mem _ hq)
    obtain ⟨y1, y2⟩ := h p List.mem_cons_self
    have e : sumP (p :: r) = p.2 + sumP r := by unfold sumP; simp
    have e2 : ((p :: r).length : Int) * B = r.length * B + B := by
      rw [List.length_cons, Int.natCast_succ, Int.add_mul, Int.one_mul]
    rw [e, e2]
    constructor <;> omega
theorem names_unique {ys : List Str} {rs : List (Str × Int)} (h : ys.Perm (rs.map (·.1))) (so : sortedS ys = true) (c : Can rs) : ys = rs.map (·.1) := by
  have e : (ys.map fun s => (s, (0 : Int))).map (·.1) = ys := by
    rw [List.map_map]
    exact List.map_id _
  have e2 : (rs.map fun p => (p.1, (0 : Int))).map (·.1) = rs.map (·.1) := by
    rw [List.map_map]
    rfl
  have z := sorted_unique (l := ys.map fun s => (s, (0 : Int))) (m := rs.map fun p => (p.1, (0 : Int))) (by rw [e]; exact so) (by rw [e2]; exact c.sorted) (by rw [e]; exact h.nodup_iff.mpr c.good.nd) (by rw [e2]; exact c.good.nd) fun q => by
    constructor
    · intro hq
      obtain ⟨y, hy, rfl⟩ := List.mem_map.mp hq
      obtain ⟨r, hr, rfl⟩ := List.mem_map.mp (h.mem_iff.mp hy)
      exact List.mem_map_of_mem (f := fun p : Str × Int => (p.1, (0 : Int))) hr
    · intro hq
      obtain ⟨r, hr, rfl⟩ := List.mem_map.mp hq
      exact List.mem_map_of_mem (f := fun s : Str => (s, (0 : Int))) (h.mem_iff.mpr (List.mem_map_of_mem hr))
  rw [← e, z, e2]
theorem refs_pairs {K : PySem.W.Frag} {H : Hp} : ∀ {ts : List V} {ps : List (Str × Int)}, Paired (PairAt H) ts ps → ∃ us : List Addr, ts = us.map V.ref ∧ Paired (fun p kv => SqT K H p [kV kv.1, kv.2]) us (kvOf ps)
  | _, _, .nil => ⟨[], rfl, .nil⟩
  | _, _, .cons h t => by
    obtain ⟨u, rfl, e⟩ := h
    obtain ⟨us, rfl, pr⟩ := refs_pairs (K := K) t
    exact ⟨u :: us, rfl, .cons (SqT.of e) pr⟩
theorem g_dictP {K : PySem.W.Frag} {H : Hp} {Q : VK} {N : Addr} {ts : List V} {ps : List (Str × Int)} (e : H N = some (.lst ts)) (pr : Paired (PairAt H) ts ps) (nd : (ps.map (·.1)).Nodup) (q : ∀ p, H p = none → Q (.ref p) (upd H p (.dK (kvOf ps)))) : rDictP K [.ref N] H Q := by
  obtain ⟨us, rfl, pr2⟩ := refs_pairs (K := K) pr
  refine ⟨N, us, kvOf ps, rfl, SqL.of e, pr2, fun p hp => ?_⟩
  have z := mergeK_kvOf ps [] (by simpa using nd)
  rw [show kvOf [] = ([] : List (Key × V)) from rfl] at z
  rw [z]
  exact q p hp
theorem dp_prs {K : PySem.W.Frag} {H : Hp} : ∀ {ts : List V} {rs : List (Str × Int)}, Paired (PairAt H) ts rs → DpAll K H ts (rs.map pd)
  | _, _, .nil => .nil
  | _, _, .cons a b => by
    obtain ⟨u, rfl, e⟩ := a
    exact .cons (.tup (SqT.of e) (.cons (.str _) (.cons (.int _) .nil))) (dp_prs b)
theorem dp_names {K : PySem.W.Frag} {H : Hp} : ∀ (ns : List Str), DpAll K H (ns.map V.str) (ns.map PyData.str)
  | [] => .nil
  | _ :: r => .cons (.str _) (dp_names r)
theorem depthL_s {xs : List V} (h : ∀ x ∈ xs, isS x = true) : (PyData.list (xs.map toD)).depth ≤ 64 := by
  simp [PyData.depth, depthAll_s h]
theorem shapedL_s {xs : List V} (h : ∀ x ∈ xs, isS x = true) : SeqAt.shaped (.list (xs.map toD)) = true := by
  unfold SeqAt.shaped
  have e : (PyData.list (xs.map toD)).canLay0 = true := by simp [PyData.canLay0, canAll_s h]
  rw [e, decide_eq_true (depthL_s h)]
  rfl
theorem eqvL_empty (xs : List V) : PyData.eqv (.list (xs.map toD)) (.list []) = decide (xs = []) := by
  cases xs <;> simp [PyData.eqv, PyData.eqvAll]
theorem g_neL {K : PySem.W.Frag} {H : Hp} {Q : VK} {b T : Addr} {xs : List V} (h : SqL K H b xs) (hs : ∀ x ∈ xs, isS x = true) (e : SqL K H T []) (q : Q (.bl (!decide (xs = []))) H) : rNeD K (.ref b) (.ref T) H Q :=
  ⟨_, _, Dp.lst h (dpAll_s hs), Dp.lst e DpAll.nil, shapedL_s hs, shapedL_s (xs := []) (fun _ z => nomatch z), by rw [eqvL_empty]; exact q⟩
theorem rep_bl (n : Nat) : (List.replicate n [V.bl true]).flatten = (List.replicate n true).map V.bl := by
  induction n with
  | zero => rfl
  | succ n ih =>
    rw [List.replicate_succ, List.flatten_cons, ih]
    rfl
theorem map_true {α : Type} (l : List α) : (l.map fun _ => true) = List.replicate l.length true := by
  induction l with
  | nil => rfl
  | cons a r ih =>
    rw [List.map_cons, ih]
    rfl
theorem dpAllB {K : PySem.W.Frag} {H : Hp} : ∀ (bs : List Bool), DpAll K H (bs.map V.bl) (bs.map PyData.bool)
  | [] => .nil
  | _ :: r => .cons (.bl _) (dpAllB r)
theorem eqvAllB (bs : List Bool) : PyData.eqvAll (bs.map PyData.bool) (bs.map PyData.bool) = true := by
  induction bs with
  | nil => rfl
  | cons a r ih => simp [PyData.eqvAll, PyData.eqv, ih]
theorem shapedB (bs : List Bool) : SeqAt.shaped (.list (bs.map PyData.bool)) = true := by
  have c : PyData.canLayAll0 (bs.map PyData.bool) = true ∧ PyData.depthAll (bs.map PyData.bool) = 0 := by
    induction bs with
    | nil => exact ⟨rfl, rfl⟩
    | cons a r ih => exact ⟨by simp [PyData.canLayAll0, PyData.canLay0, ih.1], by simp [PyData.depthAll, PyData.depth, ih.2]⟩
  unfold SeqAt.shaped
  simp [PyData.canLay0, PyData.depth, c.1, c.2]
theorem g_neBs {K : PySem.W.Frag} {H : Hp} {Q : VK} {a b : Addr} {bs : List Bool} (h1 : H a = some (.lst (bs.map V.bl))) (h2 : H b = some (.lst (bs.map V.bl))) (q : Q (.bl false) H) : rNeD K (.ref a) (.ref b) H Q := by
  refine ⟨_, _, Dp.lst (SqL.of h1) (dpAllB bs), Dp.lst (SqL.of h2) (dpAllB bs), shapedB bs, shapedB bs, ?_⟩
  have e : PyData.eqv (.list (bs.map PyData.bool)) (.list (bs.map PyData.bool)) = true := by simp [PyData.eqv, eqvAllB]
  rw [e]
  exact q
theorem textOk_line {rs : List (Str × Int)} (g : GoodP rs) (s : SmallP rs) (few : rs.length ≤ 60) : TextOk (pairsTx rs) := by
  have ll := line_len s
  refine ⟨by rw [sizeLine_eq]; omega, ?_, ?_⟩
  · by_cases ne : rs = []
    · subst ne
      intro p hp
      have y : Txt.split (pairsTx []) ", " = [("" : Str)] := by decide +kernel
      rw [y] at hp
      rw [List.mem_singleton.mp hp]
      exact ⟨by decide +kernel, by decide +kernel, by decide +kernel⟩
    · rw [split_line g ne]
      intro p hp
      obtain ⟨r, hr, rfl⟩ := List.mem_map.mp hp
      obtain ⟨a, b, c⟩ := s r hr
      obtain ⟨n, hn⟩ := Int.eq_ofNat_of_zero_le b
      refine ⟨Nat.le_trans (pairTx_len2 (s r hr)) (by rw [sizeLine_eq]; decide), ?_, ?_⟩
      · rw [pairTx_cut hn]
        have z := int_len64 b c
        rw [hn] at z
        exact z
      · unfold partN
        rw [pairTx_cut hn]
        exact Nat.le_trans a (by rw [sizeLine_eq]; decide)
  · by_cases ne : rs = []
    · subst ne
      decide +kernel
    · rw [split_line g ne, List.length_map]
      exact few
theorem g_eqLd {K : PySem.W.Frag} {C a b : Addr} {H : Hp} {Q : VK} {E : XK} {rs : List (Str × Int)} (la : LoadAt C H a rs) (lb : LoadAt C H b rs) (c : Can rs) (q : ∀ H', Same H H' → Q (.bl true) H') : rOwnC K C (spEqL K C) E (.ref a) (.ref b) H Q := by
  refine cmp2_at (⟨rs, la, c, fun _ => rfl⟩ : LdF C H a (countOf rs)) (⟨rs, lb, c, fun _ => rfl⟩ : LdF C H b (countOf rs)) ?_
  refine ⟨a, rs, .ref b, some rs, rfl, la, c.good.name, .load lb, c.good.name, fun H' s => ?_⟩
  show Q (.bl (decide (rs = rs))) H'
  rw [decide_eq_true rfl]
  exact q H' s
/-- a comprehension over a list of strings that stands already -/
theorem lsOn {K : PySem.W.Frag} {β : Type} {σ : L2.St} {H : Hp} {Q : Addr → Hp → Prop} {te : TE} (i : Nat) {D : Addr} {L : List Str} (R : Hp → V → β → Prop) (mono : Mono R) (F : Str → β) (d : H D = some (.lst (L.map V.str))) (few : L.length ≤ 1000) (hi : i < σ.length)
    (step : ∀ (s : Str) (H2 : Hp) (Q2 : VK), s ∈ L → Same H H2 → (∀ v H3, Same H2 H3 → R H3 v (F s) → Q2 v H3) → te ((wipe σ [i]).set i (some (.str s))) H2 Q2)
    (q : ∀ H2 N acc, Same H H2 → H2 N = some (.lst acc) → Paired (R H2) acc (L.map F) → Q N H2) :
    ∃ a, V.ref D = .ref a ∧ (∃ xs, SqL K H a xs) ∧ ∀ D', H D' = none → ∃ W : Nat → Nat → Hp → Prop, (∃ m, W 0 m (upd H D' (.lst []))) ∧ ∀ j m H, W j m H →
      ((Itl K a).stop j H ∧ Q D' H) ∨ ((Itl K a).go j H ∧ ∃ Nx : Hp → Prop, (∀ H', Nx H' → ∃ m', m' < m ∧ W (j + 1) m' H') ∧ ∀ x H', (Itl K a).yld j H x H' → gName i x (wipe σ [i]) H' fun σ2 H2 => wipe σ2 [i] = wipe σ [i] ∧ tYes σ2 H2 fun b H3 =>
        if b = true then te σ2 H3 fun y H4 => ∃ acc, H4 D' = some (.lst acc) ∧ acc.length < sizeLine ∧ Nx (upd H4 D' (.lst (acc ++ [y]))) else Nx H3) := by
  refine ⟨D, rfl, ⟨_, SqL.of d⟩, fun N hN => lcS walk_list R mono (fun j l => l = (L.take j).map F) rfl hN (by rw [List.length_map]; omega) (fun H1 s1 => SqL.of (s1 _ _ d)) ?_ ?_⟩
  · rintro j x H1 H1' l hj s1 rfl ⟨rfl, hx⟩ KT KF kt kf
    rw [List.length_map] at hj
    have ex : x = .str L[j] := by
      rw [List.getElem?_map, List.getElem?_eq_getElem hj] at hx
      exact (Option.some.inj hx).symm
    subst ex
    refine g_name ⟨wipe1 _ i _, ?_⟩
    unfold tYes
    refine iteT ?_
    exact step L[j] _ _ (List.getElem_mem hj) s1 fun v H3 s3 r => kt v H3 (F L[j]) s3 (take_map_succ hj).symm r
  · rintro H1 acc l s1 d1 pr rfl
    rw [List.length_map, List.take_length] at pr
    exact q H1 N acc s1 d1 pr
def REq {β : Type} (f : β → V) : Hp → V → β → Prop := fun _ v b => v = f b
theorem req_mono {β : Type} (f : β → V) : Mono (REq f) := fun _ _ _ _ _ h => h
theorem req_eq {β : Type} {f : β → V} {H : Hp} {acc : List V} {l : List β} (h : Paired (REq f H) acc l) : acc = l.map f := by
  induction h with
  | nil => rfl
  | cons a _ ih =>
    rw [List.map_cons, a, ih]
section
variable (P : Program) (w : World) (K : PySem.W.Frag) (mg : Str → Option Value) (base : Heap)
structure ShK (C CP CT CN gP gN gS gL gI gG gR gT gE gO gRd : Addr) where
  c : LoadC K C
  mL : mg "Load" = some (.ref C)
  pP : Addr
  dP : FuncData
  hP : PropOf K C "pairs" pP gP
  fP : FnOk P w K mg base CX0 1 gP dP ["self"] (spPairsL K C)
  bP : Binds K dP ["self"] []
  pN : Addr
  dN : FuncData
  hN : PropOf K C "names" pN gN
  fN : FnOk P w K mg base CX0 1 gN dN ["self"] (spNames K C)
  bN : Binds K dN ["self"] []
  pS : Addr
  dS : FuncData
  hS : PropOf K C "size" pS gS
  fS : FnOk P w K mg base CX0 1 gS dS ["self"] (spSize C)
  bS : Binds K dS ["self"] []
  hL : PySem.W.findIn K (.ref C) "__len__" = some (some (.ref gL))
  nB : PySem.W.findIn K (.ref C) "__bool__" = some none
  qL : PySem.W.isFn K (.ref gL) = true
  fL : FnR P w K mg base CX0 1 gL (spLenL C)
  hI : PySem.W.findIn K (.ref C) "__contains__" = some (some (.ref gI))
  qI : PySem.W.isFn K (.ref gI) = true
  fI : FnR P w K mg base CX0 2 gI (spInL K C)
  hG : PySem.W.findIn K (.ref C) "__getitem__" = some (some (.ref gG))
  rG : PySem.W.fnIn K gG = true
  qG : PySem.W.isFn K (.ref gG) = true
  fG : FnR P w K mg base (L2.CX P w) 3 gG (spGet K C CN)
  hR : PySem.W.findIn K (.ref C) "__repr__" = some (some (.ref gR))
  qR : PySem.W.isFn K (.ref gR) = true
  fR : FnR P w K mg base CX0 3 gR (spRepr C)
  hT : PySem.W.findIn K (.ref C) "__str__" = some (some (.ref gT))
  qT : PySem.W.isFn K (.ref gT) = true
  fT : FnR P w K mg base CX0 3 gT (spStrL C)
  ne : NeC K C gE
  fE : FnR P w K mg base (L2.CX P w) 2 gE (spEqL K C)
  mc : Value
  pO : Addr
  dO : FuncData
  sO : SMet K C mc "of" pO gO
  fO : FnOk P w K mg base (L2.CX P w) 7 gO dO ["pairs"] (spOf K C CP)
  bO : Binds K dO ["pairs"] []
  pR : Addr
  dR : FuncData
  sR : SMet K C mc "read" pR gRd
  fRd : FnOk P w K mg base (L2.CX P w) 7 gRd dR ["text"] (spRead K C CT)
  bR : Binds K dR ["text"] []
  kR : KBinds K dR ["text"] ["text"] (fun us ws => us ++ ws) (fun us ws => us ++ ws)
  kO : KBinds K dO ["pairs"] ["pairs"] (fun us ws => us ++ ws) (fun us ws => us ++ ws)
  sorted : mg "sorted" = none
  str : mg "str" = none
  dict : mg "dict" = none
  sum : mg "sum" = none
  len : mg "len" = none
  repr : mg "repr" = none
  bool : mg "bool" = none
  tuple : mg "tuple" = none
end
section
variable {P : Program} {w : World} {K : PySem.W.Frag} {mg : Str → Option Value} {base : Heap}
def spSh (K : PySem.W.Frag) (C : Addr) : Sp := fun vs H Q _ => ∃ (a l : Addr) (z : Str) (ts : List V) (ps rs : List (Str × Int)), vs = [.ref a, .ref l, .str z] ∧ LoadAt C H a rs ∧ H l = some (.lst ts) ∧ Paired (PairAt H) ts ps ∧ Can rs ∧ rs.Perm ps ∧ (∀ p ∈ ps, p.2 < 10 ^ 45) ∧ ps.length ≤ 6 ∧ nameB z = true ∧ z ∉ ps.map (·.1) ∧
  ∀ H', Same H H' → Q (.bl true) H'
theorem ok_shown {f C CP CT CN gP gN gS gL gI gG gR gT gE gO gRd : Addr} {fd : FuncData} (F : Fun K "_law_shown_right" "_law_shown_right" s__law_shown_right f fd) (R : ShK P w K mg base C CP CT CN gP gN gS gL gI gG gR gT gE gO gRd) :
    FnG P w K mg base CX0 49 f fd ["_law_load_here", "_law_rows", "_law_spare"] (spSh K C) := by
  refine okG F scSh (fun vs H Q E h => ?_) (fun cdv A outer s H vs Q E hr gd h => ?_)
  · obtain ⟨a, l, z, _, _, _, rfl, _⟩ := h
    rfl
  · obtain ⟨a, l, z, ts, ps, rs, rfl, la, hl, pr, cr, pm, sm, few, nz, oz, q⟩ := h
    have hu := hu_of hr
    have hx0 : Passes CX0 (cxOf CX0 P w K mg base NSh "_law_shown_right" (defScope s__law_shown_right) f cdv A outer s H E).nox E0 := pass0
    have hx : Passes (L2.CX P w) (cxOf CX0 P w K mg base NSh "_law_shown_right" (defScope s__law_shown_right) f cdv A outer s H E).nox E0 := passes_call LamX.takes0 fun _ _ _ _ h => h
    have hr1 := hr.mono (by decide : 1 ≤ 48)
    have hr2 := hr.mono (by decide : 2 ≤ 48)
    have hr4 := hr.mono (by decide : 4 ≤ 48)
    have hr5 := hr.mono (by decide : 5 ≤ 48)
    have hr7 := hr.mono (by decide : 7 ≤ 48)
    have huD : (cxOf CX0 P w K mg base NSh "_law_shown_right" (defScope s__law_shown_right) f cdv A outer s H E).nox.A.units + 16 < cLine := by
      have := hr.un
      show (A.deeper (envOfC "_law_shown_right" (defScope s__law_shown_right) s.heap.objs.size f cdv)).units + 16 < cLine
      omega
    refine ⟨_, pss_cons (ps_set (i := 3) scSh.nd rfl (Or.inl rfl) (pe_callB cr_sortedS (by rfl) R.sorted PyProof.Rows.boot_sorted (pa_cons (pe_lc (te := tCB rStrS (tCons (tVar 10) tNil)) (own := [("_law_name", 10), ("_law_count_here", 11)]) (g := gTup K 2 (gCons (gName 10) (gCons (gName 11) gNil))) rfl scSh.nd (pi_list (pv 1))
          (blkOk_by (own := [("_law_name", 10), ("_law_count_here", 11)]) (N := NSh) (sc := defScope s__law_shown_right) (by decide +kernel)) (fun _ _ _ _ _ => pg_tup rfl (pgs_cons (pg_name (i := 10) scSh.nd rfl (Or.inl rfl)) (pgs_cons (pg_name (i := 11) scSh.nd rfl (Or.inl rfl)) pgs_nil))) (fun _ _ _ _ _ => pts_nil)
          (fun _ _ _ _ _ => pe_callTy (r := rStrS) SkE.call_str_str (by rfl) R.str PyProof.Rows.boot_str (pa_cons (pv 10) pa_nil))) pa_nil)))
      (pss_cons (ps_set (i := 4) scSh.nd rfl (Or.inr rfl) (pe_callTy (r := rDictP K) (call_dictP rfl) (by rfl) R.dict PyProof.Rows.boot_dict (pa_cons (pv 1) pa_nil)))
      (pss_cons (ps_set (i := 5) scSh.nd rfl (Or.inl rfl) (pe_join pe_str (pe_lc (te := tOp rAddS (tOp rAddS (tCB rStrI (tCons (tDGet (tVar 4) (tVar 10)) tNil)) (tC (.str " "))) (tVar 10)) (own := [("_law_name", 10)]) (g := gName 10) rfl scSh.nd (pi_list (pv 3))
          (blkOk_by (own := [("_law_name", 10)]) (N := NSh) (sc := defScope s__law_shown_right) (by decide +kernel)) (fun _ _ _ _ _ => pg_name (i := 10) scSh.nd rfl (Or.inl rfl)) (fun _ _ _ _ _ => pts_nil)
          (fun _ _ _ _ _ => pe_op op_add_str (pe_op op_add_str (pe_callTy (r := rStrI) call_str_int (by rfl) R.str PyProof.Rows.boot_str (pa_cons (pe_dget hu (pv 4) (pv 10) (fun _ _ => rfl)) pa_nil)) pe_str) (pv 10)))))
      (pss_cons (ps_set (i := 6) scSh.nd rfl (Or.inl rfl) (pe_callB (cr_sum rfl) (by rfl) R.sum PyProof.Rows.boot_sum (pa_cons (pe_lc (te := tDGet (tVar 4) (tVar 10)) (own := [("_law_name", 10)]) (g := gName 10) rfl scSh.nd (pi_list (pv 3))
          (blkOk_by (own := [("_law_name", 10)]) (N := NSh) (sc := defScope s__law_shown_right) (by decide +kernel)) (fun _ _ _ _ _ => pg_name (i := 10) scSh.nd rfl (Or.inl rfl)) (fun _ _ _ _ _ => pts_nil)
          (fun _ _ _ _ _ => (pe_dget hu (pv 4) (pv 10) (fun _ _ => rfl)))) pa_nil)))
      (pss_cons (ps_set (i := 7) scSh.nd rfl (Or.inl rfl) (pe_op op_add_str (pe_op op_add_str (pe_op op_add_str (pe_op op_add_str pe_str (pe_callTy (r := rStrI) call_str_int (by rfl) R.str PyProof.Rows.boot_str (pa_cons (pLen R.len (pv 3)) pa_nil))) pe_str) (pe_callTy (r := rStrI) call_str_int (by rfl) R.str PyProof.Rows.boot_str (pa_cons (pv 6) pa_nil))) pe_str))
      (pss_cons (ps_set (i := 8) scSh.nd rfl (Or.inl rfl) (pe_lst (pa_cons (pe_prop (pv 0) R.c.ic.cl R.hP R.fP hr2 R.bP .nil pass0 rfl) (pa_cons (pe_prop (pv 0) R.c.ic.cl R.hN R.fN hr2 R.bN .nil pass0 rfl) (pa_cons (pe_prop (pv 0) R.c.ic.cl R.hS R.fS hr2 R.bS .nil pass0 rfl) (pa_cons (pe_callB (call_lenO R.hL R.qL R.fL hr2 hx0) (by rfl) R.len PySem.boot_len (pa_cons (pv 0) pa_nil)) (pa_cons (pe_callTy (call_strO R.hT R.qT R.fT hr5 hx0) (by rfl) R.str PyProof.Rows.boot_str (pa_cons (pv 0) pa_nil)) (pa_cons (pe_callB (call_reprO R.hR R.qR R.fR hr4 hx0) (by rfl) R.repr PyProof.Rows.boot_repr (pa_cons (pv 0) pa_nil)) (pa_cons (pe_callTy (call_boolO R.nB R.hL R.qL R.fL hr4 hx0) (by rfl) R.bool PyProof.Rows.boot_bool (pa_cons (pv 0) pa_nil)) pa_nil)))))))))
      (pss_cons (ps_set (i := 9) scSh.nd rfl (Or.inl rfl) (pe_callTy (r := rTupZ K) call_tupZ (by rfl) R.tuple PyProof.Rows.boot_tuple (pa_cons (pe_lc (te := tTup (tCons (tVar 10) (tCons (tDGet (tVar 4) (tVar 10)) tNil))) (own := [("_law_name", 10)]) (g := gName 10) rfl scSh.nd (pi_list (pv 3))
          (blkOk_by (own := [("_law_name", 10)]) (N := NSh) (sc := defScope s__law_shown_right) (by decide +kernel)) (fun _ _ _ _ _ => pg_name (i := 10) scSh.nd rfl (Or.inl rfl)) (fun _ _ _ _ _ => pts_nil)
          (fun _ _ _ _ _ => pe_tup (pa_cons (pv 10) (pa_cons (pe_dget hu (pv 4) (pv 10) (fun _ _ => rfl)) pa_nil)))) pa_nil)))
      (pss_cons (ps_if (pt_cmpR op_ne (pe_callB (call_reprD gd huD) (by rfl) R.repr PyProof.Rows.boot_repr (pa_cons (pv 8) pa_nil)) (pe_callB (call_reprD gd huD) (by rfl) R.repr PyProof.Rows.boot_repr (pa_cons (pe_lst (pa_cons (pv 9) (pa_cons (pe_callTy (r := rTupZ K) call_tupZ (by rfl) R.tuple PyProof.Rows.boot_tuple (pa_cons (pv 3) pa_nil)) (pa_cons (pv 6) (pa_cons (pLen R.len (pv 3)) (pa_cons (pv 5) (pa_cons (pv 7) (pa_cons (pe_cmpR (op_neD hr.units) (pv 3) (pe_lst pa_nil) (nomark _)) pa_nil)))))))) pa_nil)) (nomark _)) (pss_one (ps_ret pe_bl)) pss_nil)
      (pss_cons (ps_if (pt_cmpR (op_neD hr.units) (pe_lc (te := tOp (rOwnIx C (spGet K C CN) E0) (tVar 0) (tVar 10)) (own := [("_law_name", 10)]) (g := gName 10) rfl scSh.nd (pi_list (pe_op op_cat (pv 3) (pe_lst (pa_cons (pv 2) pa_nil))))
          (blkOk_by (own := [("_law_name", 10)]) (N := NSh) (sc := defScope s__law_shown_right) (by decide +kernel)) (fun _ _ _ _ _ => pg_name (i := 10) scSh.nd rfl (Or.inl rfl)) (fun _ _ _ _ _ => pts_nil)
          (fun _ _ _ _ _ => ix_own R.hG R.rG R.qG R.fG hr4 (passes_call LamX.takes0 fun _ _ _ _ h => h) (pv 0) (pv 10))) (pe_op op_cat (pe_lc (te := tDGet (tVar 4) (tVar 10)) (own := [("_law_name", 10)]) (g := gName 10) rfl scSh.nd (pi_list (pv 3))
          (blkOk_by (own := [("_law_name", 10)]) (N := NSh) (sc := defScope s__law_shown_right) (by decide +kernel)) (fun _ _ _ _ _ => pg_name (i := 10) scSh.nd rfl (Or.inl rfl)) (fun _ _ _ _ _ => pts_nil)
          (fun _ _ _ _ _ => (pe_dget hu (pv 4) (pv 10) (fun _ _ => rfl)))) (pe_lst (pa_cons pe_int pa_nil))) (nomark _)) (pss_one (ps_ret pe_bl)) pss_nil)
      (pss_cons (ps_if (PW.pt (pw_or (pt_cmpR (op_neD hr.units) (pe_lc (te := tOp (rInO C (spInL K C) E0) (tVar 10) (tVar 0)) (own := [("_law_name", 10)]) (g := gName 10) rfl scSh.nd (pi_list (pv 3))
          (blkOk_by (own := [("_law_name", 10)]) (N := NSh) (sc := defScope s__law_shown_right) (by decide +kernel)) (fun _ _ _ _ _ => pg_name (i := 10) scSh.nd rfl (Or.inl rfl)) (fun _ _ _ _ _ => pts_nil)
          (fun _ _ _ _ _ => pe_cmpR (op_inO R.hI R.qI R.fI hr2 pass0) (pv 10) (pv 0) (by rfl))) (pe_op op_rep (pe_lst (pa_cons pe_bl pa_nil)) (pLen R.len (pv 3))) (nomark _)) (pw_or1 (pt_cmpR (op_inO R.hI R.qI R.fI hr2 hx0) (pv 2) (pv 0) (by rfl))))) (pss_one (ps_ret pe_bl)) pss_nil)
      (pss_one (ps_ret (pe_and (pe_cmpR (op_ownC (op := .Eq) (fun _ _ => rfl) R.ne.eq R.ne.fn R.fE hr2 hx) (pe_smeth (pG R.mL) R.sR R.fRd hr7 R.bR hx (pa_cons (pv 5) pa_nil)) (pv 0) (nomark _)) (pe_and (pe_cmpR (op_eqD hr.units) (pe_prop (pe_smethK (pG R.mL) R.sR R.fRd hr7 R.kR hx (pk_cons (pv 5) pk_nil)) R.c.ic.cl R.hP R.fP hr2 R.bP .nil pass0 rfl) (pv 9) (nomark _)) (pe_one (pe_cmpR (op_ownC (op := .Eq) (fun _ _ => rfl) R.ne.eq R.ne.fn R.fE hr2 hx) (pe_smeth (pG R.mL) R.sO R.fO hr7 R.bO hx (pa_cons (pv 9) pa_nil)) (pv 0) (nomark _)))))))))))))))), ?_⟩
    have lx := pr.length
    have ndp : (ps.map (·.1)).Nodup := (pm.map (·.1)).nodup_iff.mp cr.good.nd
    refine g_seq <| g_asg <| g_cb <| g_cons <| g_lclist <| g_var rfl ⟨l, rfl, ⟨_, SqL.of hl⟩, fun D hD => lcS walk_list (fun _ v (s : Str) => v = .str s) (fun _ _ _ _ _ h => h) (fun j L => L = (ps.take j).map (·.1)) rfl hD (by omega) (fun H1 s1 => SqL.of (s1 _ _ hl)) ?_ ?_⟩
    · rintro i x H1 H1' L hi s1 rfl ⟨rfl, hx1⟩ KT KF kt kf
      have hi' : i < ps.length := by omega
      obtain ⟨u, rfl, eu⟩ := pairedGet pr hx1 (List.getElem?_eq_getElem hi')
      refine ⟨u, _, rfl, SqT.of (s1 _ _ eu), rfl, _, _, rfl, g_name ⟨_, _, rfl, g_name ⟨rfl, ?_⟩⟩⟩
      refine ⟨rfl, ?_⟩
      unfold tYes
      refine iteT <| g_cb <| g_cons <| g_var rfl <| g_nil ⟨_, rfl, ?_⟩
      exact kt _ _ ps[i].1 (Same.refl _) (take_map_succ hi').symm rfl
    rintro H1 acc L s1 d1 pr1 rfl
    have e1 := pairedEq pr1
    rw [lx, List.take_length] at e1
    subst e1
    refine g_nil ⟨D, ps.map (·.1), rfl, SqL.of d1, by rw [List.length_map]; omega, fun ys N pmy sy hN => g_name ?_⟩
    have ey : ys = rs.map (·.1) := names_unique (pmy.trans (pm.map (·.1)).symm) sy cr
    subst ey
    have s2 := s1.trans (sameNew (o := HO.lst ((rs.map (·.1)).map V.str)) hN)
    have n2 : upd H1 N (.lst ((rs.map (·.1)).map V.str)) N = some (.lst ((rs.map (·.1)).map V.str)) := upd_same
    generalize upd H1 N (.lst ((rs.map (·.1)).map V.str)) = H2 at s2 n2
    dsimp only
    refine g_seq <| g_asg <| g_cb <| g_cons <| g_var rfl <| g_nil <| g_dictP (s2 _ _ hl) (pairedMono (fun _ _ h => PairAt.same h s2) pr) ndp fun d hd => g_name ?_
    have s3 := s2.trans (sameNew (o := HO.dK (kvOf ps)) hd)
    have n3 : upd H2 d (.dK (kvOf ps)) N = some (.lst ((rs.map (·.1)).map V.str)) := sameNew hd _ _ n2
    have d3 : upd H2 d (.dK (kvOf ps)) d = some (.dK (kvOf ps)) := upd_same
    generalize upd H2 d (.dK (kvOf ps)) = H3 at s3 n3 d3
    dsimp only
    have lr : (rs.map (·.1)).length ≤ 1000 := by
      rw [List.length_map, pm.length_eq]
      omega
    have getC : ∀ {G : Hp} {τ : L2.St} {Q2 : VK} {n : Str}, n ∈ rs.map (·.1) → τ[4]? = some (some (.ref d)) → τ[10]? = some (some (.str n)) → G d = some (.dK (kvOf ps)) → Q2 (.int (countOf rs n)) G → tDGet (tVar 4) (tVar 10) τ G Q2 := fun {G τ Q2 n} hn h4 h10 hd q2 => by
      refine g_dget <| g_var h4 <| g_var h10 ⟨d, _, rfl, ?_, q2⟩
      obtain ⟨r, hr, rfl⟩ := List.mem_map.mp hn
      have e : countOf rs r.1 = r.2 := count_mem cr.good.nd hr
      rw [e]
      exact .inl ⟨_, Sum.inr r.1, .inl hd, rfl, (kvOf_get ndp (pm.mem_iff.mp hr)).symm⟩
    -- the line
    have bnd : ∀ n, n ∈ rs.map (·.1) → n.length ≤ 8 ∧ 1 ≤ countOf rs n ∧ countOf rs n < 10 ^ 45 := fun n hn => by
      obtain ⟨r, hr, rfl⟩ := List.mem_map.mp hn
      have e : countOf rs r.1 = r.2 := count_mem cr.good.nd hr
      rw [e]
      exact ⟨nameB_le8 (cr.good.name r hr), cr.good.count r hr, sm r (pm.mem_iff.mp hr)⟩
    have p45 : (10 : Int) ^ 45 < 10 ^ 64 := by decide +kernel
    have el : (rs.map (·.1)).map (fun n => (((toString (countOf rs n) : String) : Str) ++ (" " : Str)) ++ n) = rs.map pairTx := by
      rw [List.map_map]
      refine List.map_congr_left fun r hr => ?_
      show (((toString (countOf rs r.1) : String) : Str) ++ (" " : Str)) ++ r.1 = pairTx r
      rw [count_mem cr.good.nd hr]
      unfold pairTx
      rw [empty_app]
    refine g_seq <| g_asg ⟨⟨_, rfl⟩, g_lclist <| g_var rfl <| lsOn 10 (REq V.str) (req_mono _) (fun n => (((toString (countOf rs n) : String) : Str) ++ (" " : Str)) ++ n) n3 lr (Nat.le_of_ble_eq_true rfl) (fun n H4 Q4 hn s4 k4 => ?_) fun H4 N4 acc4 s4 n4 pr4 => ?_⟩
    · obtain ⟨b1, b2, b3⟩ := bnd n hn
      have lg := log_small (n := countOf rs n) (by omega) (by omega)
      have t1 := int_text_len_1921 lg
      have c1 : (" " : Str).length = 1 := rfl
      refine g_op <| g_op <| g_cb <| g_cons <| getC hn rfl rfl (s4 _ _ d3) <| g_nil ⟨_, rfl, lg, g_c ⟨_, _, rfl, rfl, by rw [sizeLine_eq]; omega, g_var rfl ⟨_, _, rfl, rfl, by rw [sizeLine_eq]; simp only [strLen_append]; omega, ?_⟩⟩⟩
      exact k4 _ _ (Same.refl _) rfl
    have e4 := req_eq pr4
    rw [el] at e4
    subst e4
    have smr : SmallP rs := fun r hr => ⟨nameB_le8 (cr.good.name r hr), by have := cr.good.count r hr; omega, by have := sm r (pm.mem_iff.mp hr); omega⟩
    have fr : rs.length ≤ 6 := by rw [pm.length_eq]; exact few
    refine ⟨", ", N4, rs.map pairTx, rfl, rfl, .inl (SqL.of n4), ?_, g_name ?_⟩
    · have z := sumLen_le (l := rs.map pairTx) (k := 1940) fun y hy => by
        obtain ⟨r, hr, rfl⟩ := List.mem_map.mp hy
        exact pairTx_len (smr r hr)
      rw [List.length_map] at z ⊢
      have c2 : (", " : Str).length = 2 := rfl
      rw [c2]
      omega
    rw [show Txt.join ", " (rs.map pairTx) = pairsTx rs from rfl]
    dsimp only
    have s34 := s3.trans s4
    -- the size
    have es : ((rs.map (·.1)).map (countOf rs)).sum = sumP rs := by
      unfold sumP
      congr 1
      rw [List.map_map]
      exact List.map_congr_left fun r hr => count_mem cr.good.nd hr
    refine g_seq <| g_asg <| g_cb <| g_cons <| g_lclist <| g_var rfl <| lsOn 10 (REq V.int) (req_mono _) (countOf rs) (s4 _ _ n3) lr (Nat.le_of_ble_eq_true rfl) (fun n H5 Q5 hn s5 k5 => getC hn rfl rfl (s5 _ _ (s4 _ _ d3)) (k5 _ _ (Same.refl _) rfl)) fun H5 N5 acc5 s5 n5 pr5 => ?_
    have e5 := req_eq pr5
    subst e5
    refine g_nil ⟨N5, (rs.map (·.1)).map (countOf rs), rfl, SqL.of n5, g_name ?_⟩
    rw [es]
    dsimp only
    have s35 := s34.trans s5
    obtain ⟨z0, z1⟩ : 0 ≤ sumP rs ∧ sumP rs < 10 ^ 64 := by
      obtain ⟨y1, y2⟩ := sumP_le (B := 10 ^ 45) (rs := rs) fun r hr => ⟨by have := cr.good.count r hr; omega, sm r (pm.mem_iff.mp hr)⟩
      have f6 : (rs.length : Int) ≤ 6 := by omega
      have y3 : (rs.length : Int) * 10 ^ 45 ≤ 6 * 10 ^ 45 := Int.mul_le_mul_of_nonneg_right f6 (by decide +kernel)
      have y4 : (6 : Int) * 10 ^ 45 < 10 ^ 64 := by decide +kernel
      exact ⟨y1, by omega⟩
    have lgl : ((rs.length : Int)).natAbs.log2 < 1920 := log_small (by omega) (by
      have : (6 : Int) < 10 ^ 64 := by decide +kernel
      omega)
    have lgs := log_small z0 z1
    have tl := int_text_len_1921 lgl
    have ts1 := int_text_len_1921 lgs
    have c1 : ("Load(" : Str).length = 5 := rfl
    have c2 : (" names, size " : Str).length = 13 := rfl
    have c3 : (")" : Str).length = 1 := rfl
    have eln : (((rs.map (·.1)).map V.str).length : Int) = (rs.length : Int) := by rw [List.length_map, List.length_map]
    refine g_seq <| g_asg <| g_op <| g_op <| g_op <| g_op <| g_c <| g_cb <| g_cons <| g_cb <| g_cons <| g_var rfl <| g_nil <| g_lenLs (s5 _ _ (s4 _ _ n3)) <| g_nil ?_
    rw [eln]
    refine ⟨_, rfl, lgl, _, _, rfl, rfl, by rw [sizeLine_eq]; omega, g_c ⟨_, _, rfl, rfl, by rw [sizeLine_eq]; simp only [strLen_append]; omega, g_cb <| g_cons <| g_var rfl <| g_nil ⟨_, rfl, lgs, _, _, rfl, rfl, by rw [sizeLine_eq]; simp only [strLen_append]; omega, g_c ⟨_, _, rfl, rfl, by rw [sizeLine_eq]; simp only [strLen_append]; omega, g_name ?_⟩⟩⟩⟩
    have etx : (((("Load(" : Str) ++ ((toString (rs.length : Int) : String) : Str)) ++ (" names, size " : Str)) ++ ((toString (sumP rs) : String) : Str)) ++ (")" : Str) = loadText rs := by
      unfold loadText
      rw [empty_app]
    rw [etx]
    dsimp only
    -- what is told
    have la5 := la.same s35
    obtain ⟨dx, t5, d5, ts5, ea5, rest5⟩ := id la5
    refine g_seq <| g_asg <| g_lst <| g_cons <| g_prop <| g_var rfl ⟨a, dx, _, rfl, ea5, a, rs, rfl, la5, fun t us sqt tzt prt => ?_⟩
    refine g_cons <| g_prop <| g_var rfl ⟨a, dx, _, rfl, ea5, a, rs, rfl, la5, by omega, fun H6 t6 s6 sq6 => ?_⟩
    refine g_cons <| g_prop <| g_var rfl ⟨a, dx, _, rfl, s6 _ _ ea5, a, rs, rfl, la5.same s6, by omega, fun H7 s7 => ?_⟩
    have s67 := s6.trans s7
    refine g_cons <| g_cb <| g_cons <| g_var rfl <| g_nil ⟨a, dx, _, rfl, s67 _ _ ea5, a, rs, rfl, la5.same s67, (rs.length : Int), rfl, by omega, by omega, ?_⟩
    refine g_cons <| g_cb <| g_cons <| g_var rfl <| g_nil ⟨a, dx, _, rfl, s67 _ _ ea5, a, rs, rfl, la5.same s67, by omega, smr, fun H8 s8 => ⟨_, rfl, ?_⟩⟩
    have s68 := s67.trans s8
    refine g_cons <| g_cb <| g_cons <| g_var rfl <| g_nil ⟨a, dx, _, rfl, s68 _ _ ea5, a, rs, rfl, la5.same s68, by omega, z0, z1, fun H9 s9 => ⟨_, rfl, ?_⟩⟩
    have s69 := s68.trans s9
    refine g_cons <| g_cb <| g_cons <| g_var rfl <| g_nil ⟨a, dx, _, rfl, s69 _ _ ea5, a, rs, rfl, la5.same s69, (rs.length : Int), rfl, by omega, by omega, (rs.length : Int), rfl, g_nil ⟨(by show 7 ≤ sizeLine; decide), fun T hT => g_name ?_⟩⟩
    have s10 : Same H9 (upd H9 T (.lst [.ref t, .ref t6, .int (sumP rs), .int (rs.length : Int), .str (pairsTx rs), .str (loadText rs), .bl ((rs.length : Int) != 0)])) := sameNew hT
    have eT : upd H9 T (.lst [.ref t, .ref t6, .int (sumP rs), .int (rs.length : Int), .str (pairsTx rs), .str (loadText rs), .bl ((rs.length : Int) != 0)]) T = some (.lst [.ref t, .ref t6, .int (sumP rs), .int (rs.length : Int), .str (pairsTx rs), .str (loadText rs), .bl ((rs.length : Int) != 0)]) := upd_same
    generalize upd H9 T (.lst [.ref t, .ref t6, .int (sumP rs), .int (rs.length : Int), .str (pairsTx rs), .str (loadText rs), .bl ((rs.length : Int) != 0)]) = H10 at s10 eT
    have s510 := s69.trans s10
    have s4_10 := (s4.trans s5).trans s510
    dsimp only
    -- the pairs that are due
    have ep : (rs.map (·.1)).map (fun n => (n, countOf rs n)) = rs := by
      rw [List.map_map]
      refine (List.map_congr_left fun r hr => ?_).trans (List.map_id _)
      show (r.1, countOf rs r.1) = r
      rw [count_mem cr.good.nd hr]
    refine g_seq <| g_asg <| g_cb <| g_cons <| g_lclist <| g_var rfl <| lsOn 10 PairAt PairAt.keep (fun n => (n, countOf rs n)) (s4_10 _ _ n3) lr (Nat.le_of_ble_eq_true rfl) (fun n H11 Q11 hn s11 k11 => ?_) fun H11 N11 acc11 s11 n11 pr11 => ?_
    · exact g_tup <| g_cons <| g_var rfl <| g_cons <| getC hn rfl rfl (s11 _ _ (s4_10 _ _ d3)) <| g_nil ⟨(by show 2 ≤ sizeLine; decide), fun p hp => k11 _ _ (sameNew hp) ⟨p, rfl, upd_same⟩⟩
    rw [ep] at pr11
    refine g_nil ⟨N11, acc11, rfl, SqL.of n11, fun b o hb _ => g_name ?_⟩
    have s12 : Same H11 (upd H11 b (.frz o (.tup acc11))) := sameNew hb
    have eb : upd H11 b (.frz o (.tup acc11)) b = some (.frz o (.tup acc11)) := upd_same
    generalize upd H11 b (.frz o (.tup acc11)) = H12 at s12 eb
    have sqb : SqT K H12 b acc11 := .inl (.inr ⟨o, eb⟩)
    have prb : Paired (PairAt H12) acc11 rs := pairedMono (fun _ _ h => PairAt.same h s12) pr11
    have s10_12 := s11.trans s12
    have s5_12 := s510.trans s10_12
    have s4_12 := s4_10.trans s10_12
    dsimp only
    -- both shown
    obtain ⟨w1, w2, w3, w4⟩ := shown_ok cr.good smr (by omega) z0 z1
    have eN6 : namesV rs = (rs.map (·.1)).map V.str := by
      unfold namesV
      rw [List.map_map]
      rfl
    have dpT : Dp K H12 (.ref T) (shownD rs) := by
      refine .lst (SqL.of (s10_12 _ _ eT)) (.cons (.tup (Same.seqT' s5_12 sqt) (dp_prs (pairedMono (fun _ _ h => PairAt.same h s5_12) prt))) (.cons (.tup (Same.seqT' (((s7.trans s8).trans (s9.trans s10)).trans s10_12) sq6) ?_) (.cons (.int _) (.cons (.int _) (.cons (.str _) (.cons (.str _) (.cons (.bl _) .nil)))))))
      rw [eN6]
      exact dp_names _
    refine g_seq <| g_ifs <| g_test <| g_op <| g_cb <| g_cons <| g_var rfl <| g_nil ⟨T, shownD rs, rfl, dpT, w1, w2, w3, w4, ?_⟩
    refine g_cb <| g_cons <| g_lst <| g_cons <| g_var rfl <| g_cons <| g_cb <| g_cons <| g_var rfl <| g_nil ⟨N, (rs.map (·.1)).map V.str, rfl, SqL.of (s4_12 _ _ n3), fun b2 o2 hb2 _ => ?_⟩
    have s13 : Same H12 (upd H12 b2 (.frz o2 (.tup ((rs.map (·.1)).map V.str)))) := sameNew hb2
    have eb2 : upd H12 b2 (.frz o2 (.tup ((rs.map (·.1)).map V.str))) b2 = some (.frz o2 (.tup ((rs.map (·.1)).map V.str))) := upd_same
    generalize upd H12 b2 (.frz o2 (.tup ((rs.map (·.1)).map V.str))) = H13 at s13 eb2
    refine g_cons <| g_var rfl <| g_cons <| g_cb <| g_cons <| g_var rfl <| g_nil <| g_lenLs (s13 _ _ (s4_12 _ _ n3)) ?_
    rw [eln]
    refine g_cons <| g_var rfl <| g_cons <| g_var rfl <| g_cons <| g_op <| g_var rfl <| g_lst <| g_nil ⟨(by show 0 ≤ sizeLine; decide), fun B0 hB0 => ?_⟩
    have s14 : Same H13 (upd H13 B0 (.lst [])) := sameNew hB0
    have isn : ∀ x ∈ (rs.map (·.1)).map V.str, isS x = true := fun x hx => by
      obtain ⟨y, hy, rfl⟩ := List.mem_map.mp hx
      obtain ⟨r, hr, rfl⟩ := List.mem_map.mp hy
      exact name_strOk (cr.good.name r hr)
    refine g_neL (SqL.of (s14 _ _ (s13 _ _ (s4_12 _ _ n3)))) isn (SqL.of upd_same) ?_
    have ebl : (!decide ((rs.map (·.1)).map V.str = [])) = ((rs.length : Int) != 0) := by
      cases rs with
      | nil => rfl
      | cons r q =>
        have y : (((r :: q).length : Int) != 0) = true := bne_iff_ne.mpr (by
          rw [List.length_cons]
          omega)
        rw [y]
        rfl
    rw [ebl]
    refine g_nil ⟨(by show 7 ≤ sizeLine; decide), fun T2 hT2 => g_nil ?_⟩
    have s15 : Same (upd H13 B0 (.lst [])) (upd (upd H13 B0 (.lst [])) T2 (.lst [.ref b, .ref b2, .int (sumP rs), .int (rs.length : Int), .str (pairsTx rs), .str (loadText rs), .bl ((rs.length : Int) != 0)])) := sameNew hT2
    have eT2 : upd (upd H13 B0 (.lst [])) T2 (.lst [.ref b, .ref b2, .int (sumP rs), .int (rs.length : Int), .str (pairsTx rs), .str (loadText rs), .bl ((rs.length : Int) != 0)]) T2 = some (.lst [.ref b, .ref b2, .int (sumP rs), .int (rs.length : Int), .str (pairsTx rs), .str (loadText rs), .bl ((rs.length : Int) != 0)]) := upd_same
    generalize upd (upd H13 B0 (.lst [])) T2 (.lst [.ref b, .ref b2, .int (sumP rs), .int (rs.length : Int), .str (pairsTx rs), .str (loadText rs), .bl ((rs.length : Int) != 0)]) = H15 at s15 eT2
    have s13_15 := s14.trans s15
    have s12_15 := s13.trans s13_15
    have dpT2 : Dp K H15 (.ref T2) (shownD rs) :=
      .lst (SqL.of eT2) (.cons (.tup (Same.seqT' s12_15 sqb) (dp_prs (pairedMono (fun _ _ h => PairAt.same h s12_15) prb))) (.cons (.tup (.inl (.inr ⟨o2, s13_15 _ _ eb2⟩)) (dp_names _)) (.cons (.int _) (.cons (.int _) (.cons (.str _) (.cons (.str _) (.cons (.bl _) .nil)))))))
    refine ⟨T2, shownD rs, rfl, dpT2, w1, w2, w3, w4, ?_⟩
    refine g_neTx (g_bl (g_iteNF rfl (g_next ?_)))
    dsimp only
    -- the count of each name
    refine g_seq <| g_ifs <| g_test <| g_op <| g_lclist <| g_op <| g_var rfl <| g_lst <| g_cons <| g_var rfl <| g_nil ⟨(by show 1 ≤ sizeLine; decide), fun B1 hB1 => ?_⟩
    have s16 : Same H15 (upd H15 B1 (.lst [.str z])) := sameNew hB1
    have eB1 : upd H15 B1 (.lst [.str z]) B1 = some (.lst [.str z]) := upd_same
    generalize upd H15 B1 (.lst [.str z]) = H16 at s16 eB1
    have lmm : ((rs.map (·.1)).map V.str).length = rs.length := by rw [List.length_map, List.length_map]
    refine ⟨N, B1, _, _, rfl, rfl, s16 _ _ (s12_15 _ _ (s4_12 _ _ n3)), eB1, by rw [sizeLine_eq, lmm, List.length_singleton]; omega, fun B2 hB2 => ?_⟩
    have s17 : Same H16 (upd H16 B2 (.lst ((rs.map (·.1)).map V.str ++ [.str z]))) := sameNew hB2
    have eB2 : upd H16 B2 (.lst ((rs.map (·.1)).map V.str ++ [.str z])) B2 = some (.lst ((rs.map (·.1) ++ [z]).map V.str)) := by
      rw [upd_same, List.map_append]
      rfl
    generalize upd H16 B2 (.lst ((rs.map (·.1)).map V.str ++ [.str z])) = H17 at s17 eB2
    have s15_17 := s16.trans s17
    have s4_17 := (s4_12.trans s12_15).trans s15_17
    have s5_17 := (s5_12.trans s12_15).trans s15_17
    have nkOf : ∀ {n : Str} (G : Hp), nameB n = true → NameK K G (.str n) (some n) := fun {n} G nb => by
      have y := NameK.str (K := K) (H := G) (nameB_len nb)
      rw [if_pos nb] at y
      exact y
    refine lsOn 10 (REq V.int) (req_mono _) (countOf rs) eB2 (by rw [List.length_append, List.length_map, List.length_singleton]; omega) (Nat.le_of_ble_eq_true rfl) (fun n G Q9 hn sg k9 => ?_) fun H18 N18 acc18 s18 n18 pr18 => ?_
    · have nb : nameB n = true := by
        rcases List.mem_append.mp hn with h | h
        · obtain ⟨r, hr, rfl⟩ := List.mem_map.mp h
          exact cr.good.name r hr
        · rw [List.mem_singleton.mp h]
          exact nz
      exact g_op <| g_var rfl <| g_var rfl ⟨a, dx, _, rfl, sg _ _ (s5_17 _ _ ea5), a, rs, _, some n, rfl, la5.same (s5_17.trans sg), nkOf G nb, fun G2 sg2 => k9 _ _ sg2 rfl⟩
    have e18 := req_eq pr18
    subst e18
    refine g_op <| g_lclist <| g_var rfl <| lsOn 10 (REq V.int) (req_mono _) (countOf rs) (s18 _ _ (s4_17 _ _ n3)) lr (Nat.le_of_ble_eq_true rfl) (fun n G Q9 hn sg k9 => getC hn rfl rfl (sg _ _ (s18 _ _ (s4_17 _ _ d3))) (k9 _ _ (Same.refl _) rfl)) fun H19 N19 acc19 s19 n19 pr19 => ?_
    have e19 := req_eq pr19
    subst e19
    refine g_lst <| g_cons <| g_c <| g_nil ⟨(by show 1 ≤ sizeLine; decide), fun B3 hB3 => ?_⟩
    have s20 : Same H19 (upd H19 B3 (.lst [.int 0])) := sameNew hB3
    have eB3 : upd H19 B3 (.lst [.int 0]) B3 = some (.lst [.int 0]) := upd_same
    generalize upd H19 B3 (.lst [.int 0]) = H20 at s20 eB3
    refine ⟨N19, B3, _, _, rfl, rfl, s20 _ _ n19, eB3, by rw [sizeLine_eq, List.length_map, List.length_map, List.length_map, List.length_singleton]; omega, fun B4 hB4 => ?_⟩
    have s21 : Same H20 (upd H20 B4 (.lst (((rs.map (·.1)).map (countOf rs)).map V.int ++ [.int 0]))) := sameNew hB4
    have eB4 : upd H20 B4 (.lst (((rs.map (·.1)).map (countOf rs)).map V.int ++ [.int 0])) B4 = some (.lst (((rs.map (fun p : Str × Int => p.1)).map (countOf rs) ++ [(0 : Int)]).map V.int)) := by
      rw [upd_same, List.map_append]
      rfl
    generalize upd H20 B4 (.lst (((rs.map (·.1)).map (countOf rs)).map V.int ++ [.int 0])) = H21 at s21 eB4
    have s18_21 := (s19.trans s20).trans s21
    have ezc : countOf rs z = 0 := count_out fun m hm => oz (List.mem_map.mpr ⟨(z, m), pm.mem_iff.mp hm, rfl⟩)
    have eints : (rs.map (·.1) ++ [z]).map (countOf rs) = (rs.map (·.1)).map (countOf rs) ++ [0] := by
      rw [List.map_append]
      show _ ++ [countOf rs z] = _
      rw [ezc]
    refine ⟨_, _, Dp.lst (SqL.of (s18_21 _ _ n18)) (dpI _), Dp.lst (SqL.of eB4) (dpI _), shapedI _, shapedI _, ?_⟩
    rw [eints, eqvL _ _ rfl]
    refine g_bl (g_iteNF rfl (g_next ?_))
    dsimp only
    have s4_21 := (s4_17.trans s18).trans s18_21
    have s5_21 := (s5_17.trans s18).trans s18_21
    -- what is in it
    refine g_seq <| g_ifs <| g_or <| g_test <| g_op <| g_lclist <| g_var rfl <| lsOn 10 (REq V.bl) (req_mono _) (fun _ => true) (s4_21 _ _ n3) lr (Nat.le_of_ble_eq_true rfl) (fun n G Q9 hn sg k9 => ?_) fun H22 N22 acc22 s22 n22 pr22 => ?_
    · have nb : nameB n = true := by
        obtain ⟨r, hr, rfl⟩ := List.mem_map.mp hn
        exact cr.good.name r hr
      refine g_op <| g_var rfl <| g_var rfl ⟨a, dx, _, rfl, sg _ _ (s5_21 _ _ ea5), a, rs, _, some n, rfl, la5.same (s5_21.trans sg), nkOf G nb, fun G2 sg2 => ⟨_, rfl, ?_⟩⟩
      refine k9 _ _ sg2 ?_
      show V.bl (decide (n ∈ rs.map (·.1))) = V.bl true
      rw [decide_eq_true hn]
    have e22 := req_eq pr22
    rw [map_true, List.length_map] at e22
    subst e22
    refine g_op <| g_lst <| g_cons <| g_c <| g_nil ⟨(by show 1 ≤ sizeLine; decide), fun B5 hB5 => ?_⟩
    have s23 : Same H22 (upd H22 B5 (.lst [.bl true])) := sameNew hB5
    have eB5 : upd H22 B5 (.lst [.bl true]) B5 = some (.lst [.bl true]) := upd_same
    generalize upd H22 B5 (.lst [.bl true]) = H23 at s23 eB5
    refine g_cb <| g_cons <| g_var rfl <| g_nil <| g_lenLs (s23 _ _ (s22 _ _ (s4_21 _ _ n3))) ?_
    rw [eln]
    refine ⟨B5, (rs.length : Int), _, rfl, rfl, eB5, by omega, by omega, by rw [sizeLine_eq, List.length_singleton, Int.toNat_natCast]; omega, fun B6 hB6 => ?_⟩
    rw [Int.toNat_natCast, rep_bl]
    have s24 : Same H23 (upd H23 B6 (.lst ((List.replicate rs.length true).map V.bl))) := sameNew hB6
    have eB6 : upd H23 B6 (.lst ((List.replicate rs.length true).map V.bl)) B6 = some (.lst ((List.replicate rs.length true).map V.bl)) := upd_same
    generalize upd H23 B6 (.lst ((List.replicate rs.length true).map V.bl)) = H24 at s24 eB6
    have s21_24 := (s22.trans s23).trans s24
    have s5_24 := s5_21.trans s21_24
    refine g_neBs ((s23.trans s24) _ _ n22) eB6 (g_bl (iteF ?_))
    have oz' : z ∉ rs.map (·.1) := fun hz => oz ((pm.map (·.1)).mem_iff.mp hz)
    refine g_test <| g_op <| g_var rfl <| g_var rfl ⟨a, dx, _, rfl, s5_24 _ _ ea5, a, rs, _, some z, rfl, la5.same s5_24, nkOf H24 nz, fun H25 s25 => ⟨_, rfl, ?_⟩⟩
    show _
    have ezf : (decide (z ∈ rs.map (·.1))) = false := decide_eq_false oz'
    simp only [ezf]
    refine g_bl (iteF (g_next ?_))
    dsimp only
    have s5_25 := s5_24.trans s25
    -- read again
    have tok := textOk_line cr.good smr (by omega)
    refine g_ret <| g_andV <| g_op ?_
    refine ⟨rfl, g_cons <| g_var rfl <| g_nil ⟨_, rfl, .inr ⟨pairsTx rs, rfl, tok, .inr ⟨rs, read_line cr, fun H26 x26 hx26 s26 l26 => ?_⟩⟩⟩⟩
    refine g_var rfl <| g_eqLd l26 (la5.same (s5_25.trans s26)) cr fun H27 s27 => ⟨true, rfl, iteT ?_⟩
    -- its pairs
    have la27 := la5.same (s5_25.trans (s26.trans s27))
    refine g_op <| g_prop ?_
    refine ⟨rfl, g_cons <| g_var rfl <| g_nil ⟨_, rfl, .inr ⟨pairsTx rs, rfl, tok, .inr ⟨rs, read_line cr, fun H28 x28 hx28 s28 l28 => ?_⟩⟩⟩⟩
    obtain ⟨dx28, t28, d28, ts28, ea28, rest28⟩ := id l28
    refine ⟨x28, dx28, _, rfl, ea28, x28, rs, rfl, l28, fun t' us' sq' tz' pr' => ?_⟩
    have s12_28 : Same H12 H28 := (((((((s12_15.trans s15_17).trans s18).trans s18_21).trans s21_24).trans s25).trans s26).trans s27).trans s28
    have sqb28 : SqT K H28 b acc11 := Same.seqT' s12_28 sqb
    have prb28 : Paired (PairAt H28) acc11 rs := pairedMono (fun _ _ h => PairAt.same h s12_28) prb
    have la28 := la27.same s28
    refine g_var rfl ⟨pairsD rs, pairsD rs, Dp.tup sq' (dp_pairs pr' cr.good.name), Dp.tup sqb28 (dp_pairs prb28 cr.good.name), shaped_pairs cr.good.name, shaped_pairs cr.good.name, ?_⟩
    rw [eqv_pairs, decide_eq_true rfl]
    refine ⟨true, rfl, iteT ?_⟩
    -- made of the pairs
    refine g_op ?_
    refine ⟨rfl, g_cons <| g_var rfl <| g_nil ?_⟩
    refine of_good sqb28 prb28 cr.good (by omega) fun H29 x29 rs29 hx29 s29 od29 l29 => ?_
    have e29 := can_ordered cr od29
    subst e29
    refine g_var rfl <| g_eqLd l29 (la28.same s29) cr fun H30 s30 => ?_
    exact q H30 ((((((s35.trans s5_25).trans s26).trans s27).trans s28).trans s29).trans s30)
end
end My
set_option Elab.async false
set_option maxRecDepth 100000
set_option maxHeartbeats 8000000
namespace My
open PySem PySem.Spec PyProof.Rows L2
/-! ### bent texts -/
def badTx : List Str := ["0 a", "01 a", "-1 a", "1  a", "a 1", "1 a, 1 a", "1 b, 1 a", "1 a,1 b", "1 A", "1", "a", " ", "+1 a", "1 a\n", "1.0 a"]
theorem badTx_none : ∀ z ∈ badTx, readR z = none := by decide +kernel
def okB (z : Str) : Bool := decide (z.length + 2 ≤ 100) && ((Txt.split z ", ").all fun p => decide (p.length ≤ 100) && decide ((Txt.partition p " ").1.length ≤ 64) && decide ((partN p).length ≤ 100)) && decide ((Txt.split z ", ").length ≤ 60)
theorem okB_ok {z : Str} (h : okB z = true) : TextOk z := by
  unfold okB at h
  simp only [Bool.and_eq_true, decide_eq_true_eq, List.all_eq_true] at h
  obtain ⟨⟨h1, h2⟩, h3⟩ := h
  refine ⟨Nat.le_trans h1 (by decide), fun p hp => ?_, h3⟩
  obtain ⟨⟨a, b⟩, c⟩ := h2 p hp
  exact ⟨Nat.le_trans a (by decide), b, Nat.le_trans c (by decide)⟩
theorem badTx_ok : ∀ z ∈ badTx, TextOk z := fun z hz => okB_ok ((show ∀ z ∈ badTx, okB z = true by decide +kernel) z hz)
end My
set_option Elab.async false
set_option maxRecDepth 100000
set_option maxHeartbeats 8000000
namespace My
open PySem PySem.Spec PyProof.Rows L2
open TL
/-! ### bent texts made of a line -/
theorem joinL_snoc (S q : List Nat) : ∀ {ps : List (List Nat)}, ps ≠ [] → joinL S (ps ++ [q]) = joinL S ps ++ (S ++ q)
  | [], h => absurd rfl h
  | [p], _ => rfl
  | p :: p2 :: r, _ => by
    have ih := joinL_snoc S q (ps := p2 :: r) (by simp)
    show p ++ (S ++ joinL S ((p2 :: r) ++ [q])) = (p ++ (S ++ joinL S (p2 :: r))) ++ (S ++ q)
    rw [ih]
    simp only [List.append_assoc]
theorem join_snoc (y q : Str) {ps : List Str} (h : ps ≠ []) : Txt.join y (ps ++ [q]) = Txt.join y ps ++ y ++ q := by
  apply ext_tl
  rw [join_eq, join_eq, tl_join, tl_append, tl_append, tl_join, List.map_append, List.append_assoc]
  exact joinL_snoc _ _ fun z => h (List.map_eq_nil_iff.mp z)
theorem ascR_none {l : Str} {rs : List (Option (Str × Int))} (h : none ∈ rs) : ascR l rs ≠ true := fun z => by
  rw [ascR_some z] at h
  obtain ⟨p, _, e⟩ := List.mem_map.mp h
  cases e
theorem readR_parts {z : Str} {ps : List Str} (ne : z ≠ "") (h : Txt.split z ", " = ps) (b : ascR "" (ps.map partR) ≠ true) : readR z = none := by
  unfold readR
  rw [if_neg ne, h, if_neg b]
theorem comma_tl : tl (", " : Str) = 44 :: [32] := by decide +kernel
theorem split_parts {ps : List Str} (ne : ps ≠ []) (h : ∀ p ∈ ps, (44 : Nat) ∉ tl p) : Txt.split (Txt.join ", " ps) ", " = ps := split_join (s := 44) (S := [32]) (by decide +kernel) (by decide +kernel) ne h
theorem free_tx {rs : List (Str × Int)} (g : GoodP rs) : ∀ p ∈ rs.map pairTx, (44 : Nat) ∉ tl p := fun p hp => by
  obtain ⟨q, hq, rfl⟩ := List.mem_map.mp hp
  exact tx_free (g.name q hq) (g.count q hq)
/-- line + ", " -/
theorem bent_comma {rs : List (Str × Int)} (g : GoodP rs) (ne : rs ≠ []) : readR (pairsTx rs ++ ", ") = none := by
  have e : pairsTx rs ++ ", " = Txt.join ", " (rs.map pairTx ++ [("" : Str)]) := by
    rw [join_snoc _ _ fun z => ne (List.map_eq_nil_iff.mp z)]
    apply ext_tl
    rw [tl_append, tl_append, tl_append]
    show _ = (tl (pairsTx rs) ++ tl ", ") ++ tl ""
    rw [show tl ("" : Str) = [] by decide +kernel, List.append_nil]
  rw [e]
  have sp : Txt.split (Txt.join ", " (rs.map pairTx ++ [("" : Str)])) ", " = rs.map pairTx ++ [("" : Str)] := split_parts (by simp) fun p hp => by
    rcases List.mem_append.mp hp with h | h
    · exact free_tx g p h
    · rw [List.mem_singleton.mp h]
      decide +kernel
  refine readR_parts (fun z => ?_) sp (ascR_none ?_)
  · rw [← e] at z
    have y := congrArg tl z
    rw [tl_append, comma_tl] at y
    have : tl ("" : Str) = [] := by decide +kernel
    rw [this] at y
    exact absurd y (by simp)
  · rw [List.map_append]
    refine List.mem_append_right _ ?_
    have : partR "" = none := by decide +kernel
    rw [List.map_singleton, this]
    exact List.mem_singleton.mpr rfl
theorem joinL_cons (S p : List Nat) {l : List (List Nat)} (h : l ≠ []) : joinL S (p :: l) = p ++ (S ++ joinL S l) := by
  cases l with
  | nil => exact absurd rfl h
  | cons a r => rfl
theorem joinL_app (S q z : List Nat) : ∀ ps : List (List Nat), joinL S (ps ++ [q]) ++ z = joinL S (ps ++ [q ++ z])
  | [] => rfl
  | p :: r => by
    rw [List.cons_append, List.cons_append, joinL_cons _ _ (by simp), joinL_cons _ _ (by simp), List.append_assoc, List.append_assoc, joinL_app S q z r]
theorem spl_snoc {s : Nat} {S : List Nat} : ∀ {ps : List (List Nat)} {q : List Nat}, (∀ p ∈ ps, s ∉ p) → (∀ i, i < q.length → pre (s :: S) (q.drop i) = false) → spl (s :: S) 0 [] (joinL (s :: S) (ps ++ [q])) = ps ++ [q]
  | [], q, _, hq => spl_last hq
  | p :: r, q, hp, hq => by
    rw [List.cons_append, joinL_cons _ _ (by simp), spl_part1 (hp p List.mem_cons_self), spl_snoc (fun y hy => hp y (List.mem_cons_of_mem _ hy)) hq]
    rfl
theorem split_snoc {ps : List Str} {q : Str} (hp : ∀ p ∈ ps, (44 : Nat) ∉ tl p) (hq : ∀ i, i < (tl q).length → pre [44, 32] ((tl q).drop i) = false) : Txt.split (Txt.join ", " (ps ++ [q])) ", " = ps ++ [q] := by
  apply map_tl_inj
  rw [split_spl _ _ (by rw [comma_tl]; simp) (kind_ok (by decide +kernel)), comma_tl, join_eq, tl_join, comma_tl, List.map_append]
  refine spl_snoc (fun p h => ?_) hq
  obtain ⟨x, hx, rfl⟩ := List.mem_map.mp h
  exact hp x hx
theorem line_app (ini : List (Str × Int)) (l : Str × Int) (z : Str) : pairsTx (ini ++ [l]) ++ z = Txt.join ", " (ini.map pairTx ++ [pairTx l ++ z]) := by
  unfold pairsTx
  apply ext_tl
  rw [tl_append, join_eq, join_eq, tl_join, tl_join, List.map_append, List.map_append, List.map_append]
  show joinL _ (_ ++ [tl (pairTx l)]) ++ tl z = joinL _ (_ ++ [tl (pairTx l ++ z)])
  rw [joinL_app, tl_append]
theorem tx_cut {p : Str × Int} {n : Nat} (e : p.2 = (n : Int)) (z : Str) : Txt.partition (pairTx p ++ z) " " = (Str.ofString (toString ((n : Nat) : Int)), (" " : Str), p.1 ++ z) := by
  have h : pairTx p ++ z = Str.ofString (toString ((n : Nat) : Int)) ++ " " ++ (p.1 ++ z) := by
    unfold pairTx
    rw [empty_app, e]
    apply ext_tl
    simp only [tl_append, List.append_assoc]
  rw [h]
  refine partition_app (s := 32) (S := []) (by decide +kernel) ?_
  rw [tl_num]
  exact numL_free (.inl (by decide))
theorem name_bad {s z : Str} {c : Nat} (hc : c ∈ tl z) (lt : c < 48) : nameB (s ++ z) = false := by
  cases h : nameB (s ++ z) with
  | false => rfl
  | true =>
    have := name_signs h c (by
      show c ∈ tl (s ++ z)
      rw [tl_append]
      exact List.mem_append_right _ hc)
    omega
theorem part_bent {p : Str × Int} {z : Str} {c : Nat} (hc : c ∈ tl z) (lt : c < 48) (h0 : 0 ≤ p.2) : partR (pairTx p ++ z) = none := by
  obtain ⟨n, hn⟩ := Int.eq_ofNat_of_zero_le h0
  unfold partR partN partF
  rw [tx_cut hn]
  dsimp only
  unfold nameO
  rw [name_bad hc lt, if_neg (by decide)]
  rfl
theorem part_head (x : Str) : partR (" " ++ x) = none := by
  have h : Txt.partition (" " ++ x) " " = (("" : Str), (" " : Str), x) := by
    have e : (" " : Str) ++ x = ("" : Str) ++ " " ++ x := by
      apply ext_tl
      rw [tl_append, tl_append, tl_append]
      rfl
    rw [e]
    exact partition_app (s := 32) (S := []) (by decide +kernel) (by decide +kernel)
  unfold partR partF
  rw [h]
  have f : figV "" = none := rfl
  rw [f]
  show pairOf _ none = none
  cases nameO (partN (" " ++ x)) <;> rfl
theorem app_ne {a b : Str} (h : tl a ≠ [] ∨ tl b ≠ []) : a ++ b ≠ "" := fun e => by
  have y := congrArg tl e
  rw [tl_append] at y
  have z : tl ("" : Str) = [] := rfl
  rw [z, List.append_eq_nil_iff] at y
  rcases h with h | h
  · exact h y.1
  · exact h y.2
theorem tx_ok {p : Str × Int} (h : p.1.length ≤ 8 ∧ 0 ≤ p.2 ∧ p.2 < 10 ^ 64) {z : Str} (hz : z.length ≤ 20) : PartOk (pairTx p ++ z) := by
  obtain ⟨a, b, c⟩ := h
  obtain ⟨n, hn⟩ := Int.eq_ofNat_of_zero_le b
  have l := pairTx_len2 (p := p) ⟨a, b, c⟩
  refine ⟨by rw [sizeLine_eq, strLen_append]; omega, ?_, ?_⟩
  · rw [tx_cut hn]
    have y := int_len64 b c
    rw [hn] at y
    exact y
  · unfold partN
    rw [tx_cut hn]
    show (p.1 ++ z).length ≤ sizeLine
    rw [sizeLine_eq, strLen_append]
    omega
theorem tx_ok0 {p : Str × Int} (h : p.1.length ≤ 8 ∧ 0 ≤ p.2 ∧ p.2 < 10 ^ 64) : PartOk (pairTx p) := by
  have e : pairTx p = pairTx p ++ "" := by
    apply ext_tl
    rw [tl_append]
    show _ = _ ++ []
    rw [List.append_nil]
  rw [e]
  exact tx_ok h (by decide)
/-- a text that is none, of no great length -/
def BentT (z : Str) : Prop := readR z = none ∧ TextOk z
theorem bent_of {z : Str} {ps : List Str} (ne : z ≠ "") (sp : Txt.split z ", " = ps) (b : ascR "" (ps.map partR) ≠ true) (len : z.length ≤ 100000) (ok : ∀ p ∈ ps, PartOk p) (few : ps.length ≤ 60) : BentT z :=
  ⟨readR_parts ne sp b, ⟨by rw [sizeLine_eq]; omega, by rw [sp]; exact ok, by rw [sp]; exact few⟩⟩
section
variable {rs : List (Str × Int)}
theorem line_big (s : SmallP rs) (few : rs.length ≤ 50) {z : Str} (hz : z.length ≤ 20) : (pairsTx rs ++ z).length ≤ 100000 := by
  have := line_len s
  rw [strLen_append]
  omega
/-- a sign behind the line -/
theorem bent_last {z : Str} {c : Nat} (g : GoodP rs) (s : SmallP rs) (few : rs.length ≤ 50) (ne : rs ≠ []) (hz : tl z = [c]) (hc : c = 44 ∨ c = 32) : BentT (pairsTx rs ++ z) := by
  obtain ⟨ini, l, rfl⟩ : ∃ ini l, rs = ini ++ [l] := ⟨rs.dropLast, rs.getLast ne, (List.dropLast_concat_getLast ne).symm⟩
  have zl : z.length = 1 := by rw [len_tl, hz]; rfl
  have big := line_big s few (z := z) (by omega)
  have ml : l ∈ ini ++ [l] := List.mem_append_right _ (List.mem_singleton.mpr rfl)
  have mi : ∀ p ∈ ini, p ∈ ini ++ [l] := fun p hp => List.mem_append_left _ hp
  have fl := tx_free (g.name l ml) (g.count l ml)
  have lt : c < 48 := by omega
  have cz : c ∈ tl z := by rw [hz]; exact List.mem_singleton.mpr rfl
  have sp : Txt.split (pairsTx (ini ++ [l]) ++ z) ", " = ini.map pairTx ++ [pairTx l ++ z] := by
    rw [line_app]
    refine split_snoc (fun p hp => ?_) fun i hi => ?_
    · obtain ⟨q, hq, rfl⟩ := List.mem_map.mp hp
      exact tx_free (g.name q (mi q hq)) (g.count q (mi q hq))
    · rw [tl_append, hz] at hi ⊢
      rw [List.length_append, List.length_singleton] at hi
      by_cases h : i < (tl (pairTx l)).length
      · exact free_of fl i h
      · have e : i = (tl (pairTx l)).length := by omega
        rw [e, List.drop_left]
        rcases hc with rfl | rfl <;> rfl
  refine bent_of (app_ne (.inr (by rw [hz]; simp))) sp (ascR_none ?_) big (fun p hp => ?_) ?_
  · rw [List.map_append, List.map_singleton, part_bent cz lt (by have := g.count l ml; omega)]
    exact List.mem_append_right _ (List.mem_singleton.mpr rfl)
  · rcases List.mem_append.mp hp with h | h
    · obtain ⟨q, hq, rfl⟩ := List.mem_map.mp h
      exact tx_ok0 (s q (mi q hq))
    · rw [List.mem_singleton.mp h]
      exact tx_ok (s l ml) (by omega)
  · rw [List.length_append, List.length_map, List.length_singleton]
    rw [List.length_append, List.length_singleton] at few
    omega
/-- a space ahead of it -/
theorem bent_first (g : GoodP rs) (s : SmallP rs) (few : rs.length ≤ 50) (ne : rs ≠ []) : BentT (" " ++ pairsTx rs) := by
  cases rs with
  | nil => exact absurd rfl ne
  | cons p r =>
    have e : (" " : Str) ++ pairsTx (p :: r) = Txt.join ", " ((" " ++ pairTx p) :: r.map pairTx) := by
      unfold pairsTx
      apply ext_tl
      rw [tl_append, join_eq, join_eq, tl_join, tl_join]
      cases r with
      | nil => exact (tl_append _ _).symm
      | cons q r =>
        show tl " " ++ (tl (pairTx p) ++ (_ ++ _)) = tl (" " ++ pairTx p) ++ (_ ++ _)
        rw [tl_append, List.append_assoc]
    have big := line_len s
    have sp : Txt.split (" " ++ pairsTx (p :: r)) ", " = (" " ++ pairTx p) :: r.map pairTx := by
      rw [e]
      refine split_parts (by simp) fun x hx => ?_
      rcases List.mem_cons.mp hx with rfl | hx
      · rw [tl_append]
        intro h
        rcases List.mem_append.mp h with h | h
        · exact absurd h (by decide +kernel)
        · exact tx_free (g.name p List.mem_cons_self) (g.count p List.mem_cons_self) h
      · obtain ⟨q, hq, rfl⟩ := List.mem_map.mp hx
        exact tx_free (g.name q (List.mem_cons_of_mem _ hq)) (g.count q (List.mem_cons_of_mem _ hq))
    have c1 : (" " : Str).length = 1 := rfl
    refine bent_of (app_ne (.inl (by decide +kernel))) sp (ascR_none ?_) (by rw [strLen_append]; omega) (fun x hx => ?_) ?_
    · rw [List.map_cons, part_head]
      exact List.mem_cons_self
    · rcases List.mem_cons.mp hx with rfl | hx
      · have l := pairTx_len2 (s p List.mem_cons_self)
        have h : Txt.partition (" " ++ pairTx p) " " = (("" : Str), (" " : Str), pairTx p) := by
          have e : (" " : Str) ++ pairTx p = ("" : Str) ++ " " ++ pairTx p := by
            apply ext_tl
            rw [tl_append, tl_append, tl_append]
            rfl
          rw [e]
          exact partition_app (s := 32) (S := []) (by decide +kernel) (by decide +kernel)
        refine ⟨by rw [sizeLine_eq, strLen_append]; omega, by rw [h]; exact Nat.zero_le _, ?_⟩
        unfold partN
        rw [h, sizeLine_eq]
        show (pairTx p).length ≤ _
        omega
      · obtain ⟨q, hq, rfl⟩ := List.mem_map.mp hx
        exact tx_ok0 (s q (List.mem_cons_of_mem _ hq))
    · rw [List.length_cons, List.length_map]
      rw [List.length_cons] at few
      omega
/-- ", " behind it -/
theorem bent_comma2 (g : GoodP rs) (s : SmallP rs) (few : rs.length ≤ 50) (ne : rs ≠ []) : BentT (pairsTx rs ++ ", ") := by
  refine ⟨bent_comma g ne, ?_⟩
  have e : pairsTx rs ++ ", " = Txt.join ", " (rs.map pairTx ++ [("" : Str)]) := by
    rw [join_snoc _ _ fun z => ne (List.map_eq_nil_iff.mp z)]
    apply ext_tl
    rw [tl_append, tl_append, tl_append]
    show _ = (tl (pairsTx rs) ++ tl ", ") ++ tl ""
    rw [show tl ("" : Str) = [] by decide +kernel, List.append_nil]
  have sp : Txt.split (pairsTx rs ++ ", ") ", " = rs.map pairTx ++ [("" : Str)] := by
    rw [e]
    refine split_parts (by simp) fun p hp => ?_
    rcases List.mem_append.mp hp with h | h
    · exact free_tx g p h
    · rw [List.mem_singleton.mp h]
      decide +kernel
  have big := line_big s few (z := ", ") (by decide)
  refine ⟨by rw [sizeLine_eq]; omega, ?_, ?_⟩
  · rw [sp]
    intro p hp
    rcases List.mem_append.mp hp with h | h
    · obtain ⟨q, hq, rfl⟩ := List.mem_map.mp h
      exact tx_ok0 (s q hq)
    · rw [List.mem_singleton.mp h]
      exact ⟨by decide +kernel, by decide +kernel, by decide +kernel⟩
  · rw [sp, List.length_append, List.length_map, List.length_singleton]
    omega
/-- the same pair twice behind it -/
theorem bent_twice (g : GoodP rs) (s : SmallP rs) (few : rs.length ≤ 50) (ne : rs ≠ []) : BentT (pairsTx rs ++ ", 1 a, 1 a") := by
  have one : ("1 a" : Str) = pairTx ("a", 1) := by decide +kernel
  have e : pairsTx rs ++ ", 1 a, 1 a" = Txt.join ", " ((rs ++ [(("a" : Str), (1 : Int)), ("a", 1)]).map pairTx) := by
    have h : (rs ++ [(("a" : Str), (1 : Int)), ("a", 1)]).map pairTx = (rs.map pairTx ++ [("1 a" : Str)]) ++ [("1 a" : Str)] := by
      rw [List.map_append, List.append_assoc, one]
      rfl
    rw [h, join_snoc _ _ (by simp), join_snoc _ _ fun z => ne (List.map_eq_nil_iff.mp z)]
    apply ext_tl
    simp only [tl_append]
    show tl (pairsTx rs) ++ tl ", 1 a, 1 a" = (((tl (pairsTx rs) ++ tl ", ") ++ tl "1 a") ++ tl ", ") ++ tl "1 a"
    simp only [List.append_assoc]
    congr 1
  have nm : ∀ p ∈ rs ++ [(("a" : Str), (1 : Int)), ("a", 1)], nameB p.1 = true ∧ 1 ≤ p.2 := fun p hp => by
    rcases List.mem_append.mp hp with h | h
    · exact ⟨g.name p h, g.count p h⟩
    · rcases List.mem_cons.mp h with rfl | h
      · exact ⟨by decide +kernel, by decide⟩
      · rw [List.mem_singleton.mp h]
        exact ⟨by decide +kernel, by decide⟩
  have sm : ∀ p ∈ rs ++ [(("a" : Str), (1 : Int)), ("a", 1)], p.1.length ≤ 8 ∧ 0 ≤ p.2 ∧ p.2 < 10 ^ 64 := fun p hp => by
    rcases List.mem_append.mp hp with h | h
    · exact s p h
    · rcases List.mem_cons.mp h with rfl | h
      · exact ⟨by decide +kernel, by decide, by decide +kernel⟩
      · rw [List.mem_singleton.mp h]
        exact ⟨by decide +kernel, by decide, by decide +kernel⟩
  have sp : Txt.split (pairsTx rs ++ ", 1 a, 1 a") ", " = (rs ++ [(("a" : Str), (1 : Int)), ("a", 1)]).map pairTx := by
    rw [e]
    refine split_parts (by simp) fun x hx => ?_
    obtain ⟨q, hq, rfl⟩ := List.mem_map.mp hx
    exact tx_free (nm q hq).1 (nm q hq).2
  refine bent_of (app_ne (.inr (by decide +kernel))) sp (fun h => ?_) (line_big s few (by decide)) (fun p hp => ?_) ?_
  · have er : ((rs ++ [(("a" : Str), (1 : Int)), ("a", 1)]).map pairTx).map partR = (rs ++ [(("a" : Str), (1 : Int)), ("a", 1)]).map some := by
      rw [List.map_map]
      exact List.map_congr_left fun p hp => partR_tx (nm p hp).1 (nm p hp).2
    rw [er] at h
    have pw := (asc_pw h).2
    rw [List.map_append, List.pairwise_append] at pw
    have z := pw.2.1
    rw [List.map_cons, List.map_cons, List.pairwise_cons] at z
    exact List.lt_irrefl _ (z.1 "a" List.mem_cons_self)
  · obtain ⟨q, hq, rfl⟩ := List.mem_map.mp hp
    exact tx_ok0 (sm q hq)
  · rw [List.length_map, List.length_append]
    show rs.length + 2 ≤ 60
    omega
def bentL (z : Str) : List Str := [z ++ ",", z ++ ", ", " " ++ z, z ++ " ", z ++ ", 1 a, 1 a"]
theorem bent_all (g : GoodP rs) (s : SmallP rs) (few : rs.length ≤ 50) : ∀ z ∈ bentL (pairsTx rs), BentT z := by
  by_cases ne : rs = []
  · subst ne
    have e : pairsTx [] = "" := by decide +kernel
    rw [e]
    have h1 : ∀ z ∈ bentL "", readR z = none := by decide +kernel
    have h2 : ∀ z ∈ bentL "", okB z = true := by decide +kernel
    exact fun z hz => ⟨h1 z hz, okB_ok (h2 z hz)⟩
  · intro z hz
    simp only [bentL, List.mem_cons, List.not_mem_nil, or_false] at hz
    rcases hz with rfl | rfl | rfl | rfl | rfl
    · exact bent_last g s few ne (c := 44) (by decide +kernel) (.inl rfl)
    · exact bent_comma2 g s few ne
    · exact bent_first g s few ne
    · exact bent_last g s few ne (c := 32) (by decide +kernel) (.inr rfl)
    · exact bent_twice g s few ne
end
end My
set_option Elab.async false
set_option maxRecDepth 100000
set_option maxHeartbeats 8000000
namespace My
open PySem PySem.Spec PyProof.Rows L2
local macro_rules | `(tactic| walk_at "cond") => `(tactic| first
  | exact Or.inr ⟨by decide, by decide⟩ | exact Or.inl ⟨by decide, by decide⟩ | exact ⟨by decide, by decide, by decide⟩ | exact ⟨by decide, by decide⟩
  | (refine Or.inl ⟨?_, ?_⟩ <;> omega) | (refine Or.inr ⟨?_, ?_⟩ <;> omega)
  | (show (0 : Int) < _; omega))
local macro_rules | `(tactic| walk_at "mem") => `(tactic| first | exact List.Mem.head _ | exact List.Mem.tail _ (List.Mem.head _) | exact Put.head | (refine List.Mem.tail _ ?_; walk_at "mem") | (apply Put.tail; walk_at "mem"))
local macro_rules | `(tactic| walk_at "st") => `(tactic| first
  | with_reducible refine g_seq ?_ | with_reducible refine g_asg ?_ | with_reducible refine g_name ?_ | ((with_reducible show tVar _ _ _ _); refine g_var rfl ?_) | with_reducible refine g_c ?_
  | with_reducible refine g_op ?_ | with_reducible refine g_test ?_ | with_reducible refine g_bl ?_
  | with_reducible refine g_cb ?_ | with_reducible refine g_cons ?_ | with_reducible refine g_nil ?_ | with_reducible refine g_tif ?_ | with_reducible refine g_ifs ?_ | with_reducible refine g_ret ?_
  | with_reducible refine g_drop ?_ | with_reducible refine g_next ?_
  | with_reducible refine g_i0 ?_ | ((with_reducible show rI _ _ _ _ _ _); refine g_i (by walk_at "cond") ?_) | with_reducible refine g_int ?_ | with_reducible refine g_abs ?_ | with_reducible refine g_or ?_
  | with_reducible refine g_and ?_ | with_reducible refine g_not ?_ | with_reducible refine g_lst ?_ | with_reducible refine g_tup ?_
  | with_reducible refine iteT ?_ | with_reducible refine iteF ?_ | with_reducible refine g_par ?_ | with_reducible refine g_two ?_ | with_reducible refine g_sub ?_
  | ((with_reducible show rIxL _ (V.ref _) (V.int _) _ _); refine g_ixM (by assumption) (by walk_at "mem") rfl rfl ?_)
  | ((with_reducible show rSetL (V.ref _) (V.int _) _ _ _); refine g_setM (by assumption) rfl (by walk_at "mem") fun _ _ => ?_)
  | with_reducible refine g_xmk ?_ | with_reducible refine g_xmkK ?_
  | ((with_reducible show XNew _ (spI1 _ _) _ _ _); refine g_x1 (by assumption) fun _ _ _ _ => ?_)
  | ((with_reducible show XNewK _ _ (spI1 _ _) _ _ _ _); refine g_x1k (by assumption) fun _ _ _ _ => ?_)
  | ((with_reducible show XNew _ (spI3 _ _ _ _) _ _ _); refine g_x3 (by assumption) fun _ _ _ _ => ?_)
  | ((with_reducible show tXmk0 _ _ _ _); refine g_xmk0 (by assumption) fun _ _ _ => ?_)
  | ((with_reducible show NewO _ _ _ _); refine g_newo (by assumption) (by first | decide | simp) fun _ _ _ _ => ?_)
  | ((with_reducible show rCat (V.ref _) (V.ref _) _ _); refine g_cat (by assumption) (by walk_at "mem") (by walk_at "mem") (by first | decide | simp) fun _ _ _ _ => ?_))
local macro_rules | `(tactic| walk_at "st") => `(tactic| first | with_reducible refine g_tcall ?_ | with_reducible refine g_tb ?_ | with_reducible refine g_andV ?_ | with_reducible refine g_notV ?_ | with_reducible refine g_chain ?_ | with_reducible refine g_un ?_ | with_reducible refine g_rU ?_)
/-! ### _law_error of k01 -/
structure ErrD (K : PySem.W.Frag) (C : Addr) (f : Str) (VF : Addr) (T : String) : Prop where
  O : ∃ newId bmB, OxC K C newId bmB
  J : OxI K C
  no : PySem.W.findIn K (.ref C) f = some none
  k1 : PySem.W.kitOne K (.ref C) (.ref VF) = some true
  k2 : PySem.W.kitOne K (.ref C) (.type T) = some true
theorem ErrD.xf {K : PySem.W.Frag} {C : Addr} {f : Str} {VF : Addr} {T : String} (h : ErrD K C f VF T) : XfC K C := let ⟨_, _, O⟩ := h.O; ⟨O.ga, O.gg, O.exC, O.hd⟩
/-- the reading of a clause -/
def tRowD (K : PySem.W.Frag) (x : Str) (C : Addr) (f : Str) (VF : Addr) (T : String) (a : Addr) (cls : Value) (d : Option Addr) : TS :=
  tRet (tLst (tCons (tC (.str x)) (tCons (tXf a cls d C f (tVar 2)) (tCons (tAndV (tCB (rIsH K a cls d) (tCons (tVar 2) (tCons (tC (.ref VF)) tNil))) (tCB (rIsH K a cls d) (tCons (tVar 2) (tCons (tC (.ty T)) tNil)))) tNil))))
theorem rowD_ok {K : PySem.W.Frag} {x f : Str} {C VF a : Addr} {T : String} {cls : Value} {d : Option Addr} {H : Hp} {D : Ends} {τ : L2.St} (e : ErrD K C f VF T) (G : OxG K) (hl : 2 < τ.length) (h : RowW x C f cls d H D.rt) : tRowD K x C f VF T a cls d D (τ.set 2 (some (.ref a))) H := by
  obtain ⟨v, dd, fs, rfl, rfl, hd, hv, q⟩ := h
  obtain ⟨newId, bmB, O⟩ := e.O
  have h2 : (τ.set 2 (some (V.ref a)))[2]? = some (some (.ref a)) := List.getElem?_set_self hl
  unfold tRowD
  refine g_ret <| g_lst <| g_cons <| g_c <| g_cons <| g_xf <| g_var h2 ⟨rfl, rfl, dd, fs, v, rfl, hd, hv, ?_⟩
  refine g_cons <| g_andV <| g_cb <| g_cons <| g_var h2 <| g_cons <| g_c <| g_nil ⟨.ref VF, .ref VF, true, C, dd, fs, newId, bmB, rfl, rfl, rfl, O, e.J, G, .own VF, hd, e.k1, ?_⟩
  refine ⟨true, rfl, ?_⟩
  refine iteT ?_
  refine g_cb <| g_cons <| g_var h2 <| g_cons <| g_c <| g_nil ⟨.ty T, .type T, true, C, dd, fs, newId, bmB, rfl, rfl, rfl, O, e.J, G, .ty _, hd, e.k2, ?_⟩
  exact g_nil ⟨(by show 3 ≤ sizeLine; decide), fun p hp => q p hp⟩
/-- what it makes of an error -/
def ErrW1 (CP CT CN : Addr) (Q : VK) : XK := fun cls d H' => RowW "InvalidPairs" CP "index" cls d H' Q ∨ RowW "InvalidText" CT "value" cls d H' Q ∨ RowW "InvalidName" CN "value" cls d H' Q
def TErr1 (CP CT CN : Addr) : (XK → Hp → VK → Prop) → Hp → VK → Prop := fun tl H Q => ∀ f, tl (ErrW1 CP CT CN Q) H (ToldK f Q)
theorem scErrorD : FnScope ["_law_ask", "_law_told", "e"] ["_law_ask"] (defScope s__law_error) := ⟨rfl, rfl, rfl, by decide +kernel, rfl, by decide +kernel, by decide +kernel⟩
structure ErrK1 (K : PySem.W.Frag) (mg : Str → Option Value) (CP CT CN VF : Addr) : Prop where
  G : OxG K
  eP : ErrD K CP "index" VF "ValueError"
  eT : ErrD K CT "value" VF "ValueError"
  eN : ErrD K CN "value" VF "ValueError"
  mP : mg "InvalidPairs" = some (.ref CP)
  mT : mg "InvalidText" = some (.ref CT)
  mN : mg "InvalidName" = some (.ref CN)
  mV : mg "ValueFault" = some (.ref VF)
  isi : mg "isinstance" = none
  bV : mg "ValueError" = none
  PP : PySem.W.exmOne K (.ref CP) (.ref CP) = some true
  TP : PySem.W.exmOne K (.ref CT) (.ref CP) = some false
  TT : PySem.W.exmOne K (.ref CT) (.ref CT) = some true
  NP : PySem.W.exmOne K (.ref CN) (.ref CP) = some false
  NT : PySem.W.exmOne K (.ref CN) (.ref CT) = some false
  NN : PySem.W.exmOne K (.ref CN) (.ref CN) = some true
abbrev ErrCxD (X : Cx) (g : Addr) (cdg : Value) (s : Shared) (H : Hp) : Cx := (cxOf C8.CX0 X.prog X.w X.K X.mg X.base ["_law_ask", "_law_told", "e"] "_law_error" (defScope s__law_error) g cdg X.A X.stack s H C8.E0).nox
theorem err_givesD {X : Cx} {g : Addr} {cdg : Value} {q : Str} {CP CT CN VF : Addr} (T : ErrK1 X.K X.mg CP CT CN VF) : LamX.GivesTo X ["_law_ask", "_law_told", "e"] "_law_error" (defScope s__law_error) g cdg (defBody s__law_error) "_law_ask" q (TErr1 CP CT CN) := by
  intro f c' s H Q tl act hc h
  have hds : ∃ l, l = [(Value.ref CP, fun a cls d => tRowD X.K "InvalidPairs" CP "index" VF "ValueError" a cls d), (Value.ref CT, fun a cls d => tRowD X.K "InvalidText" CT "value" VF "ValueError" a cls d), (Value.ref CN, fun a cls d => tRowD X.K "InvalidName" CN "value" VF "ValueError" a cls d)] ∧ HdsAs (ErrCxD X g cdg s H) "e" (tryHds (defBody s__law_error)) l := by
    refine ⟨_, rfl, ?_⟩
    refine HdsAs.cons (X := ErrCxD X g cdg s H) ⟨by rfl, by decide, .inl T.mP⟩ ?_ (HdsAs.cons (X := ErrCxD X g cdg s H) ⟨by rfl, by decide, .inl T.mT⟩ ?_ (HdsAs.cons (X := ErrCxD X g cdg s H) ⟨by rfl, by decide, .inl T.mN⟩ ?_ .nil))
    · intro a oe cls d pn hz hf
      exact pss_one (ps_ret (pe_lst (pa_cons pe_str (pa_cons (pe_xf (X := ErrCxD X g cdg s H) T.eP.xf T.eP.no hz hf (pv 2)) (pa_cons (pe_and (pIsH (X := ErrCxD X g cdg s H) hz hf T.isi (pv 2) (pG (X := (ErrCxD X g cdg s H).suite a ((a, oe) :: pn)) T.mV)) (pe_one (pIsH (X := ErrCxD X g cdg s H) hz hf T.isi (pv 2) (pe_bltn (v := .ty "ValueError") rfl T.bV (by decide +kernel) rfl)))) pa_nil)))))
    · intro a oe cls d pn hz hf
      exact pss_one (ps_ret (pe_lst (pa_cons pe_str (pa_cons (pe_xf (X := ErrCxD X g cdg s H) T.eT.xf T.eT.no hz hf (pv 2)) (pa_cons (pe_and (pIsH (X := ErrCxD X g cdg s H) hz hf T.isi (pv 2) (pG (X := (ErrCxD X g cdg s H).suite a ((a, oe) :: pn)) T.mV)) (pe_one (pIsH (X := ErrCxD X g cdg s H) hz hf T.isi (pv 2) (pe_bltn (v := .ty "ValueError") rfl T.bV (by decide +kernel) rfl)))) pa_nil)))))
    · intro a oe cls d pn hz hf
      exact pss_one (ps_ret (pe_lst (pa_cons pe_str (pa_cons (pe_xf (X := ErrCxD X g cdg s H) T.eN.xf T.eN.no hz hf (pv 2)) (pa_cons (pe_and (pIsH (X := ErrCxD X g cdg s H) hz hf T.isi (pv 2) (pG (X := (ErrCxD X g cdg s H).suite a ((a, oe) :: pn)) T.mV)) (pe_one (pIsH (X := ErrCxD X g cdg s H) hz hf T.isi (pv 2) (pe_bltn (v := .ty "ValueError") rfl T.bV (by decide +kernel) rfl)))) pa_nil)))))
  obtain ⟨l, el, hh⟩ := hds
  refine ⟨_, pss_cons (ps_try_asL (X := ErrCxD X g cdg s H) (n := "e") (i := 2) (Wout := fun _ _ _ _ => False)
      (tb := fun W D σ H => ∃ Ech : XK, (∀ cls d σ' H', Ech cls d H' → W cls d σ' H') ∧ σ[0]? = some (some (.ref f)) ∧ H c' = some (LamX.CodeO c' q) ∧ tl Ech H fun v H1 => gName 1 v σ H1 D.nx)
      rfl rfl scErrorD.nd rfl rfl LamX.takes0 (fun W pn xe tk _ => ?_) hh)
    (pss_one (ps_ret (pe_lst (pa_cons pe_str (pa_cons (pv 1) pa_nil))))), ?_⟩
  · refine ⟨fun pins s' σ H' D I h' => ?_⟩
    obtain ⟨Ech, hW, h1, h2, h3⟩ := h'
    exact (pss_one (ps_set (i := 1) scErrorD.nd rfl (Or.inl rfl) (act W pn xe Ech _ _ tk hW))).run pins s' σ H' D I ⟨h1, h2, h3⟩
  · refine ⟨ErrW1 CP CT CN Q, ?_, rfl, hc, h f⟩
    subst el
    rintro cls d σ' H' (r | r | r)
    · have r0 := r
      obtain ⟨v, dd, fs, rfl, rfl, _⟩ := r0
      exact ⟨true, T.PP, fun _ a na hl => rowD_ok T.eP T.G hl r, fun z => by cases z⟩
    · have r0 := r
      obtain ⟨v, dd, fs, rfl, rfl, _⟩ := r0
      exact ⟨false, T.TP, (fun z => by cases z), fun _ => ⟨true, T.TT, fun _ a na hl => rowD_ok T.eT T.G hl r, fun z => by cases z⟩⟩
    · have r0 := r
      obtain ⟨v, dd, fs, rfl, rfl, _⟩ := r0
      exact ⟨false, T.NP, (fun z => by cases z), fun _ => ⟨false, T.NT, (fun z => by cases z), fun _ => ⟨true, T.NN, fun _ a na hl => rowD_ok T.eN T.G hl r, fun z => by cases z⟩⟩⟩
end My
set_option Elab.async false
set_option maxRecDepth 100000
set_option maxHeartbeats 8000000
namespace My
open PySem PySem.Spec PyProof.Rows L2
local macro_rules | `(tactic| walk_at "cond") => `(tactic| first
  | exact Or.inr ⟨by decide, by decide⟩ | exact Or.inl ⟨by decide, by decide⟩ | exact ⟨by decide, by decide, by decide⟩ | exact ⟨by decide, by decide⟩
  | (refine Or.inl ⟨?_, ?_⟩ <;> omega) | (refine Or.inr ⟨?_, ?_⟩ <;> omega)
  | (show (0 : Int) < _; omega))
local macro_rules | `(tactic| walk_at "mem") => `(tactic| first | exact List.Mem.head _ | exact List.Mem.tail _ (List.Mem.head _) | exact Put.head | (refine List.Mem.tail _ ?_; walk_at "mem") | (apply Put.tail; walk_at "mem"))
local macro_rules | `(tactic| walk_at "st") => `(tactic| first
  | with_reducible refine g_seq ?_ | with_reducible refine g_asg ?_ | with_reducible refine g_name ?_ | ((with_reducible show tVar _ _ _ _); refine g_var rfl ?_) | with_reducible refine g_c ?_
  | with_reducible refine g_op ?_ | with_reducible refine g_test ?_ | with_reducible refine g_bl ?_
  | with_reducible refine g_cb ?_ | with_reducible refine g_cons ?_ | with_reducible refine g_nil ?_ | with_reducible refine g_tif ?_ | with_reducible refine g_ifs ?_ | with_reducible refine g_ret ?_
  | with_reducible refine g_drop ?_ | with_reducible refine g_next ?_
  | with_reducible refine g_i0 ?_ | ((with_reducible show rI _ _ _ _ _ _); refine g_i (by walk_at "cond") ?_) | with_reducible refine g_int ?_ | with_reducible refine g_abs ?_ | with_reducible refine g_or ?_
  | with_reducible refine g_and ?_ | with_reducible refine g_not ?_ | with_reducible refine g_lst ?_ | with_reducible refine g_tup ?_
  | with_reducible refine iteT ?_ | with_reducible refine iteF ?_ | with_reducible refine g_par ?_ | with_reducible refine g_two ?_ | with_reducible refine g_sub ?_
  | ((with_reducible show rIxL _ (V.ref _) (V.int _) _ _); refine g_ixM (by assumption) (by walk_at "mem") rfl rfl ?_)
  | ((with_reducible show rSetL (V.ref _) (V.int _) _ _ _); refine g_setM (by assumption) rfl (by walk_at "mem") fun _ _ => ?_)
  | with_reducible refine g_xmk ?_ | with_reducible refine g_xmkK ?_
  | ((with_reducible show XNew _ (spI1 _ _) _ _ _); refine g_x1 (by assumption) fun _ _ _ _ => ?_)
  | ((with_reducible show XNewK _ _ (spI1 _ _) _ _ _ _); refine g_x1k (by assumption) fun _ _ _ _ => ?_)
  | ((with_reducible show XNew _ (spI3 _ _ _ _) _ _ _); refine g_x3 (by assumption) fun _ _ _ _ => ?_)
  | ((with_reducible show tXmk0 _ _ _ _); refine g_xmk0 (by assumption) fun _ _ _ => ?_)
  | ((with_reducible show NewO _ _ _ _); refine g_newo (by assumption) (by first | decide | simp) fun _ _ _ _ => ?_)
  | ((with_reducible show rCat (V.ref _) (V.ref _) _ _); refine g_cat (by assumption) (by walk_at "mem") (by walk_at "mem") (by first | decide | simp) fun _ _ _ _ => ?_))
local macro_rules | `(tactic| walk_at "st") => `(tactic| first | with_reducible refine g_tcall ?_ | with_reducible refine g_tb ?_ | with_reducible refine g_andV ?_ | with_reducible refine g_notV ?_ | with_reducible refine g_chain ?_ | with_reducible refine g_un ?_ | with_reducible refine g_rU ?_)
/-! ### new objects, one line each -/
section
variable {K : PySem.W.Frag} {H : Hp} {Q : VK}
theorem nTup {vs : List V} (hl : vs.length ≤ 1000) (h : ∀ b H', Same H H' → H' b = some (.tup vs) → H b = none → Q (.ref b) H') : NewO .tup vs H Q :=
  ⟨Nat.le_trans hl (by decide), fun b hb => h b _ (sameNew hb) upd_same hb⟩
theorem nLst {vs : List V} (hl : vs.length ≤ 1000) (h : ∀ b H', Same H H' → H' b = some (.lst vs) → H b = none → Q (.ref b) H') : NewO .lst vs H Q :=
  ⟨Nat.le_trans hl (by decide), fun b hb => h b _ (sameNew hb) upd_same hb⟩
theorem nDk {σ : L2.St} (h : ∀ b H', Same H H' → H' b = some (.dK []) → H b = none → Q (.ref b) H') : tDNewK σ H Q := fun b hb => h b _ (sameNew hb) upd_same hb
theorem cLst {l b : Addr} {xs zs : List V} (h1 : H l = some (.lst xs)) (h2 : H b = some (.lst zs)) (few : xs.length + zs.length ≤ 1000) (h : ∀ p H', Same H H' → H' p = some (.lst (xs ++ zs)) → H p = none → Q (.ref p) H') : rCat (.ref l) (.ref b) H Q :=
  ⟨l, b, xs, zs, rfl, rfl, h1, h2, Nat.le_trans few (by decide), fun p hp => h p _ (sameNew hp) upd_same hp⟩
theorem sLst {a : Addr} {xs : List V} {lo hi : Option Int} (h1 : H a = some (.lst xs)) (h : ∀ p H', Same H H' → H' p = some (.lst (cutV xs lo hi)) → H p = none → Q (.ref p) H') : rSlL K (.ref a) lo hi H Q :=
  ⟨a, xs, rfl, SqL.of h1, fun p hp => h p _ (sameNew hp) upd_same hp⟩
theorem zTup {p : Addr} {ys : List V} (h1 : H p = some (.lst ys)) (h : ∀ b H', Same H H' → SqT K H' b ys → H b = none → Q (.ref b) H') : rTupZ K [.ref p] H Q :=
  ⟨p, ys, rfl, SqL.of h1, fun b o hb _ => h b _ (sameNew hb) (.inl (.inr ⟨o, upd_same⟩)) hb⟩
end
/-- lists may be other ones, no more -/
def LTyp (H H' : Hp) : Prop := ∀ b o, H b = some o → (∀ ps, o ≠ .tbl ps) → H' b = some o ∨ ∃ xs ys, o = .lst xs ∧ H' b = some (.lst ys)
section
variable {K : PySem.W.Frag} {H H1 H' : Hp}
theorem LTyp.at {b : Addr} {o : HO} (e : LTyp H H') (h : H b = some o) (n1 : ∀ ps, o ≠ .tbl ps) (n2 : ∀ xs, o ≠ .lst xs) : H' b = some o := by
  rcases e b o h n1 with z | ⟨xs, _, z, _⟩
  · exact z
  · exact absurd z (n2 xs)
theorem LTyp.ext (e : LamX.ExtN H H') : LTyp H H' := fun b o h n => .inl (e b o h n)
theorem LTyp.same (e : Same H H') : LTyp H H' := fun b o h _ => .inl (e b o h)
theorem LTyp.off {p : Addr} (o : Off [p] H H') (s : Src p H) (s' : Src p H') : LTyp H H' := fun b u h n => by
  by_cases z : b = p
  · subst z
    obtain ⟨x, hx⟩ := s.lst
    obtain ⟨y, hy⟩ := s'.lst
    rw [hx] at h
    cases h
    exact .inr ⟨_, _, rfl, hy⟩
  · exact .inl (o b u h fun y => z (List.mem_singleton.mp y))
theorem LTyp.trans (a : LTyp H H1) (b : LTyp H1 H') : LTyp H H' := fun c o h n => by
  rcases a c o h n with z | ⟨xs, ys, rfl, z⟩
  · exact b c o z n
  · rcases b c _ z (fun _ y => nomatch y) with w | ⟨us, vs, _, w⟩
    · exact .inr ⟨xs, ys, rfl, w⟩
    · exact .inr ⟨xs, vs, rfl, w⟩
theorem sqT_lt {a : Addr} {xs : List V} (h : SqT K H a xs) (e : LTyp H H') : SqT K H' a xs := by
  rcases h with (h | ⟨o, h⟩) | h
  · exact .inl (.inl (e.at h (fun _ z => nomatch z) (fun _ z => nomatch z)))
  · exact .inl (.inr ⟨o, e.at h (fun _ z => nomatch z) (fun _ z => nomatch z)⟩)
  · exact .inr h
theorem ty_lt {v : V} {t : Value} (h : TyX K H v t) (e : LTyp H H') : TyX K H' v t := by
  cases h with
  | base b =>
    cases b with
    | non => exact .base .non
    | bl x => exact .base (.bl x)
    | int x => exact .base (.int x)
    | str x => exact .base (.str x)
    | flt x => exact .base (.flt x)
    | lst h =>
      rcases e _ _ h (fun _ z => nomatch z) with z | ⟨_, _, _, z⟩
      · exact .base (.lst z)
      · exact .base (.lst z)
    | frz h => exact .base (.frz (e.at h (fun _ z => nomatch z) (fun _ z => nomatch z)))
    | tup h => exact .base (.tup (e.at h (fun _ z => nomatch z) (fun _ z => nomatch z)))
    | dK h => exact .base (.dK (e.at h (fun _ z => nomatch z) (fun _ z => nomatch z)))
    | dT h => exact .base (.dT (e.at h (fun _ z => nomatch z) (fun _ z => nomatch z)))
    | ins h c1 c2 c3 c4 c5 => exact .base (.ins (e.at h (fun _ z => nomatch z) (fun _ z => nomatch z)) c1 c2 c3 c4 c5)
  | byt b => exact .byt b
  | set h => exact .set (e.at h (fun _ z => nomatch z) (fun _ z => nomatch z))
  | kList a b => exact .kList a b
  | kTuple a b => exact .kTuple a b
  | kDict a b => exact .kDict a b
  | fTuple h => exact .fTuple (e.at h (fun _ z => nomatch z) (fun _ z => nomatch z))
  | fDict h => exact .fDict (e.at h (fun _ z => nomatch z) (fun _ z => nomatch z))
theorem nameK_lt {v : V} {r : Option Str} (h : NameK K H v r) (e : LTyp H H') : NameK K H' v r := by
  cases h with
  | str h => exact .str h
  | other ty k => exact .other (ty_lt ty e) k
theorem countK_lt {v : V} {r : Option Int} (h : CountK K H v r) (e : LTyp H H') : CountK K H' v r := by
  cases h with
  | int => exact .int
  | other ty k1 k2 z => exact .other (ty_lt ty e) k1 k2 z
theorem pairK_lt {v : V} {r : Option (Str × Int)} (h : PairK K H v r) (e : LTyp H H') : PairK K H' v r := by
  cases h with
  | no ty k => exact .no (ty_lt ty e) k
  | len q n => exact .len (sqT_lt q e) n
  | two q h1 h2 => exact .two (sqT_lt q e) (nameK_lt h1 e) (countK_lt h2 e)
theorem pairAt_lt {v : V} {q : Str × Int} (h : PairAt H v q) (e : LTyp H H') : PairAt H' v q := by
  obtain ⟨u, rfl, z⟩ := h
  exact ⟨u, rfl, e.at z (fun _ y => nomatch y) (fun _ y => nomatch y)⟩
end
/-! ### values that are no pairs -/
theorem pairOf_none (x : Option Str) : pairOf x none = none := by cases x <;> rfl
section
variable {K : PySem.W.Frag} {H H' : Hp}
def Odds (K : PySem.W.Frag) (H : Hp) (l : List V) : Prop := ∀ v ∈ l, PairK K H v none
theorem od0 : Odds K H [] := fun _ z => nomatch z
theorem odS {l : List V} {v : V} (a : Odds K H l) (x : Same H H') (h : PairK K H' v none) : Odds K H' (l ++ [v]) := fun u hu => by
  rcases List.mem_append.mp hu with z | z
  · exact (a u z).same x
  · rw [List.mem_singleton.mp z]
    exact h
theorem Odds.lt {l : List V} (a : Odds K H l) (e : LTyp H H') : Odds K H' l := fun v hv => pairK_lt (a v hv) e
theorem od_non : PairK K H .non none := .no (.base .non) (kit_ty (by decide +kernel) : PySem.W.kitOne K (.type "NoneType") (.type "tuple") = some false)
theorem od_str (s : Str) : PairK K H (.str s) none := .no (.base (.str s)) (kit_ty (by decide +kernel) : PySem.W.kitOne K (.type "str") (.type "tuple") = some false)
theorem od_lst {b : Addr} {xs : List V} (f : H b = some (.lst xs)) : PairK K H (.ref b) none := .no (.base (.lst f)) (kit_ty (by decide +kernel) : PySem.W.kitOne K (.type "list") (.type "tuple") = some false)
theorem od_dk {b : Addr} (f : H b = some (.dK [])) : PairK K H (.ref b) none := .no (.base (.dK f)) (kit_ty (by decide +kernel) : PySem.W.kitOne K (.type "dict") (.type "tuple") = some false)
theorem od_len {b : Addr} {xs : List V} (f : H b = some (.tup xs)) (n : xs.length ≠ 2) : PairK K H (.ref b) none := .len (SqT.of f) n
theorem od_nm {b : Addr} {s : Str} (f : H b = some (.tup [.str s, .int 1])) (hl : s.length ≤ sizeLine) (h : nameB s = false) : PairK K H (.ref b) none := by
  have z := PairK.two (K := K) (H := H) (SqT.of f) (.str hl) .int
  rw [if_neg (by rw [h]; decide)] at z
  exact z
theorem od_ct {b : Addr} {s : Str} {n : Int} (f : H b = some (.tup [.str s, .int n])) (hl : s.length ≤ sizeLine) (h : ¬ 1 ≤ n) : PairK K H (.ref b) none := by
  have z := PairK.two (K := K) (H := H) (SqT.of f) (.str hl) .int
  rw [if_neg h, pairOf_none] at z
  exact z
theorem od_bl {b : Addr} {s : Str} {x : Bool} (f : H b = some (.tup [.str s, .bl x])) (hl : s.length ≤ sizeLine) : PairK K H (.ref b) none := by
  have z := PairK.two (K := K) (H := H) (SqT.of f) (.str hl) (.other (b1 := true) (b2 := true) (.base (.bl x)) (kit_ty (by decide +kernel)) (fun _ => kit_ty (by decide +kernel)) rfl)
  rw [pairOf_none] at z
  exact z
theorem od_st {b : Addr} {v : V} {s : Str} {r : Option Str} (f : H b = some (.tup [v, .str s])) (h : NameK K H v r) : PairK K H (.ref b) none := by
  have z := PairK.two (K := K) (H := H) (SqT.of f) h (.other (b1 := false) (b2 := false) (.base (.str s)) (kit_ty (by decide +kernel)) (fun y => nomatch y) rfl)
  rw [pairOf_none] at z
  exact z
theorem od_tp {b c : Addr} {xs : List V} {n : Int} (f : H b = some (.tup [.ref c, .int n])) (t : H c = some (.tup xs)) : PairK K H (.ref b) none :=
  PairK.two (K := K) (H := H) (SqT.of f) (.other (.base (.tup t)) (kit_ty (by decide +kernel) : PySem.W.kitOne K (.type "tuple") (.type "str") = some false)) .int
end
/-! ### where the wrong pair stands -/
theorem wrong_at : ∀ (ps : List (Str × Int)) (i : Nat) (seen : List Str) (rest : List (Option (Str × Int))), (seen ++ ps.map (·.1)).Nodup → wrongFrom i seen (ps.map some ++ none :: rest) = some (i + ps.length)
  | [], _, _, _, _ => rfl
  | p :: ps, i, seen, rest, nd => by
    rw [List.map_cons, List.cons_append]
    unfold wrongFrom
    rw [List.map_cons] at nd
    have n1 : p.1 ∉ seen := fun m => (List.nodup_append.mp nd).2.2 p.1 m p.1 List.mem_cons_self rfl
    rw [if_neg n1, wrong_at ps (i + 1) (seen ++ [p.1]) rest (by rw [List.append_assoc]; exact nd), List.length_cons]
    congr 1
    omega
theorem wrong_dup : ∀ (ps : List (Str × Int)) (i : Nat) (seen : List Str) (q : Str × Int) (rest : List (Option (Str × Int))), (seen ++ ps.map (·.1)).Nodup → q.1 ∈ seen ++ ps.map (·.1) → wrongFrom i seen (ps.map some ++ some q :: rest) = some (i + ps.length)
  | [], i, seen, q, rest, _, m => by
    rw [List.map_nil, List.nil_append]
    unfold wrongFrom
    rw [if_pos (by simpa using m)]
    rfl
  | p :: ps, i, seen, q, rest, nd, m => by
    rw [List.map_cons, List.cons_append]
    unfold wrongFrom
    rw [List.map_cons] at nd m
    have n1 : p.1 ∉ seen := fun m => (List.nodup_append.mp nd).2.2 p.1 m p.1 List.mem_cons_self rfl
    rw [if_neg n1, wrong_dup ps (i + 1) (seen ++ [p.1]) q rest (by rw [List.append_assoc]; exact nd) (by rw [List.append_assoc]; exact m), List.length_cons]
    congr 1
    omega
theorem made_bad {K : PySem.W.Frag} {C CP : Addr} {rs : List (Option (Str × Int))} {H : Hp} {Q : VK} {E : XK} {i : Nat} (w : wrongFrom 0 [] rs = some i) (h : ∀ H' d, Same H H' → H' d = none → E (.ref CP) (some d) (upd H' d (.xd [("index", .int (i : Nat))]))) : Made K C CP rs H Q E := by
  unfold Made
  rw [w]
  exact h
theorem made_good {K : PySem.W.Frag} {C CP : Addr} {ps : List (Str × Int)} {H : Hp} {Q : VK} {E : XK} (g : GoodP ps) (few : ps.length < 64) (k : ∀ H' x rs, H x = none → Same H H' → Ordered ps rs → LoadAt C H' x rs → Q (.ref x) H') : Made K C CP (ps.map some) H Q E := by
  unfold Made
  rw [wrong_none ps 0 [] (by simpa using g.nd)]
  exact ⟨ps, rfl, g.nd, few, k⟩
/-! ### what _law_error tells -/
section
variable {K : PySem.W.Frag} {CP CT CN : Addr} {H : Hp} {Q : VK} {v : V}
theorem tellP (q : ∀ H' p, Same H H' → H p = none → H' p = some (.lst [.str "InvalidPairs", v, .bl true]) → Q (.ref p) H') : ∀ H' d, Same H H' → H' d = none → ErrW1 CP CT CN Q (.ref CP) (some d) (upd H' d (.xd [("index", v)])) := fun H' d s hd =>
  .inl ⟨v, d, _, rfl, rfl, upd_same, rfl, fun p hp => q _ p ((s.trans (sameNew hd)).trans (sameNew hp)) (none_back (s.trans (sameNew hd)) hp) upd_same⟩
theorem tellT (q : ∀ H' p, Same H H' → H p = none → H' p = some (.lst [.str "InvalidText", v, .bl true]) → Q (.ref p) H') : BadV CT "value" v H (ErrW1 CP CT CN Q) := fun H' d s hd =>
  .inr (.inl ⟨v, d, _, rfl, rfl, upd_same, rfl, fun p hp => q _ p ((s.trans (sameNew hd)).trans (sameNew hp)) (none_back (s.trans (sameNew hd)) hp) upd_same⟩)
theorem tellN (q : ∀ H' p, Same H H' → H p = none → H' p = some (.lst [.str "InvalidName", v, .bl true]) → Q (.ref p) H') : BadV CN "value" v H (ErrW1 CP CT CN Q) := fun H' d s hd =>
  .inr (.inr ⟨v, d, _, rfl, rfl, upd_same, rfl, fun p hp => q _ p ((s.trans (sameNew hd)).trans (sameNew hp)) (none_back (s.trans (sameNew hd)) hp) upd_same⟩)
/-- what a lambda that is asked tells -/
theorem g_lamW {T : List (Addr × Str)} {t : XK → TE} {σ : L2.St} {W : Hp → Addr → Prop} (tb : LamX.Tabs T H)
    (h : ∀ (H1 : Hp) (Q1 : VK) (f : Addr), LamX.ExtN H H1 → (∀ H' p, Same H1 H' → H1 p = none → W H' p → Q1 (.ref p) H') → t (ErrW1 CP CT CN Q1) σ H1 (ToldK f Q1))
    (q : ∀ H' p, LamX.ExtN H H' → LamX.Tabs T H' → (∀ b o, H b = some o → (∀ ps, o ≠ .tbl ps) → b ≠ p) → W H' p → Q (.ref p) H') : LamX.tLam T (TErr1 CP CT CN) t σ H Q := by
  refine ⟨tb, fun H1 e1 tb1 f => h H1 Q f e1 fun H' p s hp hr => q H' p (extTrans e1 (extOf s)) (tabs_same tb1 s) (fun b o hb no z => ?_) hr⟩
  subst z
  rw [e1 _ _ hb no] at hp
  cases hp
/-- .. and goes behind the others -/
theorem g_tellW {T : List (Addr × Str)} {t : XK → TE} {σ : L2.St} {W : Hp → Addr → Prop} {D : Addr} {xs : List V} {i : Nat} {N : L2.St → Hp → Prop} (hi : σ[i]? = some (some (.ref D))) (tb : LamX.Tabs T H) (d1 : H D = some (.lst xs)) (few : xs.length ≤ 100) (hW : ∀ G p o, W G p → p ≠ D → W (upd G D o) p)
    (h : ∀ (H1 : Hp) (Q1 : VK) (f : Addr), LamX.ExtN H H1 → (∀ H' p, Same H1 H' → H1 p = none → W H' p → Q1 (.ref p) H') → t (ErrW1 CP CT CN Q1) σ H1 (ToldK f Q1))
    (q : ∀ H' p, (∀ b o, H b = some o → b ≠ D → (∀ ps, o ≠ .tbl ps) → H' b = some o) → LamX.Tabs T H' → H' D = some (.lst (xs ++ [.ref p])) → (∀ b o, H b = some o → (∀ ps, o ≠ .tbl ps) → b ≠ p) → W H' p → N σ H') : tBM K "list" rAppend (tVar i) (tCons (LamX.tLam T (TErr1 CP CT CN) t) tNil) σ H fun _ H1 => N σ H1 := by
  refine g_bm2 <| g_var hi <| g_tyE d1 <| g_cons ?_
  refine g_lamW (W := W) tb h fun H' p e tb' new hr => g_nil ?_
  have d2 := e _ _ d1 (fun _ z => nomatch z)
  have np : p ≠ D := (new D _ d1 (fun _ z => nomatch z)).symm
  refine ⟨D, xs, _, rfl, rfl, d2, Nat.lt_of_le_of_lt few (by decide), q _ p (fun b o hb nd no => ?_) (fun P hP => ?_) upd_same new (hW _ _ _ hr np)⟩
  · rw [upd_ne nd]
    exact e _ _ hb no
  · obtain ⟨ps, h1, h2, h3⟩ := tb' P hP
    have ne : ∀ {b : Addr} {u : HO}, H' b = some u → (∀ ys, u ≠ .lst ys) → upd H' D (.lst (xs ++ [.ref p])) b = some u := fun {b u} hb n => by
      rw [upd_ne (fun z => by
        rw [z, d2] at hb
        exact n xs (Option.some.inj hb).symm)]
      exact hb
    exact ⟨ps, ne h1 (fun _ z => nomatch z), h2, fun pos cv hc => by
      obtain ⟨c, rfl, z⟩ := h3 pos cv hc
      exact ⟨c, rfl, ne z (fun _ y => nomatch y)⟩⟩
def RowIs (nm : Str) (v : V) : Hp → Addr → Prop := fun G p => G p = some (.lst [.str nm, v, .bl true])
theorem rowIs_upd {nm : Str} {D : Addr} (G : Hp) (p : Addr) (o : HO) (h : RowIs nm v G p) (n : p ≠ D) : RowIs nm v (upd G D o) p := by
  unfold RowIs
  rw [upd_ne n]
  exact h
end
/-! ### slices -/
theorem cut_to {xs : List V} {n : Nat} (h : n ≤ xs.length) : cutV xs none (some (n : Int)) = xs.take n := by
  unfold cutV
  rw [show HT.sIx xs.length 0 none = 0 from rfl, show HT.sIx xs.length xs.length (some (n : Int)) = n from by
    show (if ((n : Nat) : Int) < 0 then (((n : Nat) : Int) + (xs.length : Int)).toNat else min ((n : Nat) : Int).toNat xs.length) = n
    rw [if_neg (by omega), Int.toNat_natCast]
    exact Nat.min_eq_left h, List.drop_zero, Nat.sub_zero]
theorem cut_from {xs : List V} {n : Nat} (h : n ≤ xs.length) : cutV xs (some (n : Int)) none = xs.drop n := by
  unfold cutV
  rw [show HT.sIx xs.length xs.length none = xs.length from rfl, show HT.sIx xs.length 0 (some (n : Int)) = n from by
    show (if ((n : Nat) : Int) < 0 then (((n : Nat) : Int) + (xs.length : Int)).toNat else min ((n : Nat) : Int).toNat xs.length) = n
    rw [if_neg (by omega), Int.toNat_natCast]
    exact Nat.min_eq_left h, List.take_of_length_le (by rw [List.length_drop]; exact Nat.le_refl _)]
theorem pairedTake {α β : Type} {R : α → β → Prop} : ∀ {xs : List α} {ys : List β} (n : Nat), Paired R xs ys → Paired R (xs.take n) (ys.take n)
  | _, _, 0, _ => by
    rw [List.take_zero, List.take_zero]
    exact .nil
  | _, _, _ + 1, .nil => .nil
  | _, _, n + 1, .cons a b => .cons a (pairedTake n b)
theorem pairedDrop {α β : Type} {R : α → β → Prop} : ∀ {xs : List α} {ys : List β} (n : Nat), Paired R xs ys → Paired R (xs.drop n) (ys.drop n)
  | _, _, 0, h => h
  | _, _, _ + 1, .nil => .nil
  | _, _, n + 1, .cons _ b => pairedDrop n b
theorem cut_one {xs : List V} (h : 1 ≤ xs.length) : cutV xs none (some 1) = xs.take 1 := cut_to (n := 1) h
theorem g_slL {K : PySem.W.Frag} {σ : L2.St} {H : Hp} {Q : VK} {te : TE} {tl th : TO} (h : te σ H fun x H1 => tl σ H1 fun l H2 => th σ H2 fun u H3 => rSlL K x l u H3 Q) : tSl (rSlL K) te tl th σ H Q := h
theorem g_nop {σ : L2.St} {H : Hp} {Q : Option Int → Hp → Prop} (h : Q none H) : tNoPart σ H Q := h
theorem all0 {α : Type} {P : α → Prop} : ∀ u ∈ ([] : List α), P u := fun _ z => nomatch z
theorem allC {α : Type} {P : α → Prop} {v : α} {l : List α} (h : P v) (t : ∀ u ∈ l, P u) : ∀ u ∈ v :: l, P u := fun u hu => by
  rcases List.mem_cons.mp hu with rfl | hu
  · exact h
  · exact t u hu
end My
set_option Elab.async false
set_option maxRecDepth 100000
set_option maxHeartbeats 8000000
namespace My
open PySem PySem.Spec PyProof.Rows L2
local macro_rules | `(tactic| walk_at "cond") => `(tactic| first
  | exact Or.inr ⟨by decide, by decide⟩ | exact Or.inl ⟨by decide, by decide⟩ | exact ⟨by decide, by decide, by decide⟩ | exact ⟨by decide, by decide⟩
  | (refine Or.inl ⟨?_, ?_⟩ <;> omega) | (refine Or.inr ⟨?_, ?_⟩ <;> omega)
  | (show (0 : Int) < _; omega))
local macro_rules | `(tactic| walk_at "mem") => `(tactic| first | exact List.Mem.head _ | exact List.Mem.tail _ (List.Mem.head _) | exact Put.head | (refine List.Mem.tail _ ?_; walk_at "mem") | (apply Put.tail; walk_at "mem"))
local macro_rules | `(tactic| walk_at "st") => `(tactic| first
  | with_reducible refine g_seq ?_ | with_reducible refine g_asg ?_ | with_reducible refine g_name ?_ | ((with_reducible show tVar _ _ _ _); refine g_var rfl ?_) | with_reducible refine g_c ?_
  | with_reducible refine g_op ?_ | with_reducible refine g_test ?_ | with_reducible refine g_bl ?_
  | with_reducible refine g_cb ?_ | with_reducible refine g_cons ?_ | with_reducible refine g_nil ?_ | with_reducible refine g_tif ?_ | with_reducible refine g_ifs ?_ | with_reducible refine g_ret ?_
  | with_reducible refine g_drop ?_ | with_reducible refine g_next ?_
  | with_reducible refine g_i0 ?_ | ((with_reducible show rI _ _ _ _ _ _); refine g_i (by walk_at "cond") ?_) | with_reducible refine g_int ?_ | with_reducible refine g_abs ?_ | with_reducible refine g_or ?_
  | with_reducible refine g_and ?_ | with_reducible refine g_not ?_ | with_reducible refine g_lst ?_ | with_reducible refine g_tup ?_
  | with_reducible refine iteT ?_ | with_reducible refine iteF ?_ | with_reducible refine g_par ?_ | with_reducible refine g_two ?_ | with_reducible refine g_sub ?_
  | ((with_reducible show rIxL _ (V.ref _) (V.int _) _ _); refine g_ixM (by assumption) (by walk_at "mem") rfl rfl ?_)
  | ((with_reducible show rSetL (V.ref _) (V.int _) _ _ _); refine g_setM (by assumption) rfl (by walk_at "mem") fun _ _ => ?_)
  | with_reducible refine g_xmk ?_ | with_reducible refine g_xmkK ?_
  | ((with_reducible show XNew _ (spI1 _ _) _ _ _); refine g_x1 (by assumption) fun _ _ _ _ => ?_)
  | ((with_reducible show XNewK _ _ (spI1 _ _) _ _ _ _); refine g_x1k (by assumption) fun _ _ _ _ => ?_)
  | ((with_reducible show XNew _ (spI3 _ _ _ _) _ _ _); refine g_x3 (by assumption) fun _ _ _ _ => ?_)
  | ((with_reducible show tXmk0 _ _ _ _); refine g_xmk0 (by assumption) fun _ _ _ => ?_)
  | ((with_reducible show NewO _ _ _ _); refine g_newo (by assumption) (by first | decide | simp) fun _ _ _ _ => ?_)
  | ((with_reducible show rCat (V.ref _) (V.ref _) _ _); refine g_cat (by assumption) (by walk_at "mem") (by walk_at "mem") (by first | decide | simp) fun _ _ _ _ => ?_))
local macro_rules | `(tactic| walk_at "st") => `(tactic| first | with_reducible refine g_tcall ?_ | with_reducible refine g_tb ?_ | with_reducible refine g_andV ?_ | with_reducible refine g_notV ?_ | with_reducible refine g_chain ?_ | with_reducible refine g_un ?_ | with_reducible refine g_rU ?_)
abbrev qBent : Str := "_law_bent_right.<locals>.<lambda>"
abbrev qRt : Str := "_law_right.<locals>.<lambda>"
abbrev TT1 (t1 t2 : Addr) : List (Addr × Str) := [(t1, qBent), (t2, qRt)]
abbrev NBt : List Str := ["_law_source_here", "_law_rows", "_law_line", "_law_spot", "_law_odd", "_law_told", "_law_singles", "_law_due", "_law_wrong", "_law_bad", "_law_bent", "_law_wording"]
theorem scBent : FnScope NBt ["_law_source_here", "_law_rows", "_law_line"] (defScope s__law_bent_right) := ⟨rfl, rfl, rfl, by decide +kernel, rfl, by decide +kernel, by decide +kernel⟩
def spBent (t1 t2 : Addr) : Sp := fun vs H Q _ => ∃ (p l : Addr) (ts : List V) (ps rs : List (Str × Int)), vs = [.ref p, .ref l, .str (pairsTx rs)] ∧ Src p H ∧ l ≠ p ∧ H l = some (.lst ts) ∧ Paired (PairAt H) ts ps ∧ GoodP ps ∧ ps.length ≤ 6 ∧ GoodP rs ∧ SmallP rs ∧ rs.length ≤ 6 ∧ LamX.Tabs (TT1 t1 t2) H ∧
  ∀ H', (∀ b o, H b = some o → b ≠ p → (∀ xs, o ≠ .tbl xs) → H' b = some o) → Src p H' → LamX.Tabs (TT1 t1 t2) H' → Q (.bl true) H'
theorem pds_shape {ps : List (Str × Int)} (g : GoodP ps) : SeqAt.shaped (.list (ps.map pd)) = true := by
  have h : PyData.canLayAll0 (ps.map pd) = true ∧ PyData.depthAll (ps.map pd) ≤ 1 := by
    have nm := g.name
    clear g
    induction ps with
    | nil => exact ⟨rfl, Nat.zero_le _⟩
    | cons p r ih =>
      obtain ⟨h1, h2⟩ := ih fun q hq => nm q (List.mem_cons_of_mem _ hq)
      have z := name_strOk (nm p List.mem_cons_self)
      have d : PyData.depth (pd p) = 1 := by simp [pd, PyData.depth, PyData.depthAll]
      refine ⟨?_, ?_⟩
      · show (PyData.canLay0 (pd p) && PyData.canLayAll0 (r.map pd)) = true
        rw [h1]
        simp [pd, PyData.canLay0, PyData.canLayAll0, z]
      · show max (PyData.depth (pd p)) (PyData.depthAll (r.map pd)) ≤ 1
        omega
  have c : (PyData.list (ps.map pd)).canLay0 = true := by simp [PyData.canLay0, h.1]
  have d : (PyData.list (ps.map pd)).depth ≤ 64 := by
    have : (PyData.list (ps.map pd)).depth = PyData.depthAll (ps.map pd) + 1 := by simp [PyData.depth]
    have := h.2
    omega
  unfold SeqAt.shaped
  rw [c, decide_eq_true d]
  rfl
theorem g_eqR0 {K : PySem.W.Frag} {H : Hp} {Q : VK} {b T : Addr} {ts : List V} {ps : List (Str × Int)} (h : H b = some (.lst ts)) (pr : Paired (PairAt H) ts ps) (g : GoodP ps) (e : H T = some (.lst [])) (q : Q (.bl (decide (ps = []))) H) : rEqD K (.ref b) (.ref T) H Q := by
  refine ⟨_, _, Dp.lst (SqL.of h) (dp_prs pr), Dp.lst (SqL.of e) DpAll.nil, pds_shape g, shapedL_s (xs := []) (fun _ z => nomatch z), ?_⟩
  have z : PyData.eqv (.list (ps.map pd)) (.list []) = decide (ps = []) := by cases ps <;> simp [PyData.eqv, PyData.eqvAll]
  rw [z]
  exact q
def rowD (i : Int) : PyData := .list [.str "InvalidPairs", .int i, .bool true]
theorem dp_row {K : PySem.W.Frag} {H : Hp} {p : Addr} {i : Int} (h : H p = some (.lst [.str "InvalidPairs", .int i, .bl true])) : Dp K H (.ref p) (rowD i) := Dp.lst (SqL.of h) (.cons (.str _) (.cons (.int _) (.cons (.bl _) .nil)))
def singD : PyData := .list [rowD 0, rowD 1, rowD 1]
theorem sing_shape : SeqAt.shaped singD = true := by decide +kernel
theorem sing_eqv : PyData.eqv singD singD = true := by decide +kernel
structure LamK1 (K : PySem.W.Frag) (mg : Str → Option Value) (CP CT CN VF : Addr) where
  gE : Addr
  dE : FuncData
  FE : Fun K "_law_error" "_law_error" s__law_error gE dE
  mE : mg "_law_error" = some (.ref gE)
  bE : Binds K dE ["_law_ask"] []
  T : ErrK1 K mg CP CT CN VF
structure BentK (P : Program) (w : World) (K : PySem.W.Frag) (mg : Str → Option Value) (base : Heap) (C CP CT CN VF gP gN gS gL gI gG gR gT gE gO gRd fL : Addr) where
  S : ShK P w K mg base C CP CT CN gP gN gS gL gI gG gR gT gE gO gRd
  L : LamK1 K mg CP CT CN VF
  pull : Cal P w K mg base 1 "_law_pull" ["_law_source_here", "_law_width"] spPull
  M : Mk K C fL
  FL : FnR P w K mg base (L2.CX P w) 5 fL (spStar1 (spInitX K C CP))
section
variable {P : Program} {w : World} {K : PySem.W.Frag} {mg : Str → Option Value} {base : Heap}
abbrev XBt (P : Program) (w : World) (K : PySem.W.Frag) (mg : Str → Option Value) (base : Heap) (f c : Addr) (A : Around) (outer : List Env) (s : Shared) (H : Hp) (E : XK) : Cx := (cxOf CX0 P w K mg base NBt "_law_bent_right" (defScope s__law_bent_right) f (.ref c) A outer s H E).nox
theorem pLamB {f CP CT CN VF c t1 t2 : Addr} (R : LamK1 K mg CP CT CN VF) (TB : LamX.TabB base mg c t1) (ne : t1 ≠ t2) {A : Around} {outer : List Env} {s : Shared} {H : Hp} {E : XK} {params : Arguments} {body : Expr} {scope : Scope} {lpos pos p : Pos} {t : XK → TE}
    (hr : Room 11 (XBt P w K mg base f c A outer s H E).A)
    (hbody : ∀ (A' : Around) (outer' : List Env) (s' : Shared) (H' : Hp) (E' : XK) (f' c' : Addr), Room 9 (A'.deeper (LamX.lamEnv (XBt P w K mg base f c A outer s H E) scope s'.heap.objs.size f' c')) → PE (LamX.lamCx (XBt P w K mg base f c A outer s H E) A' outer' s' H' E' scope f' c') body (t E'))
    (hL : LamX.LamS (defScope s__law_bent_right) scope := by exact ⟨rfl, rfl, rfl, by decide +kernel, by decide +kernel⟩)
    (hdef : defaultsOf params (XBt P w K mg base f c A outer s H E).env = ([], []) := by rfl)
    (hbind : ∀ (q : Str) (cl : List (Str × Addr)) (pm cv ctv : Value), bindArgs (PySem.W.kla_fn "<lambda>" q params body scope cl pm cv ctv) {} = pure [] := by intros; rfl) :
    PE (XBt P w K mg base f c A outer s H E) (.Call (.Name "_law_error" p) [.Lambda params body scope lpos] [] pos) (LamX.tLam (TT1 t1 t2) (TErr1 CP CT CN) t) := by
  obtain ⟨oc, od, kV, doc, pm, an, cdv, ct, osl, ed, lkE, hcE⟩ := R.FE.ex
  have bE := R.bE
  rw [ed] at lkE bE
  exact LamX.pe_lamcall (T := TT1 t1 t2) (k := 9) rfl R.mE R.FE.kp lkE hcE bE scErrorD rfl (Or.inl rfl) (err_givesD R.T) TB rfl List.mem_cons_self (fun p hp e => by
    rcases List.mem_cons.mp hp with rfl | hp
    · rfl
    · rw [List.mem_singleton.mp hp] at e
      exact absurd e (Ne.symm ne)) hr hL hdef hbind hbody
theorem row_ne {nm : Str} {v : V} {G : Hp} {r D a : Addr} {xs : List V} (h : RowIs nm v G r) (d : G D = some (.lst (.ref a :: xs))) : r ≠ D := fun z => by
  unfold RowIs at h
  rw [z, d] at h
  cases h
theorem LTyp.upd {G : Hp} {V2 : Addr} {xs ys : List V} (h : G V2 = some (.lst xs)) : LTyp G (upd G V2 (.lst ys)) := fun b u hb _ => by
  by_cases z : b = V2
  · subst z
    rw [h] at hb
    cases hb
    exact .inr ⟨_, _, rfl, upd_same⟩
  · exact .inl (by rw [upd_ne z]; exact hb)
/-- where there are no rows, 0 stands in both places -/
theorem g_fixup {n : Nat} {σ : L2.St} {G : Hp} {E : Ends} {l D Y : Addr} {ts : List V} {ps : List (Str × Int)} {a0 a1 a2 b0 b1 b2 : V} (h1 : σ[1]? = some (some (.ref l))) (h5 : σ[5]? = some (some (.ref D))) (h7 : σ[7]? = some (some (.ref Y)))
    (hl : G l = some (.lst ts)) (pr : Paired (PairAt G) ts ps) (g : GoodP ps) (td : G D = some (.lst [a0, a1, a2])) (du : G Y = some (.lst [b0, b1, b2])) (nYD : Y ≠ D) (hn : 2 = n)
    (q : ∀ G' x y, (∀ b u, G b = some u → b ≠ D → b ≠ Y → G' b = some u) → LTyp G G' → G' D = some (.lst [a0, x, a2]) → G' Y = some (.lst [b0, y, b2]) → ((ps ≠ [] ∧ x = a1 ∧ y = b1) ∨ (x = .int 0 ∧ y = .int 0)) → E.nx σ G') :
    tIfS (tTest (tOp (rEqD K) (tVar 1) (tLst tNil))) (tAsg (tTup (tCons (tC (.int 0)) (tCons (tC (.int 0)) tNil))) (gTup K n (gCons (gSub (tVar 5) (tC (.int 1)) rSetL) (gCons (gSub (tVar 7) (tC (.int 1)) rSetL) gNil)))) tNext E σ G := by
  refine g_ifs <| g_test <| g_op <| g_var h1 <| g_lst <| g_nil <| nLst (Nat.le_of_ble_eq_true rfl) fun T G1 e1 l1 _ => ?_
  refine g_eqR0 (e1 _ _ hl) (pairedMono (fun _ _ h => PairAt.same h e1) pr) g l1 (g_bl ?_)
  refine g_ite (fun c => ?_) (fun c => ?_)
  · refine g_asg <| g_tup <| g_cons <| g_c <| g_cons <| g_c <| g_nil <| nTup (by decide) fun U G2 e2 l2 _ => ?_
    have tD := e2 _ _ (e1 _ _ td)
    have tY : upd G2 D (.lst [a0, .int 0, a2]) Y = some (.lst [b0, b1, b2]) := by
      rw [upd_ne nYD]
      exact e2 _ _ (e1 _ _ du)
    refine ⟨U, _, rfl, SqT.of l2, hn, _, _, rfl, g_sub <| g_var h5 <| g_c ⟨D, _, 1, 1, rfl, rfl, tD, rfl, _, _, rfl, g_sub <| g_var h7 <| g_c ⟨Y, _, 1, 1, rfl, rfl, tY, rfl, rfl, ?_⟩⟩⟩
    refine q _ (.int 0) (.int 0) (fun b u hb n1 n2 => ?_) ((LTyp.same (e1.trans e2)).trans ((LTyp.upd tD).trans (LTyp.upd tY))) ?_ upd_same (.inr ⟨rfl, rfl⟩)
    · rw [upd_ne n2]
      show upd G2 D _ b = _
      rw [upd_ne n1]
      exact e2 _ _ (e1 _ _ hb)
    · rw [upd_ne (Ne.symm nYD)]
      exact upd_same
  · exact g_next (q G1 a1 b1 (fun b u hb _ _ => e1 b u hb) (LTyp.same e1) (e1 _ _ td) (e1 _ _ du) (.inl ⟨c, rfl, rfl⟩))
/-- a text that is none, or none at all -/
def BadW (K : PySem.W.Frag) (H : Hp) (v : V) : Prop := VOk v ∧ ((∃ t, TyX K H v t ∧ PySem.W.kitOne K t (.type "str") = some false) ∨ ∃ z, v = .str z ∧ BentT z)
theorem BadW.lt {H H' : Hp} {v : V} (h : BadW K H v) (e : LTyp H H') : BadW K H' v := by
  obtain ⟨o, ⟨t, a, b⟩ | h⟩ := h
  · exact ⟨o, .inl ⟨t, ty_lt a e, b⟩⟩
  · exact ⟨o, .inr h⟩
theorem BadW.str {H : Hp} {z : Str} (h : BentT z) : BadW K H (.str z) := ⟨.inl rfl, .inr ⟨z, rfl, h⟩⟩
theorem BadW.tx {H : Hp} {z : Str} (h : z ∈ badTx) : BadW K H (.str z) := .str ⟨badTx_none z h, badTx_ok z h⟩
theorem row_eqI {nm : Str} {v : V} {G : Hp} {r c : Addr} (h1 : RowIs nm v G r) (h2 : RowIs nm v G c) (ok : VOk v) : EqV K G 2 (.ref r) (.ref c) := by
  unfold EqV
  exact .inr (.inr (.inl ⟨r, c, _, _, rfl, rfl, SqL.of h1, SqL.of h2, .cons (VOk.eqv (.inl rfl)) (.cons ok.eqv (.cons (VOk.eqv (.inl rfl)) .nil))⟩))
end
end My
set_option Elab.async false
set_option maxRecDepth 100000
set_option maxHeartbeats 8000000
namespace My
open PySem PySem.Spec PyProof.Rows L2
local macro_rules | `(tactic| walk_at "cond") => `(tactic| first
  | exact Or.inr ⟨by decide, by decide⟩ | exact Or.inl ⟨by decide, by decide⟩ | exact ⟨by decide, by decide, by decide⟩ | exact ⟨by decide, by decide⟩
  | (refine Or.inl ⟨?_, ?_⟩ <;> omega) | (refine Or.inr ⟨?_, ?_⟩ <;> omega)
  | (show (0 : Int) < _; omega))
local macro_rules | `(tactic| walk_at "mem") => `(tactic| first | exact List.Mem.head _ | exact List.Mem.tail _ (List.Mem.head _) | exact Put.head | (refine List.Mem.tail _ ?_; walk_at "mem") | (apply Put.tail; walk_at "mem"))
local macro_rules | `(tactic| walk_at "st") => `(tactic| first
  | with_reducible refine g_seq ?_ | with_reducible refine g_asg ?_ | with_reducible refine g_name ?_ | ((with_reducible show tVar _ _ _ _); refine g_var rfl ?_) | with_reducible refine g_c ?_
  | with_reducible refine g_op ?_ | with_reducible refine g_test ?_ | with_reducible refine g_bl ?_
  | with_reducible refine g_cb ?_ | with_reducible refine g_cons ?_ | with_reducible refine g_nil ?_ | with_reducible refine g_tif ?_ | with_reducible refine g_ifs ?_ | with_reducible refine g_ret ?_
  | with_reducible refine g_drop ?_ | with_reducible refine g_next ?_
  | with_reducible refine g_i0 ?_ | ((with_reducible show rI _ _ _ _ _ _); refine g_i (by walk_at "cond") ?_) | with_reducible refine g_int ?_ | with_reducible refine g_abs ?_ | with_reducible refine g_or ?_
  | with_reducible refine g_and ?_ | with_reducible refine g_not ?_ | with_reducible refine g_lst ?_ | with_reducible refine g_tup ?_
  | with_reducible refine iteT ?_ | with_reducible refine iteF ?_ | with_reducible refine g_par ?_ | with_reducible refine g_two ?_ | with_reducible refine g_sub ?_
  | ((with_reducible show rIxL _ (V.ref _) (V.int _) _ _); refine g_ixM (by assumption) (by walk_at "mem") rfl rfl ?_)
  | ((with_reducible show rSetL (V.ref _) (V.int _) _ _ _); refine g_setM (by assumption) rfl (by walk_at "mem") fun _ _ => ?_)
  | with_reducible refine g_xmk ?_ | with_reducible refine g_xmkK ?_
  | ((with_reducible show XNew _ (spI1 _ _) _ _ _); refine g_x1 (by assumption) fun _ _ _ _ => ?_)
  | ((with_reducible show XNewK _ _ (spI1 _ _) _ _ _ _); refine g_x1k (by assumption) fun _ _ _ _ => ?_)
  | ((with_reducible show XNew _ (spI3 _ _ _ _) _ _ _); refine g_x3 (by assumption) fun _ _ _ _ => ?_)
  | ((with_reducible show tXmk0 _ _ _ _); refine g_xmk0 (by assumption) fun _ _ _ => ?_)
  | ((with_reducible show NewO _ _ _ _); refine g_newo (by assumption) (by first | decide | simp) fun _ _ _ _ => ?_)
  | ((with_reducible show rCat (V.ref _) (V.ref _) _ _); refine g_cat (by assumption) (by walk_at "mem") (by walk_at "mem") (by first | decide | simp) fun _ _ _ _ => ?_))
local macro_rules | `(tactic| walk_at "st") => `(tactic| first | with_reducible refine g_tcall ?_ | with_reducible refine g_tb ?_ | with_reducible refine g_andV ?_ | with_reducible refine g_notV ?_ | with_reducible refine g_chain ?_ | with_reducible refine g_un ?_ | with_reducible refine g_rU ?_)
theorem log_w {w : Int} (h0 : 0 < w) (h : w ≤ 1000) : w.natAbs.log2 < 9000 := by
  have : w.natAbs.log2 < 10 := (Nat.log2_lt (by omega)).mpr (by omega)
  omega
section
variable {P : Program} {w : World} {K : PySem.W.Frag} {mg : Str → Option Value} {base : Heap}
theorem ok_bent {f C CP CT CN VF gP gN gS gL gI gG gR gT gE gO gRd fL c t1 t2 : Addr} {fd : FuncData} (F : FunC K "_law_bent_right" "_law_bent_right" s__law_bent_right f c fd) (R : BentK P w K mg base C CP CT CN VF gP gN gS gL gI gG gR gT gE gO gRd fL)
    (TB : LamX.TabB base mg c t1) (ne : t1 ≠ t2) : FnG P w K mg base CX0 49 f fd ["_law_source_here", "_law_rows", "_law_line"] (spBent t1 t2) := by
  refine okGC F scBent (fun vs H Q E h => ?_) (fun A outer s H vs Q E hr gd h => ?_)
  · obtain ⟨p, l, _, _, rs, rfl, _⟩ := h
    rfl
  · obtain ⟨p, l, ts, ps, rs, rfl, sr, nlp, hl, pr, g, few, gr, sm, fewr, tb, k⟩ := h
    have hr1 := hr.mono (by decide : 1 ≤ 48)
    have hr11 := hr.mono (by decide : 9 + 2 ≤ 48)
    have lx : ts.length = ps.length := pr.length
    refine ⟨_, (pss_cons (ps_set (i := 3) scBent.nd rfl (Or.inl rfl) (pCal R.pull hr1 (pa_cons (pv 0) (pa_cons (pe_op op_add (pLen R.S.len (pv 1)) pe_int) pa_nil))))
      (pss_cons (ps_set (i := 4) scBent.nd rfl (Or.inl rfl) (pe_lst (pa_cons pe_non (pa_cons (pe_tup (pa_cons pe_str pa_nil)) (pa_cons (pe_lst (pa_cons pe_str (pa_cons pe_int pa_nil))) (pa_cons (pe_tup (pa_cons pe_str (pa_cons pe_int pa_nil))) (pa_cons (pe_tup (pa_cons pe_str (pa_cons pe_int pa_nil))) (pa_cons (pe_tup (pa_cons pe_str (pa_cons (pe_un un_neg pe_int) pa_nil))) (pa_cons (pe_tup (pa_cons pe_str (pa_cons pe_bl pa_nil))) (pa_cons (pe_tup (pa_cons pe_str (pa_cons pe_str pa_nil))) (pa_cons (pe_tup (pa_cons pe_int (pa_cons pe_str pa_nil))) (pa_cons (pe_tup (pa_cons pe_str (pa_cons pe_int (pa_cons pe_int pa_nil)))) (pa_cons pe_str pa_nil)))))))))))))
      (pss_cons (ps_set (i := 4) scBent.nd rfl (Or.inl rfl) (pe_op op_cat (pv 4) (pe_lst (pa_cons (pe_tup (pa_cons pe_str (pa_cons pe_int pa_nil))) (pa_cons (pe_tup (pa_cons pe_str (pa_cons pe_int pa_nil))) (pa_cons (pe_tup (pa_cons pe_str (pa_cons pe_int pa_nil))) (pa_cons (pe_tup (pa_cons pe_str (pa_cons pe_int pa_nil))) (pa_cons (pe_tup (pa_cons (pe_tup pa_nil) (pa_cons pe_int pa_nil))) (pa_cons pe_dnewK pa_nil)))))))))
      (pss_cons (ps_set (i := 10) scBent.nd rfl (Or.inr rfl) (pe_op op_cat (pe_op op_cat (pe_slice sl_list (pv 1) po_none (po_some (pv 3))) (pe_lst (pa_cons (pe_ix ix_list (pv 4) (pCal R.pull hr1 (pa_cons (pv 0) (pa_cons (pLen R.S.len (pv 4)) pa_nil))) (fun _ _ => rfl)) pa_nil))) (pe_slice sl_list (pv 1) (po_some (pv 3)) po_none)))
      (pss_cons (ps_set (i := 5) scBent.nd rfl (Or.inl rfl) (pe_lst (pa_cons (pLamB (t := fun E1 => tSMeth C (spOf K C CP) E1 (tC (.ref C)) (tCons (tCB (rTupZ K) (tCons (tVar 10) tNil)) tNil)) R.L TB ne hr11 fun _ _ _ _ E1 _ _ hr' => pe_smeth (pG R.S.mL) R.S.sO R.S.fO (hr'.mono (by decide : 7 ≤ 9)) R.S.bO (passes_call (takes_of (E := E1) rfl rfl rfl rfl) fun _ _ _ _ h => h) (pa_cons (pe_callTy (r := rTupZ K) call_tupZ (by rfl) R.S.tuple PyProof.Rows.boot_tuple (pa_cons (pv 10) pa_nil)) pa_nil)) pa_nil)))
      (pss_cons (ps_expr (pe_bm PySem.F.plainAttrs_list PySem.F.slot_list_append PySem.F.type_list_append mt_append (pv 5) (pa_cons (pLamB (t := fun E1 => tSMethK C (spOf K C CP) (fun us ws => us ++ ws) E1 (tC (.ref C)) (tCons (tCB (rTupZ K) (tCons (tOp rCat (tVar 1) (tSl (rSlL K) (tVar 1) tNoPart (tPart (tC (.int 1))))) tNil)) tNil)) R.L TB ne hr11 fun _ _ _ _ E1 _ _ hr' => pe_smethK (pG R.S.mL) R.S.sO R.S.fO (hr'.mono (by decide : 7 ≤ 9)) R.S.kO (passes_call (takes_of (E := E1) rfl rfl rfl rfl) fun _ _ _ _ h => h) (pk_cons (pe_callTy (r := rTupZ K) call_tupZ (by rfl) R.S.tuple PyProof.Rows.boot_tuple (pa_cons (pe_op op_cat (pv 1) (pe_slice sl_list (pv 1) po_none (po_some pe_int))) pa_nil)) pk_nil)) pa_nil)))
      (pss_cons (ps_expr (pe_bm PySem.F.plainAttrs_list PySem.F.slot_list_append PySem.F.type_list_append mt_append (pv 5) (pa_cons (pLamB (t := fun E1 => tSMeth C (spOf K C CP) E1 (tC (.ref C)) (tCons (tVar 10) tNil)) R.L TB ne hr11 fun _ _ _ _ E1 _ _ hr' => pe_smeth (pG R.S.mL) R.S.sO R.S.fO (hr'.mono (by decide : 7 ≤ 9)) R.S.bO (passes_call (takes_of (E := E1) rfl rfl rfl rfl) fun _ _ _ _ h => h) (pa_cons (pv 10) pa_nil)) pa_nil)))
      (pss_cons (ps_set (i := 9) scBent.nd rfl (Or.inr rfl) (pe_ix ix_list (pv 4) (pCal R.pull hr1 (pa_cons (pv 0) (pa_cons (pLen R.S.len (pv 4)) pa_nil))) (fun _ _ => rfl)))
      (pss_cons (ps_set (i := 6) scBent.nd rfl (Or.inl rfl) (pe_lst (pa_cons (pLamB (t := fun E1 => StX.tMakeR C (spStar1 (spInitX K C CP)) E1 (tCons (tVar 9) tNil)) R.L TB ne hr11 fun _ _ _ _ E1 _ _ hr' => StX.pe_makeR R.M R.FL (hr'.mono (by decide : 6 ≤ 9)) rfl R.S.mL (passes_call (takes_of (E := E1) rfl rfl rfl rfl) fun _ _ _ _ h => h) (pa_cons (pv 9) pa_nil)) pa_nil)))
      (pss_cons (ps_expr (pe_bm PySem.F.plainAttrs_list PySem.F.slot_list_append PySem.F.type_list_append mt_append (pv 6) (pa_cons (pLamB (t := fun E1 => StX.tMakeR C (spStar1 (spInitX K C CP)) E1 (tCons (tTup (tCons (tC (.str "good")) (tCons (tC (.int 2)) tNil))) (tCons (tVar 9) tNil))) R.L TB ne hr11 fun _ _ _ _ E1 _ _ hr' => StX.pe_makeR R.M R.FL (hr'.mono (by decide : 6 ≤ 9)) rfl R.S.mL (passes_call (takes_of (E := E1) rfl rfl rfl rfl) fun _ _ _ _ h => h) (pa_cons (pe_tup (pa_cons pe_str (pa_cons pe_int pa_nil))) (pa_cons (pv 9) pa_nil))) pa_nil)))
      (pss_cons (ps_expr (pe_bm PySem.F.plainAttrs_list PySem.F.slot_list_append PySem.F.type_list_append mt_append (pv 6) (pa_cons (pLamB (t := fun E1 => StX.tMakeR C (spStar1 (spInitX K C CP)) E1 (tCons (tTup (tCons (tC (.str "good")) (tCons (tC (.int 2)) tNil))) (tCons (tTup (tCons (tC (.str "good")) (tCons (tC (.int 3)) tNil))) tNil))) R.L TB ne hr11 fun _ _ _ _ E1 _ _ hr' => StX.pe_makeR R.M R.FL (hr'.mono (by decide : 6 ≤ 9)) rfl R.S.mL (passes_call (takes_of (E := E1) rfl rfl rfl rfl) fun _ _ _ _ h => h) (pa_cons (pe_tup (pa_cons pe_str (pa_cons pe_int pa_nil))) (pa_cons (pe_tup (pa_cons pe_str (pa_cons pe_int pa_nil))) pa_nil))) pa_nil)))
      (pss_cons (ps_if (pt_cmpR (op_neD hr.units) (pv 6) (pe_lst (pa_cons (pe_lst (pa_cons pe_str (pa_cons pe_int (pa_cons pe_bl pa_nil)))) (pa_cons (pe_lst (pa_cons pe_str (pa_cons pe_int (pa_cons pe_bl pa_nil)))) (pa_cons (pe_lst (pa_cons pe_str (pa_cons pe_int (pa_cons pe_bl pa_nil)))) pa_nil)))) (nomark _)) (pss_one (ps_ret pe_bl)) pss_nil)
      (pss_cons (ps_set (i := 7) scBent.nd rfl (Or.inl rfl) (pe_lst (pa_cons (pe_lst (pa_cons pe_str (pa_cons (pv 3) (pa_cons pe_bl pa_nil)))) (pa_cons (pe_lst (pa_cons pe_str (pa_cons (pLen R.S.len (pv 1)) (pa_cons pe_bl pa_nil)))) (pa_cons (pe_lst (pa_cons pe_str (pa_cons pe_non (pa_cons pe_bl pa_nil)))) pa_nil)))))
      (pss_cons (ps_if (pt_cmpR (op_eqD hr.units) (pv 1) (pe_lst pa_nil) (nomark _)) (pss_one (ps_asg (pe_tup (pa_cons pe_int (pa_cons pe_int pa_nil))) (pg_tup rfl (pgs_cons (pg_sub (pv 5) pe_int set_list) (pgs_cons (pg_sub (pv 7) pe_int set_list) pgs_nil))))) pss_nil)
      (pss_cons (ps_set (i := 8) scBent.nd rfl (Or.inl rfl) (pe_lst (pa_cons pe_non (pa_cons pe_int (pa_cons (pe_tup (pa_cons (pv 2) pa_nil)) (pa_cons (pe_op op_add_str (pv 2) pe_str) (pa_cons (pe_op op_add_str (pv 2) pe_str) (pa_cons (pe_op op_add_str pe_str (pv 2)) (pa_cons (pe_op op_add_str (pv 2) pe_str) (pa_cons pe_str (pa_cons pe_str (pa_cons pe_str (pa_cons pe_str (pa_cons pe_str pa_nil))))))))))))))
      (pss_cons (ps_set (i := 8) scBent.nd rfl (Or.inl rfl) (pe_op op_cat (pv 8) (pe_lst (pa_cons pe_str (pa_cons pe_str (pa_cons pe_str (pa_cons pe_str (pa_cons pe_str (pa_cons pe_str (pa_cons pe_str (pa_cons pe_str (pa_cons pe_str (pa_cons pe_str pa_nil)))))))))))))
      (pss_cons (ps_expr (pe_bm PySem.F.plainAttrs_list PySem.F.slot_list_append PySem.F.type_list_append mt_append (pv 8) (pa_cons (pe_op op_add_str (pv 2) pe_str) pa_nil)))
      (pss_cons (ps_set (i := 11) scBent.nd rfl (Or.inr rfl) (pe_ix ix_list (pv 8) (pCal R.pull hr1 (pa_cons (pv 0) (pa_cons (pLen R.S.len (pv 8)) pa_nil))) (fun _ _ => rfl)))
      (pss_cons (ps_expr (pe_bm PySem.F.plainAttrs_list PySem.F.slot_list_append PySem.F.type_list_append mt_append (pv 5) (pa_cons (pLamB (t := fun E1 => tSMeth C (spRead K C CT) E1 (tC (.ref C)) (tCons (tVar 11) tNil)) R.L TB ne hr11 fun _ _ _ _ E1 _ _ hr' => pe_smeth (pG R.S.mL) R.S.sR R.S.fRd (hr'.mono (by decide : 7 ≤ 9)) R.S.bR (passes_call (takes_of (E := E1) rfl rfl rfl rfl) fun _ _ _ _ h => h) (pa_cons (pv 11) pa_nil)) pa_nil)))
      (pss_one (ps_ret (pe_cmpR (op_eqV hr.units) (pv 5) (pe_op op_cat (pv 7) (pe_lst (pa_cons (pe_lst (pa_cons pe_str (pa_cons (pv 11) (pa_cons pe_bl pa_nil)))) pa_nil))) (nomark _))))))))))))))))))))))), ?_⟩
    have np : ∀ {b : Addr} {G G' : Hp}, Src p G → Same G G' → G b = none → b ∉ [p] := fun {b G G'} s _ hb z => s.some (by rw [← List.mem_singleton.mp z]; exact hb)
    have slot : ∀ {G G' : Hp}, Src p G → Off [p] G G' → LamX.Tabs (TT1 t1 t2) G → LamX.Tabs (TT1 t1 t2) G' := fun {G G'} s o t => by
      obtain ⟨sx, sl⟩ := s.lst
      exact tabs_off t sl o
    -- the place
    refine g_seq <| g_asg <| g_tcall <| g_cons <| g_var rfl <| g_cons <| g_op <| g_cb <| g_cons <| g_var rfl <| g_nil <| g_lenLs hl <| g_c <| g_i0 <| g_nil ?_
    refine pull_of sr (by omega) (log_w (by omega) (by omega)) fun d B hd ob sB => g_name ?_
    have hlB : B l = some (.lst ts) := ob _ _ hl fun z => nlp (List.mem_singleton.mp z)
    have ltB : LTyp H B := LTyp.off ob sr sB
    have prB : Paired (PairAt B) ts ps := pairedMono (fun _ _ h => pairAt_lt h ltB) pr
    have tbB := slot sr ob tb
    have hd' : d ≤ ts.length := by omega
    dsimp only
    -- what is no pair
    refine g_seq <| g_asg <| g_lst <| g_cons <| g_c <| g_cons <| g_tup <| g_cons <| g_c <| g_nil <| nTup (by decide) fun T0 A1 x1 f1 n1 => ?_
    have o1 := odS (odS (od0 (K := K) (H := B)) (Same.refl B) od_non) x1 (od_len f1 (by decide))
    refine g_cons <| g_lst <| g_cons <| g_c <| g_cons <| g_c <| g_nil <| nLst (by decide) fun L0 A2 x2 f2 n2 => ?_
    have o2 := odS o1 x2 (od_lst f2)
    refine g_cons <| g_tup <| g_cons <| g_c <| g_cons <| g_c <| g_nil <| nTup (by decide) fun T1 A3 x3 f3 n3 => ?_
    have o3 := odS o2 x3 (od_nm f3 (by decide) (by decide +kernel))
    refine g_cons <| g_tup <| g_cons <| g_c <| g_cons <| g_c <| g_nil <| nTup (by decide) fun T2 A4 x4 f4 n4 => ?_
    have o4 := odS o3 x4 (od_ct f4 (by decide) (by decide))
    refine g_cons <| g_tup <| g_cons <| g_c <| g_cons <| g_un <| g_c <| g_rU <| g_nil <| nTup (by decide) fun T3 A5 x5 f5 n5 => ?_
    have o5 := odS o4 x5 (od_ct f5 (by decide) (by decide))
    refine g_cons <| g_tup <| g_cons <| g_c <| g_cons <| g_c <| g_nil <| nTup (by decide) fun T4 A6 x6 f6 n6 => ?_
    have o6 := odS o5 x6 (od_bl f6 (by decide))
    refine g_cons <| g_tup <| g_cons <| g_c <| g_cons <| g_c <| g_nil <| nTup (by decide) fun T5 A7 x7 f7 n7 => ?_
    have o7 := odS o6 x7 (od_st f7 (.str (by decide)))
    refine g_cons <| g_tup <| g_cons <| g_c <| g_cons <| g_c <| g_nil <| nTup (by decide) fun T6 A8 x8 f8 n8 => ?_
    have o8 := odS o7 x8 (od_st f8 (.other (.base (.int 1)) (kit_ty (by decide +kernel) : PySem.W.kitOne K (.type "int") (.type "str") = some false)))
    refine g_cons <| g_tup <| g_cons <| g_c <| g_cons <| g_c <| g_cons <| g_c <| g_nil <| nTup (by decide) fun T7 A9 x9 f9 n9 => ?_
    have o9 := odS o8 x9 (od_len f9 (by decide))
    have o10 := odS o9 (Same.refl _) (od_str "a1")
    refine g_cons <| g_c <| g_nil <| nLst (Nat.le_of_ble_eq_true rfl) fun W1 Aa xa fa na => g_name ?_
    have oa := o10.lt (LTyp.same xa)
    have yB := ((((((((x1.trans x2).trans x3).trans x4).trans x5).trans x6).trans x7).trans x8).trans x9).trans xa
    clear o1 o2 o3 o4 o5 o6 o7 o8 o9 o10
    dsimp only
    refine g_seq <| g_asg <| g_op <| g_var rfl <| g_lst <| g_cons <| g_tup <| g_cons <| g_c <| g_cons <| g_c <| g_nil <| nTup (by decide) fun U1 B1 z1 w1 _ => ?_
    have q1 := odS oa z1 (od_nm w1 (by decide) (by decide +kernel))
    refine g_cons <| g_tup <| g_cons <| g_c <| g_cons <| g_c <| g_nil <| nTup (by decide) fun U2 B2 z2 w2 _ => ?_
    have q2 := odS q1 z2 (od_nm w2 (by decide) (by decide +kernel))
    refine g_cons <| g_tup <| g_cons <| g_c <| g_cons <| g_c <| g_nil <| nTup (by decide) fun U3 B3 z3 w3 _ => ?_
    have q3 := odS q2 z3 (od_nm w3 (by decide) (by decide +kernel))
    refine g_cons <| g_tup <| g_cons <| g_c <| g_cons <| g_c <| g_nil <| nTup (by decide) fun U4 B4 z4 w4 _ => ?_
    have q4 := odS q3 z4 (od_nm w4 (by decide) (by decide +kernel))
    refine g_cons <| g_tup <| g_cons <| g_tup <| g_nil <| nTup (by decide) fun U5 B5 z5 w5 _ => ?_
    refine g_cons <| g_c <| g_nil <| nTup (Nat.le_of_ble_eq_true rfl) fun U6 B6 z6 w6 _ => ?_
    have q6 := odS q4 (z5.trans z6) (od_tp w6 (z6 _ _ w5))
    refine g_cons ?_
    refine nDk fun U7 B7 z7 w7 _ => ?_
    have q7 := odS q6 z7 (od_dk w7)
    refine g_nil <| nLst (Nat.le_of_ble_eq_true rfl) fun W2 B8 z8 w8 _ => ?_
    have yA := ((((((z1.trans z2).trans z3).trans z4).trans z5).trans z6).trans z7).trans z8
    refine cLst (yA _ _ fa) w8 (Nat.le_of_ble_eq_true rfl) fun W3 B9 z9 w9 nW3 => g_name ?_
    have q9 := (q7.lt (LTyp.same z8)).lt (LTyp.same z9)
    have y9 := (yB.trans yA).trans z9
    have nW0 : B W3 = none := none_back (yB.trans yA) nW3
    clear q1 q2 q3 q4 q6 q7 oa
    dsimp only
    obtain ⟨W, eW, lW, qW⟩ : ∃ W : List V, B9 W3 = some (.lst W) ∧ W.length = 17 ∧ Odds K B9 W := ⟨_, w9, rfl, q9⟩
    clear q9 w9
    have s9 : Src p B9 := sB.same y9
    have hl9 := y9 _ _ hlB
    have pr9 : Paired (PairAt B9) ts ps := pairedMono (fun _ _ h => PairAt.same h y9) prB
    have tb9 := tabs_same tbB y9
    have pW3 : W3 ≠ p := fun z => sB.some (by rw [← z]; exact nW0)
    have lW3 : W3 ≠ l := fun z => by
      rw [z, hlB] at nW0
      cases nW0
    have o9 : Off [p] H B9 := ob.trans (Off.of y9)
    -- the bent rows
    refine g_seq <| g_asg <| g_op <| g_op <| g_slL <| g_var rfl <| g_nop <| g_part <| g_var rfl ⟨_, rfl, sLst hl9 fun a1 C1 c1 e1 n1 => ?_⟩
    rw [cut_to hd'] at e1
    refine g_lst <| g_cons <| g_op <| g_var rfl <| g_tcall <| g_cons <| g_var rfl <| g_cons <| g_cb <| g_cons <| g_var rfl <| g_nil <| g_lenLs (c1 _ _ eW) <| g_nil ?_
    rw [lW]
    have sC1 := s9.same c1
    refine pull_of sC1 (by decide) (by decide) fun j C2 hj oc sC => ?_
    obtain ⟨o, eo⟩ : ∃ o, W[j]? = some o := ⟨W[j]'(by omega), List.getElem?_eq_getElem (by omega)⟩
    have lt2 : LTyp B9 C2 := (LTyp.same c1).trans (LTyp.off oc sC1 sC)
    have oK : PairK K C2 o none := pairK_lt (qW o (List.mem_of_getElem? eo)) lt2
    have nW3p : W3 ∉ [p] := fun z => pW3 (List.mem_singleton.mp z)
    have nlP : l ∉ [p] := fun z => nlp (List.mem_singleton.mp z)
    have na1 : a1 ∉ [p] := fun z => s9.some (by rw [← List.mem_singleton.mp z]; exact n1)
    have eW2 := oc _ _ (c1 _ _ eW) nW3p
    refine ix_at (SqL.of eW2) eo <| g_nil <| nLst (Nat.le_of_ble_eq_true rfl) fun a2 C3 c3 e3 n3 => ?_
    have lt1 : (ts.take d).length ≤ 6 := Nat.le_trans (by rw [List.length_take]; exact Nat.min_le_right _ _) (by omega : ts.length ≤ 6)
    have lt6 : (ts.drop d).length ≤ 6 := by rw [List.length_drop]; omega
    refine cLst (c3 _ _ (oc _ _ e1 na1)) e3 (by rw [List.length_singleton]; omega) fun a3 C4 c4 e4 n4 => ?_
    have hl4 : C4 l = some (.lst ts) := c4 _ _ (c3 _ _ (oc _ _ (c1 _ _ hl9) nlP))
    refine g_slL <| g_var rfl <| g_part <| g_var rfl ⟨_, rfl, g_nop <| sLst hl4 fun a4 C5 c5 e5 n5 => ?_⟩
    rw [cut_from hd'] at e5
    refine cLst (c5 _ _ e4) e5 (by rw [List.length_append, List.length_singleton]; omega) fun a5 C6 c6 e6 n6 => g_name ?_
    dsimp only
    have c36 := ((c3.trans c4).trans c5).trans c6
    have lt96 : LTyp B9 C6 := lt2.trans (LTyp.same c36)
    have hl6 := c6 _ _ (c5 _ _ hl4)
    have eW6 := c36 _ _ eW2
    have sC6 := sC.same c36
    have tbC := tabs_same (slot sC1 oc (tabs_same tb9 c1)) c36
    have pr6 : Paired (PairAt C6) ts ps := pairedMono (fun _ _ h => pairAt_lt h lt96) pr9
    have qW6 := qW.lt lt96
    have oK6 := pairK_lt oK (LTyp.same c36)
    have o6 : Off [p] H C6 := ((o9.trans (Off.of c1)).trans oc).trans (Off.of c36)
    have prX : Paired (PairK K C6) ((ts.take d ++ [o]) ++ ts.drop d) (((ps.take d).map some ++ [none]) ++ (ps.drop d).map some) := by
      have nm : ∀ q ∈ ps, nameB q.1 = true := g.name
      refine pairedApp (pairedApp (pairK_rs (pairK_all (pairedTake d pr6) (fun q hq => g.name q (List.mem_of_mem_take hq)) fun q hq => g.count q (List.mem_of_mem_take hq))) (.cons oK6 .nil)) (pairK_rs (pairK_all (pairedDrop d pr6) (fun q hq => g.name q (List.mem_of_mem_drop hq)) fun q hq => g.count q (List.mem_of_mem_drop hq)))
    have wX : wrongFrom 0 [] (((ps.take d).map some ++ [none]) ++ (ps.drop d).map some) = some d := by
      have e : (ps.take d).length = d := by rw [List.length_take]; omega
      rw [List.append_assoc]
      refine (wrong_at (ps.take d) 0 [] ((ps.drop d).map some) ?_).trans (by rw [Nat.zero_add, e])
      rw [List.nil_append]
      exact List.Nodup.sublist ((List.take_sublist d ps).map _) g.nd
    have lenX : ((ts.take d ++ [o]) ++ ts.drop d).length ≤ 1000 := by
      rw [List.length_append, List.length_append, List.length_singleton]
      omega
    clear eW c1 c3 c4 c5 c6 e1 e3 e4 e5 lt2 oK eW2 qW hl9 pr9 tb9 s9 n1 n3 n4 n5
    -- what is told of them
    refine g_seq <| g_asg <| g_lst <| g_cons ?_
    refine g_lamW (W := RowIs "InvalidPairs" (.int d)) tbC (fun G Q1 fo eG hQ => ?_) fun E1 r0 e1 tb1 new0 row0 => ?_
    · refine ⟨rfl, g_cons <| g_cb <| g_cons <| g_var rfl <| g_nil <| zTup (eG _ _ e6 (fun _ z => nomatch z)) fun b G2 s2 q2 _ => g_nil ?_⟩
      exact ⟨_, rfl, .inr ⟨b, _, _, rfl, q2, pairedMono (fun _ _ h => pairK_lt h ((LTyp.ext eG).trans (LTyp.same s2))) prX, lenX, made_bad wX (tellP fun H' q s hq hr => hQ H' q (s2.trans s) (none_back s2 hq) hr)⟩⟩
    refine g_nil <| nLst (Nat.le_of_ble_eq_true rfl) fun D M1 m1 u1 nD => g_name ?_
    dsimp only
    have g1 : LamX.ExtN C6 M1 := extTrans e1 (extOf m1)
    have nB : ∀ b u, C6 b = some u → (∀ xs, u ≠ .tbl xs) → b ≠ D := fun b u hb no z => by
      rw [z] at hb
      rw [e1 _ _ hb no] at nD
      cases nD
    have goOn : ∀ {G G' : Hp}, LamX.ExtN C6 G → (∀ b u, G b = some u → b ≠ D → (∀ xs, u ≠ .tbl xs) → G' b = some u) → LamX.ExtN C6 G' := fun {G G'} e c b u hb no => c b u (e b u hb no) (nB b u hb no) no
    have nr0 : r0 ≠ D := fun z => by
      rw [z] at row0
      rw [row0] at nD
      cases nD
    have row0' : RowIs "InvalidPairs" (.int d) M1 r0 := m1 _ _ row0
    have tM1 := tabs_same tb1 m1
    refine g_seq <| g_drop <| g_tellW (W := fun G q => ps ≠ [] → RowIs "InvalidPairs" (.int ps.length) G q) rfl tM1 u1 (by show 1 ≤ 100; decide) (fun G q u h n hz => rowIs_upd G q u (h hz) n) (fun G Q1 fo eG hQ => ?_) fun M2 r1 k2 tM2 u2 new1 row1 => ?_
    · have gG := extTrans g1 eG
      have hlG := gG _ _ hl6 (fun _ z => nomatch z)
      refine ⟨rfl, g_cons <| g_cb <| g_cons <| g_op <| g_var rfl <| g_slL <| g_var rfl <| g_nop <| g_part <| g_c ⟨_, rfl, sLst hlG fun b1 G1 h1 k1 _ => ?_⟩⟩
      refine cLst (h1 _ _ hlG) k1 (Nat.le_trans (Nat.add_le_add_left (cutV_length _ _ _) _) (by omega)) fun b2 G2 h2 k2 _ => g_nil <| zTup k2 fun b3 G3 h3 k3 _ => g_nil ?_
      have h13 := (h1.trans h2).trans h3
      by_cases hz : ps = []
      · subst hz
        have tz : ts = [] := List.length_eq_zero_iff.mp lx
        subst tz
        exact ⟨_, rfl, .inr ⟨b3, [], [], rfl, k3, .nil, (by decide), made_good (ps := []) ⟨(fun _ z => nomatch z), (fun _ z => nomatch z), List.nodup_nil⟩ (by decide) fun H' x rs' hx s od la => told_ok fun q hq => hQ _ q ((h13.trans s).trans (sameNew hq)) (none_back (h13.trans s) hq) fun z => absurd rfl z⟩⟩
      · obtain ⟨q0, pr', rfl⟩ := List.exists_cons_of_ne_nil hz
        have t1 : 1 ≤ ts.length := by rw [lx]; exact Nat.succ_le_succ (Nat.zero_le _)
        rw [cut_one t1] at k3
        have lt3 : LTyp C6 G3 := (LTyp.ext gG).trans (LTyp.same h13)
        have pr3 : Paired (PairAt G3) ts (q0 :: pr') := pairedMono (fun _ _ h => pairAt_lt h lt3) pr6
        have pK := pairK_all (K := K) pr3 g.name g.count
        refine ⟨_, rfl, .inr ⟨b3, _, _, rfl, k3, pairedApp (pairK_rs pK) (pairK_rs (pairedTake 1 pK)), by rw [List.length_append, List.length_take]; omega, made_bad (i := (q0 :: pr').length) ?_ (tellP fun H' q s hq hr => hQ H' q (h13.trans s) (none_back h13 hq) fun _ => hr)⟩⟩
        have w := wrong_dup (q0 :: pr') 0 [] q0 [] (by rw [List.nil_append]; exact g.nd) (by rw [List.nil_append, List.map_cons]; exact List.mem_cons_self)
        rw [Nat.zero_add] at w
        exact w
    have g2 := goOn g1 k2
    dsimp only
    refine g_seq <| g_drop <| g_tellW (W := RowIs "InvalidPairs" .non) rfl tM2 u2 (by show 2 ≤ 100; decide) (fun G q u h n => rowIs_upd G q u h n) (fun G Q1 fo eG hQ => ?_) fun M3 r2 k3 tM3 u3 new2 row2 => ?_
    · refine ⟨rfl, g_cons <| g_var rfl <| g_nil ⟨_, rfl, .inl ⟨_, .base (.lst (extTrans g2 eG _ _ e6 (fun _ z => nomatch z))), kit_ty (by decide +kernel), tellP fun H' q s hq hr => hQ H' q s hq hr⟩⟩⟩
    have g3 := goOn g2 k3
    have row0'' : RowIs "InvalidPairs" (.int d) M3 r0 := k3 _ _ (k2 _ _ row0' nr0 (fun _ z => nomatch z)) nr0 (fun _ z => nomatch z)
    have nr1 : r1 ≠ D := (new1 D _ u1 (fun _ z => nomatch z)).symm
    have nr2 : r2 ≠ D := (new2 D _ u2 (fun _ z => nomatch z)).symm
    have row1' : ps ≠ [] → RowIs "InvalidPairs" (.int ps.length) M3 r1 := fun hz => k3 _ _ (row1 hz) nr1 (fun _ z => nomatch z)
    clear row0 row0' row1 u1 u2 tM1 tM2 tb1 prX wX lenX
    dsimp only
    -- one that is no pair, alone and behind another
    have fW3 : M3 W3 = some (.lst W) := g3 _ _ eW6 (fun _ z => nomatch z)
    have sM : Src p M3 := src_ext sC6 g3
    have pD : D ≠ p := by
      obtain ⟨sx, sl⟩ := sC6.lst
      exact (nB p _ sl (fun _ z => nomatch z)).symm
    refine g_seq <| g_asg <| g_op <| g_var rfl <| g_tcall <| g_cons <| g_var rfl <| g_cons <| g_cb <| g_cons <| g_var rfl <| g_nil <| g_lenLs fW3 <| g_nil ?_
    rw [lW]
    refine pull_of sM (by decide) (by decide) fun i2 N1 hi2 on sN => ?_
    obtain ⟨bad, ebad⟩ : ∃ bad, W[i2]? = some bad := ⟨W[i2]'(by omega), List.getElem?_eq_getElem (by omega)⟩
    have fWN := on _ _ fW3 nW3p
    refine ix_at (SqL.of fWN) ebad <| g_name ?_
    dsimp only
    have ltN : LTyp C6 N1 := (LTyp.ext g3).trans (LTyp.off on sM sN)
    have badK : PairK K N1 bad none := pairK_lt (qW6 bad (List.mem_of_getElem? ebad)) ltN
    have tN := slot sM on tM3
    have psome : ∃ u, C6 p = some u ∧ ∀ xs, u ≠ .tbl xs := by
      obtain ⟨sx, sl⟩ := sC6.lst
      exact ⟨_, sl, fun _ z => nomatch z⟩
    obtain ⟨up, hup, nup⟩ := psome
    have nrp : ∀ {r : Addr}, (∀ b u, C6 b = some u → (∀ xs, u ≠ .tbl xs) → b ≠ r) → r ∉ [p] := fun {r} h z => h p up hup nup (List.mem_singleton.mp z).symm
    have rp0 : r0 ∉ [p] := nrp new0
    have rp1 : r1 ∉ [p] := nrp fun b u hb no => new1 b u (g1 b u hb no) no
    have rp2 : r2 ∉ [p] := nrp fun b u hb no => new2 b u (g2 b u hb no) no
    have nDp : D ∉ [p] := fun z => pD (List.mem_singleton.mp z)
    have v3 : N1 D = some (.lst ([V.ref r0] ++ [V.ref r1] ++ [V.ref r2])) := on _ _ u3 nDp
    have ra0 : RowIs "InvalidPairs" (.int d) N1 r0 := on _ _ row0'' rp0
    have ra1 : ps ≠ [] → RowIs "InvalidPairs" (.int ps.length) N1 r1 := fun hz => on _ _ (row1' hz) rp1
    have ra2 : RowIs "InvalidPairs" .non N1 r2 := on _ _ row2 rp2
    have hlN : N1 l = some (.lst ts) := on _ _ (g3 _ _ hl6 (fun _ z => nomatch z)) nlP
    have prN : Paired (PairAt N1) ts ps := pairedMono (fun _ _ h => pairAt_lt h ltN) pr6
    have gPg : nameB ("good" : Str) = true := by decide +kernel
    have g2k : ∀ {G : Hp} {b : Addr} {n : Int}, G b = some (.tup [.str "good", .int n]) → 1 ≤ n → PairK K G (.ref b) (some ("good", n)) := fun {G b n} h hn => PairAt.k ⟨b, rfl, h⟩ gPg hn (nameB_len gPg)
    refine g_seq <| g_asg <| g_lst <| g_cons ?_
    refine g_lamW (W := RowIs "InvalidPairs" (.int (0 : Nat))) tN (fun G Q1 fo eG hQ => ?_) fun E2 s0 e2 tb2 newS row4 => ?_
    · refine g_mkR <| g_cons <| g_var rfl <| g_nil ?_
      exact made_of (rs := [none]) (.cons (pairK_lt badK (LTyp.ext eG)) .nil) (by show 1 ≤ 1000; decide) (made_bad (i := 0) rfl (tellP fun H' q s hq hr => hQ H' q s hq hr))
    refine g_nil <| nLst (Nat.le_of_ble_eq_true rfl) fun D2 P1 p1 y1 nD2 => g_name ?_
    dsimp only
    have j1 : LamX.ExtN N1 P1 := extTrans e2 (extOf p1)
    have nN : ∀ b u, N1 b = some u → (∀ xs, u ≠ .tbl xs) → b ≠ D2 := fun b u hb no z => by
      rw [z] at hb
      rw [e2 _ _ hb no] at nD2
      cases nD2
    have goN : ∀ {G G' : Hp}, LamX.ExtN N1 G → (∀ b u, G b = some u → b ≠ D2 → (∀ xs, u ≠ .tbl xs) → G' b = some u) → LamX.ExtN N1 G' := fun {G G'} e c b u hb no => c b u (e b u hb no) (nN b u hb no) no
    have ns0 : s0 ≠ D2 := fun z => by
      rw [z] at row4
      rw [row4] at nD2
      cases nD2
    have row4' : RowIs "InvalidPairs" (.int (0 : Nat)) P1 s0 := p1 _ _ row4
    refine g_seq <| g_drop <| g_tellW (W := RowIs "InvalidPairs" (.int (1 : Nat))) rfl (tabs_same tb2 p1) y1 (by show 1 ≤ 100; decide) (fun G q u h n => rowIs_upd G q u h n) (fun G Q1 fo eG hQ => ?_) fun P2 s1 k4 tP2 y2 newS1 row5 => ?_
    · refine g_mkR <| g_cons <| g_tup <| g_cons <| g_c <| g_cons <| g_c <| g_nil <| nTup (by decide) fun T G1 h1 k1 _ => g_cons <| g_var rfl <| g_nil ?_
      exact made_of (rs := [some ("good", 2), none]) (.cons (g2k k1 (by decide)) (.cons (pairK_lt badK ((LTyp.ext (extTrans j1 eG)).trans (LTyp.same h1))) .nil)) (by show 2 ≤ 1000; decide) (made_bad (i := 1) (wrong_at [("good", 2)] 0 [] [] (by decide +kernel)) (tellP fun H' q s hq hr => hQ H' q (h1.trans s) (none_back h1 hq) hr))
    have j2 := goN j1 k4
    dsimp only
    refine g_seq <| g_drop <| g_tellW (W := RowIs "InvalidPairs" (.int (1 : Nat))) rfl tP2 y2 (by show 2 ≤ 100; decide) (fun G q u h n => rowIs_upd G q u h n) (fun G Q1 fo eG hQ => ?_) fun P3 s2 k5 tP3 y3 newS2 row6 => ?_
    · refine g_mkR <| g_cons <| g_tup <| g_cons <| g_c <| g_cons <| g_c <| g_nil <| nTup (by decide) fun T G1 h1 k1 _ => g_cons <| g_tup <| g_cons <| g_c <| g_cons <| g_c <| g_nil <| nTup (by decide) fun T' G2 h2 k2 _ => g_nil ?_
      exact made_of (rs := [some ("good", 2), some ("good", 3)]) (.cons (g2k (h2 _ _ k1) (by decide)) (.cons (g2k k2 (by decide)) .nil)) (by show 2 ≤ 1000; decide) (made_bad (i := 1) (wrong_dup [("good", 2)] 0 [] ("good", 3) [] (by decide +kernel) (by decide +kernel)) (tellP fun H' q s hq hr => hQ H' q ((h1.trans h2).trans s) (none_back (h1.trans h2) hq) hr))
    have j3 := goN j2 k5
    have row4'' : RowIs "InvalidPairs" (.int (0 : Nat)) P3 s0 := k5 _ _ (k4 _ _ row4' ns0 (fun _ z => nomatch z)) ns0 (fun _ z => nomatch z)
    have ns1 : s1 ≠ D2 := (newS1 D2 _ y1 (fun _ z => nomatch z)).symm
    have row5' : RowIs "InvalidPairs" (.int (1 : Nat)) P3 s1 := k5 _ _ row5 ns1 (fun _ z => nomatch z)
    dsimp only
    refine g_seq <| g_ifs <| g_test <| g_op <| g_var rfl <| g_lst <| g_cons <| g_lst <| g_cons <| g_c <| g_cons <| g_c <| g_cons <| g_c <| g_nil <| nLst (Nat.le_of_ble_eq_true rfl) fun b0 R1 h1 l1 _ => ?_
    refine g_cons <| g_lst <| g_cons <| g_c <| g_cons <| g_c <| g_cons <| g_c <| g_nil <| nLst (Nat.le_of_ble_eq_true rfl) fun b1 R2 h2 l2 _ => ?_
    refine g_cons <| g_lst <| g_cons <| g_c <| g_cons <| g_c <| g_cons <| g_c <| g_nil <| nLst (Nat.le_of_ble_eq_true rfl) fun b2 R3 h3 l3 _ => ?_
    refine g_nil <| nLst (Nat.le_of_ble_eq_true rfl) fun b3 R4 h4 l4 _ => ?_
    have h14 := ((h1.trans h2).trans h3).trans h4
    refine ⟨singD, singD, Dp.lst (SqL.of (h14 _ _ y3)) (.cons (dp_row (h14 _ _ row4'')) (.cons (dp_row (h14 _ _ row5')) (.cons (dp_row (h14 _ _ row6)) .nil))), Dp.lst (SqL.of l4) (.cons (dp_row (h4 _ _ (h3 _ _ (h2 _ _ l1)))) (.cons (dp_row (h4 _ _ (h3 _ _ l2))) (.cons (dp_row (h4 _ _ l3)) .nil))), sing_shape, sing_shape, ?_⟩
    rw [sing_eqv]
    refine g_bl (iteF (g_next ?_))
    dsimp only
    have e4 : LamX.ExtN N1 R4 := extTrans j3 (extOf h14)
    have tR4 := tabs_same tP3 h14
    clear h1 h2 h3 h4 l1 l2 l3 l4 row4 row4' row4'' row5 row5' row6 y1 y2 y3
    -- what is due
    refine g_seq <| g_asg <| g_lst <| g_cons <| g_lst <| g_cons <| g_c <| g_cons <| g_var rfl <| g_cons <| g_c <| g_nil <| nLst (Nat.le_of_ble_eq_true rfl) fun c0 R5 h5 l5 nc0 => ?_
    refine g_cons <| g_lst <| g_cons <| g_c <| g_cons <| g_cb <| g_cons <| g_var rfl <| g_nil <| g_lenLs (h5 _ _ (e4 _ _ hlN (fun _ z => nomatch z))) <| g_cons <| g_c <| g_nil <| nLst (Nat.le_of_ble_eq_true rfl) fun c1 R6 h6 l6 nc1 => ?_
    refine g_cons <| g_lst <| g_cons <| g_c <| g_cons <| g_c <| g_cons <| g_c <| g_nil <| nLst (Nat.le_of_ble_eq_true rfl) fun c2 R7 h7 l7 nc2 => ?_
    refine g_nil <| nLst (Nat.le_of_ble_eq_true rfl) fun Y R8 h8 l8 nY => g_name ?_
    have h58 := ((h5.trans h6).trans h7).trans h8
    have e8 : LamX.ExtN N1 R8 := extTrans e4 (extOf h58)
    have tR8 := tabs_same tR4 h58
    have rb0 : RowIs "InvalidPairs" (.int d) R8 c0 := h8 _ _ (h7 _ _ (h6 _ _ l5))
    have rb1 : RowIs "InvalidPairs" (.int ps.length) R8 c1 := by
      have z := h8 _ _ (h7 _ _ l6)
      rw [lx] at z
      exact z
    have rb2 : RowIs "InvalidPairs" .non R8 c2 := h8 _ _ l7
    have nYD : Y ≠ D := fun z => by
      have w := e4 _ _ v3 (fun _ z => nomatch z)
      rw [← z, none_back ((h5.trans h6).trans h7) nY] at w
      cases w
    dsimp only
    have sR4 : Src p R4 := src_ext sN e4
    have cp0 : c0 ≠ p := fun z => sR4.some (by rw [← z]; exact nc0)
    have cp1 : c1 ≠ p := fun z => (sR4.same h5).some (by rw [← z]; exact nc1)
    have cp2 : c2 ≠ p := fun z => ((sR4.same h5).same h6).some (by rw [← z]; exact nc2)
    have Yp : Y ≠ p := fun z => (((sR4.same h5).same h6).same h7).some (by rw [← z]; exact nY)
    have v8 : R8 D = some (.lst [V.ref r0, V.ref r1, V.ref r2]) := e8 _ _ v3 (fun _ z => nomatch z)
    have hl8 := e8 _ _ hlN (fun _ z => nomatch z)
    have pr8 : Paired (PairAt R8) ts ps := pairedMono (fun _ _ h => pairAt_lt h (LTyp.ext e8)) prN
    have q0 : RowIs "InvalidPairs" (.int d) R8 r0 := e8 _ _ ra0 (fun _ z => nomatch z)
    have q1 : ps ≠ [] → RowIs "InvalidPairs" (.int ps.length) R8 r1 := fun hz => e8 _ _ (ra1 hz) (fun _ z => nomatch z)
    have q2 : RowIs "InvalidPairs" .non R8 r2 := e8 _ _ ra2 (fun _ z => nomatch z)
    have from0 : ∀ b u, H b = some u → b ≠ p → (∀ xs, u ≠ .tbl xs) → R8 b = some u ∧ b ≠ D ∧ b ≠ Y := fun b u hb nb no => by
      have nb' : b ∉ [p] := fun z => nb (List.mem_singleton.mp z)
      have z1 := o6 b u hb nb'
      have z2 := e4 b u (on b u (g3 b u z1 no) nb') no
      refine ⟨h58 _ _ z2, nB b u z1 no, fun z => ?_⟩
      have w := h7 _ _ (h6 _ _ (h5 _ _ z2))
      rw [z, nY] at w
      cases w
    refine g_seq <| g_fixup rfl rfl rfl hl8 pr8 g v8 l8 nYD rfl fun R9 x1 y1 k9 t9 d9 u9 xy => ?_
    have tR9 : LamX.Tabs (TT1 t1 t2) R9 := fun P hP => by
      obtain ⟨qs, g1', g2', g3'⟩ := tR8 P hP
      have nl : ∀ {b : Addr} {u : HO}, R8 b = some u → (∀ ys, u ≠ .lst ys) → R9 b = some u := fun {b u} hb n => k9 b u hb (fun z => by
        rw [z, v8] at hb
        exact n _ (Option.some.inj hb).symm) (fun z => by
        rw [z, l8] at hb
        exact n _ (Option.some.inj hb).symm)
      exact ⟨qs, nl g1' (fun _ z => nomatch z), g2', fun pos cv hc => by
        obtain ⟨c, rfl, z⟩ := g3' pos cv hc
        exact ⟨c, rfl, nl z (fun _ y => nomatch y)⟩⟩
    have s9' : Src p R9 := by
      have s8 := src_ext sN e8
      obtain ⟨A', S', c', hs⟩ := s8
      exact ⟨A', S', c', k9 _ _ hs.at_ (Ne.symm pD) (Ne.symm Yp), hs.a0, hs.s0, hs.s1, hs.c0⟩
    have rw : ∀ {r : Addr} {v : V}, RowIs "InvalidPairs" v R8 r → RowIs "InvalidPairs" v R9 r := fun {r v} h => k9 _ _ h (row_ne h v8) (row_ne h l8)
    have n0 := rw q0
    have n2 := rw q2
    have m0 := rw rb0
    have m2 := rw rb2
    have xy' : (∃ r1 c1, x1 = .ref r1 ∧ y1 = .ref c1 ∧ r1 ≠ p ∧ c1 ≠ p ∧ RowIs "InvalidPairs" (.int ps.length) R9 r1 ∧ RowIs "InvalidPairs" (.int ps.length) R9 c1) ∨ (x1 = .int 0 ∧ y1 = .int 0) := by
      rcases xy with ⟨hz, rfl, rfl⟩ | h
      · exact .inl ⟨r1, c1, rfl, rfl, fun z => rp1 (List.mem_singleton.mpr z), cp1, rw (q1 hz), rw rb1⟩
      · exact .inr h
    clear rw xy q0 q1 q2 rb0 rb1 rb2 ra0 ra1 ra2 row0'' row1' row2 v3 v8 l8 hl8 pr8 prN hlN pr6 hl6 h58 tR8 tR4 l5 l6 l7
    dsimp only
    -- texts that are none
    have ll : (pairsTx rs).length ≤ 450 := by
      have := line_len sm
      omega
    have cl : ∀ z : Str, z.length ≤ 20 → (pairsTx rs).length + z.length ≤ sizeLine := fun z hz => by rw [sizeLine_eq]; omega
    have bt := bent_all gr sm (by omega : rs.length ≤ 50)
    refine g_seq <| g_asg <| g_lst <| g_cons <| g_c <| g_cons <| g_c <| g_cons <| g_tup <| g_cons <| g_var rfl <| g_nil <| nTup (Nat.le_of_ble_eq_true rfl) fun V0 Z1 z1 l1 _ => ?_
    refine g_cons <| g_op <| g_var rfl <| g_c ⟨_, _, rfl, rfl, cl _ (by decide), g_cons <| g_op <| g_var rfl <| g_c ⟨_, _, rfl, rfl, cl _ (by decide), g_cons <| g_op <| g_c <| g_var rfl ⟨_, _, rfl, rfl, by have := cl (" " : Str) (by decide); omega, g_cons <| g_op <| g_var rfl <| g_c ⟨_, _, rfl, rfl, cl _ (by decide), ?_⟩⟩⟩⟩
    refine g_cons <| g_c <| g_cons <| g_c <| g_cons <| g_c <| g_cons <| g_c <| g_cons <| g_c <| g_nil <| nLst (Nat.le_of_ble_eq_true rfl) fun V1 Z2 z2 l2 _ => g_name ?_
    dsimp only
    refine g_seq <| g_asg <| g_op <| g_var rfl <| g_lst <| g_cons <| g_c <| g_cons <| g_c <| g_cons <| g_c <| g_cons <| g_c <| g_cons <| g_c <| g_cons <| g_c <| g_cons <| g_c <| g_cons <| g_c <| g_cons <| g_c <| g_cons <| g_c <| g_nil <| nLst (Nat.le_of_ble_eq_true rfl) fun V1' Z3 z3 l3 _ => ?_
    refine cLst (z3 _ _ l2) l3 (Nat.le_of_ble_eq_true rfl) fun V2 Z4 z4 l4 nV2 => g_name ?_
    dsimp only
    refine g_seq <| g_drop <| g_bm2 <| g_var rfl <| g_tyE l4 <| g_cons <| g_op <| g_var rfl <| g_c ⟨_, _, rfl, rfl, cl _ (by decide), g_nil ⟨V2, _, _, rfl, rfl, l4, (by show 22 < sizeLine; decide), ?_⟩⟩
    dsimp only
    have z14 := ((z1.trans z2).trans z3).trans z4
    have W0 : ∀ v ∈ ([V.non, .int 5, .ref V0, .str (pairsTx rs ++ ","), .str (pairsTx rs ++ ", "), .str (" " ++ pairsTx rs), .str (pairsTx rs ++ " "), .str "0 a", .str "01 a", .str "-1 a", .str "1  a", .str "a 1", .str "1 a, 1 a", .str "1 b, 1 a", .str "1 a,1 b", .str "1 A", .str "1", .str "a", .str " ", .str "+1 a", .str "1 a\n", .str "1.0 a", .str (pairsTx rs ++ ", 1 a, 1 a")] : List V), BadW K Z4 v := by
      have l1' : Z4 V0 = some (.tup [.str (pairsTx rs)]) := z4 _ _ (z3 _ _ (z2 _ _ l1))
      refine allC ⟨.inl rfl, .inl ⟨_, .base .non, kit_ty (by decide +kernel)⟩⟩ <| allC ⟨.inl rfl, .inl ⟨_, .base (.int 5), kit_ty (by decide +kernel)⟩⟩ <| allC ⟨.inr ⟨_, rfl⟩, .inl ⟨_, .base (.tup l1'), kit_ty (by decide +kernel)⟩⟩ <|
        allC (.str (bt _ ?_)) <| allC (.str (bt _ ?_)) <| allC (.str (bt _ ?_)) <| allC (.str (bt _ ?_)) <|
        allC (.tx (by decide +kernel)) <| allC (.tx (by decide +kernel)) <| allC (.tx (by decide +kernel)) <| allC (.tx (by decide +kernel)) <| allC (.tx (by decide +kernel)) <|
        allC (.tx (by decide +kernel)) <| allC (.tx (by decide +kernel)) <| allC (.tx (by decide +kernel)) <| allC (.tx (by decide +kernel)) <| allC (.tx (by decide +kernel)) <| allC (.tx (by decide +kernel)) <| allC (.tx (by decide +kernel)) <| allC (.tx (by decide +kernel)) <| allC (.tx (by decide +kernel)) <| allC (.tx (by decide +kernel)) <|
        allC (.str (bt _ ?_)) all0
      · exact List.mem_cons_self
      · exact List.mem_cons_of_mem _ List.mem_cons_self
      · exact List.mem_cons_of_mem _ (List.mem_cons_of_mem _ List.mem_cons_self)
      · exact List.mem_cons_of_mem _ (List.mem_cons_of_mem _ (List.mem_cons_of_mem _ List.mem_cons_self))
      · exact List.mem_cons_of_mem _ (List.mem_cons_of_mem _ (List.mem_cons_of_mem _ (List.mem_cons_of_mem _ List.mem_cons_self)))
    have s4 : Src p Z4 := s9'.same z14
    have t4 : LamX.Tabs (TT1 t1 t2) Z4 := tabs_same tR9 z14
    have nV9 : ∀ b u, R9 b = some u → b ≠ V2 := fun b u hb z => by
      have w := z3 _ _ (z2 _ _ (z1 _ _ hb))
      rw [z, nV2] at w
      cases w
    have pV : V2 ≠ p := fun z => by
      obtain ⟨sx, sl⟩ := s9'.lst
      exact nV9 p _ sl z.symm
    obtain ⟨Z5, eZ5, Wl, lWl, ltZ, k5, eWl, qWl⟩ : ∃ Z5 : Hp, Z5 = upd Z4 V2 (.lst (([V.non, .int 5, .ref V0, .str (pairsTx rs ++ ","), .str (pairsTx rs ++ ", "), .str (" " ++ pairsTx rs), .str (pairsTx rs ++ " "), .str "0 a", .str "01 a", .str "-1 a", .str "1  a", .str "a 1"] ++ [.str "1 a, 1 a", .str "1 b, 1 a", .str "1 a,1 b", .str "1 A", .str "1", .str "a", .str " ", .str "+1 a", .str "1 a\n", .str "1.0 a"]) ++ [.str (pairsTx rs ++ ", 1 a, 1 a")])) ∧ ∃ Wl : List V, Wl.length = 23 ∧ LTyp Z4 Z5 ∧ (∀ b u, Z4 b = some u → b ≠ V2 → Z5 b = some u) ∧ Z5 V2 = some (.lst Wl) ∧ ∀ v ∈ Wl, BadW K Z5 v := by
      refine ⟨_, rfl, _, ?_, LTyp.upd l4, fun b u hb nb => by rw [upd_ne nb]; exact hb, upd_same, fun v hv => (W0 v hv).lt (LTyp.upd l4)⟩
      rfl
    rw [← eZ5]
    clear eZ5 W0 l1 l2 l3
    have k95 : ∀ b u, R9 b = some u → Z5 b = some u := fun b u hb => k5 b u (z14 b u hb) (nV9 b u hb)
    have s5 : Src p Z5 := by
      obtain ⟨A', S', c', hs⟩ := s4
      exact ⟨A', S', c', k5 _ _ hs.at_ (Ne.symm pV), hs.a0, hs.s0, hs.s1, hs.c0⟩
    have t5 : LamX.Tabs (TT1 t1 t2) Z5 := fun P hP => by
      obtain ⟨qs, g1', g2', g3'⟩ := t4 P hP
      have nl : ∀ {b : Addr} {u : HO}, Z4 b = some u → (∀ ys, u ≠ .lst ys) → Z5 b = some u := fun {b u} hb n => k5 b u hb fun z => by
        rw [z, l4] at hb
        exact n _ (Option.some.inj hb).symm
      exact ⟨qs, nl g1' (fun _ z => nomatch z), g2', fun pos cv hc => by
        obtain ⟨c, rfl, z⟩ := g3' pos cv hc
        exact ⟨c, rfl, nl z (fun _ y => nomatch y)⟩⟩
    refine g_seq <| g_asg <| g_op <| g_var rfl <| g_tcall <| g_cons <| g_var rfl <| g_cons <| g_cb <| g_cons <| g_var rfl <| g_nil <| g_lenLs eWl <| g_nil ?_
    rw [lWl]
    refine pull_of s5 (by decide) (by decide) fun i3 Z6 hi3 o7 s6 => ?_
    obtain ⟨v, ev⟩ : ∃ v, Wl[i3]? = some v := ⟨Wl[i3]'(by omega), List.getElem?_eq_getElem (by omega)⟩
    have nVp : V2 ∉ [p] := fun z => pV (List.mem_singleton.mp z)
    have bw : BadW K Z6 v := (qWl v (List.mem_of_getElem? ev)).lt (LTyp.off o7 s5 s6)
    refine ix_at (SqL.of (o7 _ _ eWl nVp)) ev <| g_name ?_
    dsimp only
    have k96 : ∀ b u, R9 b = some u → b ≠ p → Z6 b = some u := fun b u hb nb => o7 b u (k95 b u hb) fun z => nb (List.mem_singleton.mp z)
    have t6 := slot s5 o7 t5
    refine g_seq <| g_drop <| g_tellW (W := RowIs "InvalidText" v) rfl t6 (k96 _ _ d9 pD) (by show 3 ≤ 100; decide) (fun G q u h n => rowIs_upd G q u h n) (fun G Q1 fo eG hQ => ?_) fun Z7 r3 k7 t7 u7 new3 row7 => ?_
    · obtain ⟨_, ⟨t, ty, kt⟩ | ⟨z, rfl, bz, oz⟩⟩ := bw
      · exact ⟨rfl, g_cons <| g_var rfl <| g_nil ⟨_, rfl, .inl ⟨t, ty_ext ty eG, kt, tellT fun H' q s hq hr => hQ H' q s hq hr⟩⟩⟩
      · exact ⟨rfl, g_cons <| g_var rfl <| g_nil ⟨_, rfl, .inr ⟨z, rfl, oz, .inl ⟨bz, tellT fun H' q s hq hr => hQ H' q s hq hr⟩⟩⟩⟩
    dsimp only
    have k97 : ∀ b xs, R9 b = some (.lst xs) → b ≠ p → b ≠ D → Z7 b = some (.lst xs) := fun b xs hb nb nd => k7 b _ (k96 b _ hb nb) nd (fun _ z => nomatch z)
    have uY := k97 _ _ u9 Yp nYD
    refine g_ret <| g_op <| g_var rfl <| g_op <| g_var rfl <| g_lst <| g_cons <| g_lst <| g_cons <| g_c <| g_cons <| g_var rfl <| g_cons <| g_c <| g_nil <| nLst (Nat.le_of_ble_eq_true rfl) fun c3 Y1 f1 m1' _ => ?_
    refine g_nil <| nLst (Nat.le_of_ble_eq_true rfl) fun F2 Y2 f2 m2' _ => ?_
    refine cLst (f2 _ _ (f1 _ _ uY)) m2' (Nat.le_of_ble_eq_true rfl) fun F3 Y3 f3 m3' _ => ?_
    have f13 := (f1.trans f2).trans f3
    have fin : ∀ {nm : Str} {w : V} {r : Addr}, RowIs nm w R9 r → r ≠ p → r ≠ D → RowIs nm w Y3 r := fun {nm w r} h a b => f13 _ _ (k97 _ _ h a b)
    have rp : ∀ {r : Addr}, r ∉ [p] → r ≠ p := fun {r} h z => h (List.mem_singleton.mpr z)
    refine ⟨2, by decide, .inl ⟨D, F3, _, _, rfl, rfl, SqL.of (f13 _ _ u7), SqL.of m3', ?_⟩, ?_⟩
    · refine .cons (row_eqI (fin n0 (rp rp0) (row_ne n0 d9)) (fin m0 cp0 (row_ne m0 d9)) (.inl rfl)) (.cons ?_ (.cons (row_eqI (fin n2 (rp rp2) (row_ne n2 d9)) (fin m2 cp2 (row_ne m2 d9)) (.inl rfl)) (.cons (row_eqI (f13 _ _ row7) (f3 _ _ (f2 _ _ m1')) bw.1) .nil)))
      rcases xy' with ⟨ra, ca, rfl, rfl, np1, np2, h1, h2⟩ | ⟨rfl, rfl⟩
      · exact row_eqI (fin h1 np1 (row_ne h1 d9)) (fin h2 np2 (row_ne h2 d9)) (.inl rfl)
      · exact VOk.eqv (.inl rfl)
    · refine k Y3 (fun b u hb nb no => ?_) (src_ext ?_ (extOf f13)) (tabs_same t7 f13)
      · obtain ⟨a8, bD, bY⟩ := from0 b u hb nb no
        exact f13 _ _ (k7 b u (k96 b u (k9 b u a8 bD bY) nb) bD no)
      · obtain ⟨A', S', c', hs⟩ := s6
        exact ⟨A', S', c', k7 _ _ hs.at_ (Ne.symm pD) (fun _ z => nomatch z), hs.a0, hs.s0, hs.s1, hs.c0⟩
end
end My
set_option Elab.async false
set_option maxRecDepth 100000
set_option maxHeartbeats 8000000
namespace My
open PySem PySem.Spec PyProof.Rows L2
local macro_rules | `(tactic| walk_at "cond") => `(tactic| first
  | exact Or.inr ⟨by decide, by decide⟩ | exact Or.inl ⟨by decide, by decide⟩ | exact ⟨by decide, by decide, by decide⟩ | exact ⟨by decide, by decide⟩
  | (refine Or.inl ⟨?_, ?_⟩ <;> omega) | (refine Or.inr ⟨?_, ?_⟩ <;> omega)
  | (show (0 : Int) < _; omega))
local macro_rules | `(tactic| walk_at "mem") => `(tactic| first | exact List.Mem.head _ | exact List.Mem.tail _ (List.Mem.head _) | exact Put.head | (refine List.Mem.tail _ ?_; walk_at "mem") | (apply Put.tail; walk_at "mem"))
local macro_rules | `(tactic| walk_at "st") => `(tactic| first
  | with_reducible refine g_seq ?_ | with_reducible refine g_asg ?_ | with_reducible refine g_name ?_ | ((with_reducible show tVar _ _ _ _); refine g_var rfl ?_) | with_reducible refine g_c ?_
  | with_reducible refine g_op ?_ | with_reducible refine g_test ?_ | with_reducible refine g_bl ?_
  | with_reducible refine g_cb ?_ | with_reducible refine g_cons ?_ | with_reducible refine g_nil ?_ | with_reducible refine g_tif ?_ | with_reducible refine g_ifs ?_ | with_reducible refine g_ret ?_
  | with_reducible refine g_drop ?_ | with_reducible refine g_next ?_
  | with_reducible refine g_i0 ?_ | ((with_reducible show rI _ _ _ _ _ _); refine g_i (by walk_at "cond") ?_) | with_reducible refine g_int ?_ | with_reducible refine g_abs ?_ | with_reducible refine g_or ?_
  | with_reducible refine g_and ?_ | with_reducible refine g_not ?_ | with_reducible refine g_lst ?_ | with_reducible refine g_tup ?_
  | with_reducible refine iteT ?_ | with_reducible refine iteF ?_ | with_reducible refine g_par ?_ | with_reducible refine g_two ?_ | with_reducible refine g_sub ?_
  | ((with_reducible show rIxL _ (V.ref _) (V.int _) _ _); refine g_ixM (by assumption) (by walk_at "mem") rfl rfl ?_)
  | ((with_reducible show rSetL (V.ref _) (V.int _) _ _ _); refine g_setM (by assumption) rfl (by walk_at "mem") fun _ _ => ?_)
  | with_reducible refine g_xmk ?_ | with_reducible refine g_xmkK ?_
  | ((with_reducible show XNew _ (spI1 _ _) _ _ _); refine g_x1 (by assumption) fun _ _ _ _ => ?_)
  | ((with_reducible show XNewK _ _ (spI1 _ _) _ _ _ _); refine g_x1k (by assumption) fun _ _ _ _ => ?_)
  | ((with_reducible show XNew _ (spI3 _ _ _ _) _ _ _); refine g_x3 (by assumption) fun _ _ _ _ => ?_)
  | ((with_reducible show tXmk0 _ _ _ _); refine g_xmk0 (by assumption) fun _ _ _ => ?_)
  | ((with_reducible show NewO _ _ _ _); refine g_newo (by assumption) (by first | decide | simp) fun _ _ _ _ => ?_)
  | ((with_reducible show rCat (V.ref _) (V.ref _) _ _); refine g_cat (by assumption) (by walk_at "mem") (by walk_at "mem") (by first | decide | simp) fun _ _ _ _ => ?_))
local macro_rules | `(tactic| walk_at "st") => `(tactic| first | with_reducible refine g_tcall ?_ | with_reducible refine g_tb ?_ | with_reducible refine g_andV ?_ | with_reducible refine g_notV ?_ | with_reducible refine g_chain ?_ | with_reducible refine g_un ?_ | with_reducible refine g_rU ?_)
/-! ### for _law_right -/
theorem cut_init {xs : List V} {x : V} : cutV (xs ++ [x]) none (some (-1)) = xs := by
  unfold cutV
  rw [show HT.sIx (xs ++ [x]).length 0 none = 0 from rfl, show HT.sIx (xs ++ [x]).length (xs ++ [x]).length (some (-1)) = xs.length from by
    show (if (-1 : Int) < 0 then ((-1 : Int) + ((xs ++ [x]).length : Int)).toNat else min (-1 : Int).toNat (xs ++ [x]).length) = xs.length
    rw [if_pos (by decide), List.length_append, List.length_singleton]
    omega, List.drop_zero, Nat.sub_zero, List.take_left]
theorem cut_upto {xs : List V} {n : Nat} : cutV xs none (some (n : Int)) = xs.take n := by
  by_cases h : n ≤ xs.length
  · exact cut_to h
  · unfold cutV
    rw [show HT.sIx xs.length 0 none = 0 from rfl, show HT.sIx xs.length xs.length (some (n : Int)) = xs.length from by
      show (if ((n : Nat) : Int) < 0 then (((n : Nat) : Int) + (xs.length : Int)).toNat else min ((n : Nat) : Int).toNat xs.length) = xs.length
      rw [if_neg (by omega), Int.toNat_natCast]
      exact Nat.min_eq_right (by omega), List.drop_zero, Nat.sub_zero, List.take_length, List.take_of_length_le (by omega)]
theorem cut_tail {xs : List V} (h : 1 ≤ xs.length) : cutV xs (some 1) none = xs.drop 1 := cut_from (n := 1) h
theorem at_last {xs : List V} {x : V} : atI (xs ++ [x]) (-1) = some x := by
  unfold atI ixN
  rw [if_neg (by decide), List.length_append, List.length_singleton, if_pos (by omega)]
  show (xs ++ [x])[((-1 : Int) + ((xs.length + 1 : Nat) : Int)).toNat]? = some x
  rw [show ((-1 : Int) + ((xs.length + 1 : Nat) : Int)).toNat = xs.length by omega, List.getElem?_append_right (Nat.le_refl _), Nat.sub_self]
  rfl
theorem pairedRev {α β : Type} {R : α → β → Prop} : ∀ {xs : List α} {ys : List β}, Paired R xs ys → Paired R xs.reverse ys.reverse
  | _, _, .nil => .nil
  | _, _, .cons a b => by
    rw [List.reverse_cons, List.reverse_cons]
    exact pairedApp (pairedRev b) (.cons a .nil)
theorem GoodP.sub {ps qs : List (Str × Int)} (g : GoodP ps) (s : qs.Sublist ps) : GoodP qs := ⟨fun p hp => g.name p (s.subset hp), fun p hp => g.count p (s.subset hp), List.Nodup.sublist (s.map _) g.nd⟩
section
variable {K : PySem.W.Frag} {H : Hp} {Q : VK}
theorem g_revL {σ : L2.St} {te : TE} (h : te σ H fun x H1 => ∃ a xs, x = .ref a ∧ SqL K H1 a xs ∧ ∀ p, H1 p = none → Q (.ref p) (upd H1 p (.lst xs.reverse))) : tRevL K te σ H Q := h
theorem rvL {l : Addr} {ts : List V} (f : H l = some (.lst ts)) (h : ∀ b H', Same H H' → H' b = some (.lst ts.reverse) → H b = none → Q (.ref b) H') : ∃ a xs, V.ref l = .ref a ∧ SqL K H a xs ∧ ∀ p, H p = none → Q (.ref p) (upd H p (.lst xs.reverse)) :=
  ⟨l, ts, rfl, SqL.of f, fun b hb => h b _ (sameNew hb) upd_same hb⟩
/-- a comprehension over a list that stands already, of values that do not depend on the heap -/
theorem lvOn {σ : L2.St} {Q : Addr → Hp → Prop} {te : TE} (i : Nat) {D : Addr} {L : List V} (d : H D = some (.lst L)) (few : L.length ≤ 1000) (hi : i < σ.length)
    (step : ∀ (v : V) (H2 : Hp) (Q2 : VK), v ∈ L → Same H H2 → (∀ H3, Same H2 H3 → Q2 (.bl false) H3) → te ((wipe σ [i]).set i (some v)) H2 Q2)
    (q : ∀ H2 N, Same H H2 → H2 N = some (.lst ((List.replicate L.length false).map V.bl)) → Q N H2) :
    ∃ a, V.ref D = .ref a ∧ (∃ xs, SqL K H a xs) ∧ ∀ D', H D' = none → ∃ W : Nat → Nat → Hp → Prop, (∃ m, W 0 m (upd H D' (.lst []))) ∧ ∀ j m H, W j m H →
      ((Itl K a).stop j H ∧ Q D' H) ∨ ((Itl K a).go j H ∧ ∃ Nx : Hp → Prop, (∀ H', Nx H' → ∃ m', m' < m ∧ W (j + 1) m' H') ∧ ∀ x H', (Itl K a).yld j H x H' → gName i x (wipe σ [i]) H' fun σ2 H2 => wipe σ2 [i] = wipe σ [i] ∧ tYes σ2 H2 fun b H3 =>
        if b = true then te σ2 H3 fun y H4 => ∃ acc, H4 D' = some (.lst acc) ∧ acc.length < sizeLine ∧ Nx (upd H4 D' (.lst (acc ++ [y]))) else Nx H3) := by
  refine ⟨D, rfl, ⟨_, SqL.of d⟩, fun N hN => lcS walk_list (REq V.bl) (req_mono _) (fun j l => l = List.replicate j false) rfl hN (by omega) (fun H1 s1 => SqL.of (s1 _ _ d)) ?_ ?_⟩
  · rintro j x H1 H1' l hj s1 rfl ⟨rfl, hx⟩ KT KF kt kf
    refine g_name ⟨wipe1 _ i _, ?_⟩
    unfold tYes
    refine iteT ?_
    exact step x _ _ (List.mem_of_getElem? hx) s1 fun H3 s3 => kt _ H3 false s3 (by rw [List.replicate_succ']) rfl
  · rintro H1 acc l s1 d1 pr rfl
    have e := req_eq pr
    subst e
    exact q H1 N s1 d1
theorem any_false {n : Nat} : (List.replicate n false).any id = false := by
  induction n with
  | zero => rfl
  | succ n ih => rw [List.replicate_succ, List.any_cons, ih]; rfl
theorem g_anyF {N : Addr} {n : Nat} (d : H N = some (.lst ((List.replicate n false).map V.bl))) (q : Q (.bl false) H) : rAny K [.ref N] H Q := ⟨N, _, rfl, SqL.of d, by rw [any_false]; exact q⟩
theorem g_neR0 {b T : Addr} {ts : List V} {ps : List (Str × Int)} (h : H b = some (.lst ts)) (pr : Paired (PairAt H) ts ps) (g : GoodP ps) (e : H T = some (.lst [])) (q : Q (.bl (!decide (ps = []))) H) : rNeD K (.ref b) (.ref T) H Q := by
  refine ⟨_, _, Dp.lst (SqL.of h) (dp_prs pr), Dp.lst (SqL.of e) DpAll.nil, pds_shape g, shapedL_s (xs := []) (fun _ z => nomatch z), ?_⟩
  have z : PyData.eqv (.list (ps.map pd)) (.list []) = decide (ps = []) := by cases ps <;> simp [PyData.eqv, PyData.eqvAll]
  rw [z]
  exact q
theorem nm_str {s : Str} (hl : s.length ≤ sizeLine) (h : nameB s = false) : NameK K H (.str s) none := by
  have z := NameK.str (K := K) (H := H) hl
  rw [if_neg (by rw [h]; decide)] at z
  exact z
def tyL1 : List String := ["NoneType", "int", "str", "tuple", "list", "dict"]
def OddT (K : PySem.W.Frag) (H : Hp) (v : V) : Prop := ∃ T, T ∈ tyL1 ∧ TyX K H v (.type T)
theorem OddT.lt {H' : Hp} {v : V} (h : OddT K H v) (e : LTyp H H') : OddT K H' v := let ⟨T, m, t⟩ := h; ⟨T, m, ty_lt t e⟩
theorem g_eqOdd {C a : Addr} {E : XK} {rs : List (Str × Int)} {v : V} (no : ∀ T ∈ tyL1, PySem.W.kitOne K (.type T) (.ref C) = some false) (nf : ∀ T ∈ tyL1, PySem.W.notFirst K C (.type T) = true) (la : LoadAt C H a rs) (g : GoodP rs) (od : OddT K H v) (q : ∀ H', Same H H' → Q (.bl false) H') : rOwnC K C (spEqL K C) E (.ref a) v H Q := by
  obtain ⟨T, m, t⟩ := od
  obtain ⟨dx, t0, d, ts, e1, r⟩ := id la
  exact ⟨a, dx, _, .type T, rfl, e1, .inr t, nf T m, a, rs, v, none, rfl, la, g.name, .no t (no T m), trivial, q⟩
theorem g_inOdd {C a : Addr} {E : XK} {rs : List (Str × Int)} {v : V} (la : LoadAt C H a rs) (nk : NameK K H v none) (q : ∀ H', Same H H' → Q (.bl false) H') : rInO C (spInL K C) E v (.ref a) H Q := by
  obtain ⟨dx, t0, d, ts, e1, r⟩ := id la
  exact ⟨a, dx, _, rfl, e1, a, rs, v, none, rfl, la, nk, fun H' s => ⟨false, rfl, q H' s⟩⟩
/-- a value that is no name, as data -/
def ValOk (K : PySem.W.Frag) (H : Hp) (v : V) : Prop := NameK K H v none ∧ ∃ D, (∀ G, LamX.ExtN H G → Dp K G v D) ∧ SeqAt.shaped (.list [.str "InvalidName", D, .bool true]) = true ∧ PyData.eqv (.list [.str "InvalidName", D, .bool true]) (.list [.str "InvalidName", D, .bool true]) = true
theorem val_str {s : Str} (hl : s.length ≤ sizeLine) (h : nameB s = false) (h2 : SeqAt.shaped (.list [.str "InvalidName", .str s, .bool true]) = true) (h3 : PyData.eqv (.list [.str "InvalidName", .str s, .bool true]) (.list [.str "InvalidName", .str s, .bool true]) = true) : ValOk K H (.str s) :=
  ⟨nm_str hl h, .str s, fun _ _ => .str _, h2, h3⟩
/-- rows that are none, or a load of one row less: not equal -/
theorem g_rest {C a l : Addr} {σ : L2.St} {R : Bool → Hp → Prop} {ts : List V} {ps rs : List (Str × Int)} (h2 : σ[2]? = some (some (.ref l))) (h7 : σ[7]? = some (some (.ref a))) (hl : H l = some (.lst ts)) (pr : Paired (PairAt H) ts ps) (g : GoodP ps) (few : ps.length ≤ 6) (la : LoadAt C H a rs) (cr : Can rs) (lr : rs.length = ps.length)
    (q : ∀ H', Same H H' → R false H') : tAnd (tTest (tOp (rNeD K) (tVar 2) (tLst tNil))) (tTest (tOp (rOwnC K C (spEqL K C) E0) (tVar 7) (tCall (spLoadR C) [] E0 (tCons (tSl (rSlL K) (tVar 2) (tPart (tC (.int 1))) tNoPart) tNil)))) σ H R := by
  refine g_and <| g_test <| g_op <| g_var h2 <| g_lst <| g_nil <| nLst (Nat.le_of_ble_eq_true rfl) fun T G1 e1 l1 _ => ?_
  have pr1 : Paired (PairAt G1) ts ps := pairedMono (fun _ _ h => PairAt.same h e1) pr
  have lx : ts.length = ps.length := pr.length
  refine g_neR0 (e1 _ _ hl) pr1 g l1 (g_bl ?_)
  by_cases c : ps = []
  · rw [decide_eq_true c]
    exact iteF (q _ e1)
  · rw [decide_eq_false c]
    have pos : 1 ≤ ps.length := List.length_pos_iff.mpr c
    refine iteT <| g_test <| g_op <| g_var h7 <| g_tcall <| g_cons <| g_slL <| g_var h2 <| g_part <| g_c ⟨_, rfl, g_nop <| sLst (e1 _ _ hl) fun b G2 e2 l2 _ => ?_⟩
    rw [cut_tail (by omega)] at l2
    refine g_nil ⟨b, _, _, rfl, l2, pairedDrop 1 (pairedMono (fun _ _ h => PairAt.same h e2) pr1), g.sub (List.drop_sublist 1 ps), by rw [List.length_drop]; omega, fun G3 a3 rs3 e3 od3 la3 => ?_⟩
    have c3 : Can rs3 := can_of (g.sub (List.drop_sublist 1 ps)) od3
    have la' := la.same ((e1.trans e2).trans e3)
    refine cmp2_at (⟨rs, la', cr, fun _ => rfl⟩ : LdF C G3 a (countOf rs)) (⟨rs3, la3, c3, fun _ => rfl⟩ : LdF C G3 a3 (countOf rs3)) ?_
    refine ⟨a, rs, .ref a3, some rs3, rfl, la', cr.good.name, .load la3, c3.good.name, fun H' s => ?_⟩
    have z : eqL rs (some rs3) = false := by
      have l3 : rs3.length = ps.length - 1 := by rw [od3.perm.length_eq, List.length_drop]
      refine decide_eq_false fun y => ?_
      rw [y] at lr
      omega
    rw [z]
    exact g_bl (q _ (((e1.trans e2).trans e3).trans s))
theorem loadAt_lt {C a : Addr} {H' : Hp} {ps : List (Str × Int)} (h : LoadAt C H a ps) (e : LTyp H H') : LoadAt C H' a ps := by
  obtain ⟨dx, t, d, ts, e1, ⟨o, z, n⟩, pr, e3⟩ := h
  exact ⟨dx, t, d, ts, e.at e1 (fun _ y => nomatch y) (fun _ y => nomatch y), ⟨o, e.at z (fun _ y => nomatch y) (fun _ y => nomatch y), n⟩, pairedMono (fun _ _ h => pairAt_lt h e) pr, e.at e3 (fun _ y => nomatch y) (fun _ y => nomatch y)⟩
end
end My
set_option Elab.async false
set_option maxRecDepth 100000
set_option maxHeartbeats 8000000
namespace My
open PySem PySem.Spec PyProof.Rows L2
local macro_rules | `(tactic| walk_at "cond") => `(tactic| first
  | exact Or.inr ⟨by decide, by decide⟩ | exact Or.inl ⟨by decide, by decide⟩ | exact ⟨by decide, by decide, by decide⟩ | exact ⟨by decide, by decide⟩
  | (refine Or.inl ⟨?_, ?_⟩ <;> omega) | (refine Or.inr ⟨?_, ?_⟩ <;> omega)
  | (show (0 : Int) < _; omega))
local macro_rules | `(tactic| walk_at "mem") => `(tactic| first | exact List.Mem.head _ | exact List.Mem.tail _ (List.Mem.head _) | exact Put.head | (refine List.Mem.tail _ ?_; walk_at "mem") | (apply Put.tail; walk_at "mem"))
local macro_rules | `(tactic| walk_at "st") => `(tactic| first
  | with_reducible refine g_seq ?_ | with_reducible refine g_asg ?_ | with_reducible refine g_name ?_ | ((with_reducible show tVar _ _ _ _); refine g_var rfl ?_) | with_reducible refine g_c ?_
  | with_reducible refine g_op ?_ | with_reducible refine g_test ?_ | with_reducible refine g_bl ?_
  | with_reducible refine g_cb ?_ | with_reducible refine g_cons ?_ | with_reducible refine g_nil ?_ | with_reducible refine g_tif ?_ | with_reducible refine g_ifs ?_ | with_reducible refine g_ret ?_
  | with_reducible refine g_drop ?_ | with_reducible refine g_next ?_
  | with_reducible refine g_i0 ?_ | ((with_reducible show rI _ _ _ _ _ _); refine g_i (by walk_at "cond") ?_) | with_reducible refine g_int ?_ | with_reducible refine g_abs ?_ | with_reducible refine g_or ?_
  | with_reducible refine g_and ?_ | with_reducible refine g_not ?_ | with_reducible refine g_lst ?_ | with_reducible refine g_tup ?_
  | with_reducible refine iteT ?_ | with_reducible refine iteF ?_ | with_reducible refine g_par ?_ | with_reducible refine g_two ?_ | with_reducible refine g_sub ?_
  | ((with_reducible show rIxL _ (V.ref _) (V.int _) _ _); refine g_ixM (by assumption) (by walk_at "mem") rfl rfl ?_)
  | ((with_reducible show rSetL (V.ref _) (V.int _) _ _ _); refine g_setM (by assumption) rfl (by walk_at "mem") fun _ _ => ?_)
  | with_reducible refine g_xmk ?_ | with_reducible refine g_xmkK ?_
  | ((with_reducible show XNew _ (spI1 _ _) _ _ _); refine g_x1 (by assumption) fun _ _ _ _ => ?_)
  | ((with_reducible show XNewK _ _ (spI1 _ _) _ _ _ _); refine g_x1k (by assumption) fun _ _ _ _ => ?_)
  | ((with_reducible show XNew _ (spI3 _ _ _ _) _ _ _); refine g_x3 (by assumption) fun _ _ _ _ => ?_)
  | ((with_reducible show tXmk0 _ _ _ _); refine g_xmk0 (by assumption) fun _ _ _ => ?_)
  | ((with_reducible show NewO _ _ _ _); refine g_newo (by assumption) (by first | decide | simp) fun _ _ _ _ => ?_)
  | ((with_reducible show rCat (V.ref _) (V.ref _) _ _); refine g_cat (by assumption) (by walk_at "mem") (by walk_at "mem") (by first | decide | simp) fun _ _ _ _ => ?_))
local macro_rules | `(tactic| walk_at "st") => `(tactic| first | with_reducible refine g_tcall ?_ | with_reducible refine g_tb ?_ | with_reducible refine g_andV ?_ | with_reducible refine g_notV ?_ | with_reducible refine g_chain ?_ | with_reducible refine g_un ?_ | with_reducible refine g_rU ?_)
def spRightT (T : List (Addr × Str)) : Sp := fun vs H Q _ => ∃ (p : Addr), vs = [.ref p] ∧ Src p H ∧ LamX.Tabs T H ∧
  ∀ H', (∀ b o, H b = some o → b ≠ p → (∀ xs, o ≠ .tbl xs) → H' b = some o) → LamX.Tabs T H' → Q (.bl true) H'
theorem extUpdT {H H1 : Hp} {D : Addr} {o : HO} (e : LamX.ExtN H H1) (hD : H D = none) : LamX.ExtN H (upd H1 D o) := fun b u hb no => by
  rw [upd_ne (ne_of_none hb hD)]
  exact e b u hb no
/-- a turn of the law after another, each True; what is no table stays -/
theorem g_lrTT {te : TE} {i : Nat} {σ : L2.St} {Q : VK} {H : Hp} {n : Nat} {T : List (Addr × Str)} (v : V) (hn : n ≤ 100000) (tb : LamX.Tabs T H)
    (he : ∀ (j : Nat) (H1 : Hp), j < n → LamX.ExtN H H1 → LamX.Tabs T H1 → ∀ R : VK, (∀ H2, LamX.ExtN H1 H2 → LamX.Tabs T H2 → R v H2) → te ((wipe σ [i]).set i (some (.int j))) H1 R)
    (k : ∀ D H1, H1 D = some (.lst (List.replicate n v)) → Q (.ref D) H1) : LrAt te i σ Q [.int n] H := by
  refine ⟨(n : Int), rfl, by omega, by omega, fun D hD => ?_⟩
  have e : ((n : Int)).toNat = n := by omega
  rw [e]
  refine lc_range (fun j H1 => LamX.ExtN H H1 ∧ LamX.Tabs T H1 ∧ H1 D = some (.lst (List.replicate j v))) ⟨extOf (sameNew hD), tabs_same tb (sameNew hD), upd_same⟩ (fun j H1 hj q => ?_) (fun H1 q => k D H1 q.2.2)
  obtain ⟨s1, t1, d1⟩ := q
  refine ⟨wipe1 σ i _, ?_⟩
  unfold tYes
  rw [show (0 : Int) + ((j : Nat) : Int) = ((j : Nat) : Int) by omega]
  refine iteT (he j H1 hj s1 t1 _ fun H2 s2 t2 => ?_)
  have d2 := s2 _ _ d1 (fun _ z => nomatch z)
  refine ⟨_, d2, ?_, extUpdT (extTrans s1 s2) hD, ?_, ?_⟩
  · rw [List.length_replicate]
    exact Nat.lt_of_le_of_lt (Nat.le_trans (Nat.le_of_lt hj) hn) (by decide)
  · exact tabs_off t2 d2 (fun b o hb nb => by rw [upd_ne (fun z => nb (List.mem_singleton.mpr z))]; exact hb)
  · rw [upd_same, List.replicate_succ']
theorem scLawTT : FnScope ["_law_cells", "_law_turn"] ["_law_cells"] (defScope sLaw) := ⟨rfl, rfl, rfl, by decide +kernel, rfl, by decide +kernel, by decide +kernel⟩
def spLawTT (K : PySem.W.Frag) (T : List (Addr × Str)) : Sp := fun vs H Q _ => ∃ (a : Addr) (ns : List Int), vs = [.ref a] ∧ SqL K H a (ns.map V.int) ∧ ns.length ≤ 63 ∧ LamX.Tabs T H ∧ ∀ H', Q (.bl true) H'
structure LawKT (P : Program) (w : World) (K : PySem.W.Frag) (mg : Str → Option Value) (base : Heap) (T : List (Addr × Str)) where
  source : Cal P w K mg base 1 "_law_source" ["_law_cells", "_law_turn"] (spSource K)
  f_right : Addr
  d_right : FuncData
  right : FnG P w K mg base CX0 50 f_right d_right ["_law_source_here"] (spRightT T)
  m_right : mg "_law_right" = some (.ref f_right)
  k_right : PySem.W.keepIn K (.ref f_right) = true
  b_right : Binds K d_right ["_law_source_here"] []
  len_ : mg "len" = none
  all_ : mg "all" = none
  max_ : mg "max" = none
  min_ : mg "min" = none
  range_ : mg "range" = none
theorem seqL_extT {K : PySem.W.Frag} {H H' : Hp} {a : Addr} {xs : List V} (h : SqL K H a xs) (e : LamX.ExtN H H') : SqL K H' a xs := by
  rcases h with (h | ⟨o, h⟩) | h
  · exact .inl (.inl (e _ _ h (fun _ z => nomatch z)))
  · exact .inl (.inr ⟨o, e _ _ h (fun _ z => nomatch z)⟩)
  · exact .inr h
theorem ok_lawTT {P : Program} {w : World} {K : PySem.W.Frag} {mg : Str → Option Value} {base : Heap} {f : Addr} {T : List (Addr × Str)} {fd : FuncData} (F : Fun K "law" "law" sLaw f fd) (R : LawKT P w K mg base T) : FnG P w K mg base CX0 51 f fd ["_law_cells"] (spLawTT K T) := by
  refine okG F scLawTT (fun vs H Q E h => ?_) (fun cdv A outer s H vs Q E hr gd h => ?_)
  · obtain ⟨a, ns, rfl, _⟩ := h
    rfl
  · obtain ⟨a, ns, rfl, hS, hlen, tb, k⟩ := h
    have hr1 := hr.mono (by decide : 1 ≤ 50)
    refine ⟨_, pss_one (ps_ret (pe_callB (cr_all rfl) (by rfl) R.all_ PyProof.Rows.boot_all (pa_cons (pe_lc (te := tCall (spRightT T) [] E0 (tCons (tCall (spSource K) [] E0 (tCons (tVar 0) (tCons (tVar 1) tNil))) tNil)) (own := [("_law_turn", 1)]) (g := gName 1) rfl scLawTT.nd
      (pi_range1 rfl R.range_ (pa_cons (pe_callB (r := rMax2) (call_max2 rfl) (by rfl) R.max_ PyProof.Rows.boot_max (pa_cons pe_int (pa_cons (pe_callB (r := rMin2) (call_min2 rfl) (by rfl) R.min_ PyProof.Rows.boot_min (pa_cons (pLen R.len_ (pv 0)) (pa_cons pe_int pa_nil))) pa_nil))) pa_nil))
      (blkOk_by (own := [("_law_turn", 1)]) (N := ["_law_cells", "_law_turn"]) (sc := defScope sLaw) (by decide +kernel)) (fun _ _ _ _ _ => pg_name (i := 1) scLawTT.nd rfl (Or.inl rfl)) (fun _ _ _ _ _ => pts_nil)
      (fun _ _ _ _ _ => pe_callG R.right hr gd rfl R.m_right R.k_right R.b_right pass0 (pa_cons (pCal R.source hr1 (pa_cons (pv 0) (pa_cons (pv 1) pa_nil))) pa_nil))) pa_nil))), ?_⟩
    refine g_ret (g_cb (g_cons (g_lr ?_)))
    refine g_cons (g_cb (g_cons (g_c (g_cons (g_cb (g_cons (g_cb (g_cons (g_var rfl (g_nil ?_))))))))))
    refine g_len (.inl hS) (g_cons (g_c (g_nil ?_)))
    rw [List.length_map]
    refine ⟨_, _, rfl, g_nil ⟨_, _, rfl, g_nil ?_⟩⟩
    obtain ⟨n, hn, n5⟩ : ∃ n : Nat, (if (if (5 : Int) < (ns.length : Int) then (5 : Int) else (ns.length : Int)) > 2 then (if (5 : Int) < (ns.length : Int) then (5 : Int) else (ns.length : Int)) else 2) = (n : Int) ∧ n ≤ 5 := by
      refine ⟨(if (if (5 : Int) < (ns.length : Int) then (5 : Int) else (ns.length : Int)) > 2 then (if (5 : Int) < (ns.length : Int) then (5 : Int) else (ns.length : Int)) else 2).toNat, ?_, ?_⟩
      · split <;> split <;> omega
      · split <;> split <;> omega
    rw [hn]
    refine g_lrTT (T := T) (.bl true) (by omega) tb (fun j H1 hj e t1 Rr kk => ?_) fun D H1 d => g_nil (g_allR d (k _))
    refine g_tcall (g_cons (g_tcall (g_cons (g_var rfl (g_cons (g_var rfl (g_nil ?_)))))))
    refine ⟨a, ns, (j : Int), rfl, seqL_extT hS e, hlen, by omega, by omega, fun p H2 A S np sm src => g_nil ⟨p, rfl, ⟨A, S, _, src⟩, tabs_same t1 sm, fun H3 c t3 => kk H3 (fun b o hb no => c b o (sm b o hb) (fun q => ?_) no) t3⟩⟩
    rw [q, np] at hb
    cases hb
end My
set_option Elab.async false
set_option maxRecDepth 100000
set_option maxHeartbeats 8000000
namespace My
open PySem PySem.Spec PyProof.Rows L2
local macro_rules | `(tactic| walk_at "cond") => `(tactic| first
  | exact Or.inr ⟨by decide, by decide⟩ | exact Or.inl ⟨by decide, by decide⟩ | exact ⟨by decide, by decide, by decide⟩ | exact ⟨by decide, by decide⟩
  | (refine Or.inl ⟨?_, ?_⟩ <;> omega) | (refine Or.inr ⟨?_, ?_⟩ <;> omega)
  | (show (0 : Int) < _; omega))
local macro_rules | `(tactic| walk_at "mem") => `(tactic| first | exact List.Mem.head _ | exact List.Mem.tail _ (List.Mem.head _) | exact Put.head | (refine List.Mem.tail _ ?_; walk_at "mem") | (apply Put.tail; walk_at "mem"))
local macro_rules | `(tactic| walk_at "st") => `(tactic| first
  | with_reducible refine g_seq ?_ | with_reducible refine g_asg ?_ | with_reducible refine g_name ?_ | ((with_reducible show tVar _ _ _ _); refine g_var rfl ?_) | with_reducible refine g_c ?_
  | with_reducible refine g_op ?_ | with_reducible refine g_test ?_ | with_reducible refine g_bl ?_
  | with_reducible refine g_cb ?_ | with_reducible refine g_cons ?_ | with_reducible refine g_nil ?_ | with_reducible refine g_tif ?_ | with_reducible refine g_ifs ?_ | with_reducible refine g_ret ?_
  | with_reducible refine g_drop ?_ | with_reducible refine g_next ?_
  | with_reducible refine g_i0 ?_ | ((with_reducible show rI _ _ _ _ _ _); refine g_i (by walk_at "cond") ?_) | with_reducible refine g_int ?_ | with_reducible refine g_abs ?_ | with_reducible refine g_or ?_
  | with_reducible refine g_and ?_ | with_reducible refine g_not ?_ | with_reducible refine g_lst ?_ | with_reducible refine g_tup ?_
  | with_reducible refine iteT ?_ | with_reducible refine iteF ?_ | with_reducible refine g_par ?_ | with_reducible refine g_two ?_ | with_reducible refine g_sub ?_
  | ((with_reducible show rIxL _ (V.ref _) (V.int _) _ _); refine g_ixM (by assumption) (by walk_at "mem") rfl rfl ?_)
  | ((with_reducible show rSetL (V.ref _) (V.int _) _ _ _); refine g_setM (by assumption) rfl (by walk_at "mem") fun _ _ => ?_)
  | with_reducible refine g_xmk ?_ | with_reducible refine g_xmkK ?_
  | ((with_reducible show XNew _ (spI1 _ _) _ _ _); refine g_x1 (by assumption) fun _ _ _ _ => ?_)
  | ((with_reducible show XNewK _ _ (spI1 _ _) _ _ _ _); refine g_x1k (by assumption) fun _ _ _ _ => ?_)
  | ((with_reducible show XNew _ (spI3 _ _ _ _) _ _ _); refine g_x3 (by assumption) fun _ _ _ _ => ?_)
  | ((with_reducible show tXmk0 _ _ _ _); refine g_xmk0 (by assumption) fun _ _ _ => ?_)
  | ((with_reducible show NewO _ _ _ _); refine g_newo (by assumption) (by first | decide | simp) fun _ _ _ _ => ?_)
  | ((with_reducible show rCat (V.ref _) (V.ref _) _ _); refine g_cat (by assumption) (by walk_at "mem") (by walk_at "mem") (by first | decide | simp) fun _ _ _ _ => ?_))
local macro_rules | `(tactic| walk_at "st") => `(tactic| first | with_reducible refine g_tcall ?_ | with_reducible refine g_tb ?_ | with_reducible refine g_andV ?_ | with_reducible refine g_notV ?_ | with_reducible refine g_chain ?_ | with_reducible refine g_un ?_ | with_reducible refine g_rU ?_)
abbrev NRt1 : List Str := ["_law_source_here", "_law_names", "_law_rows", "_law_again", "_law_odd", "_law_name", "_law_each", "_law_load_here", "_law_value"]
theorem scRt : FnScope NRt1 ["_law_source_here"] (defScope s__law_right) := ⟨rfl, rfl, rfl, by decide +kernel, rfl, by decide +kernel, by decide +kernel⟩
structure RightK1 (P : Program) (w : World) (K : PySem.W.Frag) (mg : Str → Option Value) (base : Heap) (C CP CT CN VF gP gN gS gL gI gG gR gT gE gO gRd t1 t2 : Addr) where
  S : ShK P w K mg base C CP CT CN gP gN gS gL gI gG gR gT gE gO gRd
  L : LamK1 K mg CP CT CN VF
  pull : Cal P w K mg base 1 "_law_pull" ["_law_source_here", "_law_width"] spPull
  tags : Cal P w K mg base 2 "_law_tags" ["_law_source_here", "_law_many"] spTags
  count : Cal P w K mg base 2 "_law_count" ["_law_source_here"] spCount
  load : Cal P w K mg base 8 "_law_load" ["_law_rows"] (spLoadR C)
  f_sh : Addr
  d_sh : FuncData
  shown : FnG P w K mg base CX0 49 f_sh d_sh ["_law_load_here", "_law_rows", "_law_spare"] (spSh K C)
  m_sh : mg "_law_shown_right" = some (.ref f_sh)
  k_sh : PySem.W.keepIn K (.ref f_sh) = true
  b_sh : Binds K d_sh ["_law_load_here", "_law_rows", "_law_spare"] []
  f_bt : Addr
  d_bt : FuncData
  bent : FnG P w K mg base CX0 49 f_bt d_bt ["_law_source_here", "_law_rows", "_law_line"] (spBent t1 t2)
  m_bt : mg "_law_bent_right" = some (.ref f_bt)
  k_bt : PySem.W.keepIn K (.ref f_bt) = true
  b_bt : Binds K d_bt ["_law_source_here", "_law_rows", "_law_line"] []
  any : mg "any" = none
  no : ∀ T ∈ tyL1, PySem.W.kitOne K (.type T) (.ref C) = some false
  nf : ∀ T ∈ tyL1, PySem.W.notFirst K C (.type T) = true
  nfC : PySem.W.notFirst K C (.ref C) = true
section
variable {P : Program} {w : World} {K : PySem.W.Frag} {mg : Str → Option Value} {base : Heap}
abbrev XRt (P : Program) (w : World) (K : PySem.W.Frag) (mg : Str → Option Value) (base : Heap) (f c : Addr) (A : Around) (outer : List Env) (s : Shared) (H : Hp) (E : XK) : Cx := (cxOf CX0 P w K mg base NRt1 "_law_right" (defScope s__law_right) f (.ref c) A outer s H E).nox
theorem pLamR {f CP CT CN VF c t1 t2 : Addr} (R : LamK1 K mg CP CT CN VF) (TB : LamX.TabB base mg c t2) (ne : t1 ≠ t2) {A : Around} {outer : List Env} {s : Shared} {H : Hp} {E : XK} {params : Arguments} {body : Expr} {scope : Scope} {lpos pos p : Pos} {t : XK → TE}
    (hr : Room 11 (XRt P w K mg base f c A outer s H E).A)
    (hbody : ∀ (A' : Around) (outer' : List Env) (s' : Shared) (H' : Hp) (E' : XK) (f' c' : Addr), Room 9 (A'.deeper (LamX.lamEnv (XRt P w K mg base f c A outer s H E) scope s'.heap.objs.size f' c')) → PE (LamX.lamCx (XRt P w K mg base f c A outer s H E) A' outer' s' H' E' scope f' c') body (t E'))
    (hL : LamX.LamS (defScope s__law_right) scope := by exact ⟨rfl, rfl, rfl, by decide +kernel, by decide +kernel⟩)
    (hdef : defaultsOf params (XRt P w K mg base f c A outer s H E).env = ([], []) := by rfl)
    (hbind : ∀ (q : Str) (cl : List (Str × Addr)) (pm cv ctv : Value), bindArgs (PySem.W.kla_fn "<lambda>" q params body scope cl pm cv ctv) {} = pure [] := by intros; rfl) :
    PE (XRt P w K mg base f c A outer s H E) (.Call (.Name "_law_error" p) [.Lambda params body scope lpos] [] pos) (LamX.tLam (TT1 t1 t2) (TErr1 CP CT CN) t) := by
  obtain ⟨oc, od, kV, doc, pm, an, cdv, ct, osl, ed, lkE, hcE⟩ := R.FE.ex
  have bE := R.bE
  rw [ed] at lkE bE
  exact LamX.pe_lamcall (T := TT1 t1 t2) (k := 9) rfl R.mE R.FE.kp lkE hcE bE scErrorD rfl (Or.inl rfl) (err_givesD R.T) TB rfl (List.mem_cons_of_mem _ (List.mem_singleton.mpr rfl)) (fun p hp e => by
    rcases List.mem_cons.mp hp with rfl | hp
    · exact absurd e ne
    · rw [List.mem_singleton.mp hp]
      rfl) hr hL hdef hbind hbody
theorem ok_right1 {f C CP CT CN VF gP gN gS gL gI gG gR gT gE gO gRd c t1 t2 : Addr} {fd : FuncData} (F : FunC K "_law_right" "_law_right" s__law_right f c fd) (R : RightK1 P w K mg base C CP CT CN VF gP gN gS gL gI gG gR gT gE gO gRd t1 t2)
    (TB : LamX.TabB base mg c t2) (ne : t1 ≠ t2) : FnG P w K mg base CX0 50 f fd ["_law_source_here"] (spRightT (TT1 t1 t2)) := by
  refine okGC F scRt (fun vs H Q E h => ?_) (fun A outer s H vs Q E hr gd h => ?_)
  · obtain ⟨p, rfl, _⟩ := h
    rfl
  · obtain ⟨p, rfl, sr, tb, q⟩ := h
    have hr1 := hr.mono (by decide : 1 ≤ 49)
    have hr2 := hr.mono (by decide : 2 ≤ 49)
    have hr3 := hr.mono (by decide : 2 + 1 ≤ 49)
    have hr5 := hr.mono (by decide : 5 ≤ 49)
    have hr8 := hr.mono (by decide : 8 ≤ 49)
    have hr11 := hr.mono (by decide : 9 + 2 ≤ 49)
    have hx0 : Passes CX0 (cxOf CX0 P w K mg base NRt1 "_law_right" (defScope s__law_right) f (.ref c) A outer s H E).nox E0 := pass0
    have hx : Passes (L2.CX P w) (cxOf CX0 P w K mg base NRt1 "_law_right" (defScope s__law_right) f (.ref c) A outer s H E).nox E0 := passes_call LamX.takes0 fun _ _ _ _ h => h
    refine ⟨_, (pss_cons (ps_set (i := 1) scRt.nd rfl (Or.inl rfl) (pe_op op_cat (pCal R.tags hr2 (pa_cons (pv 0) (pa_cons (pe_op op_add pe_int (pCal R.pull hr1 (pa_cons (pv 0) (pa_cons pe_int pa_nil)))) pa_nil))) (pe_lst (pa_cons pe_str pa_nil))))
      (pss_cons (ps_set (i := 2) scRt.nd rfl (Or.inl rfl) (pe_slice sl_list (pe_lc (te := tTup (tCons (tVar 5) (tCons (tCall spCount [] E0 (tCons (tVar 0) tNil)) tNil))) (own := [("_law_name", 5)]) (g := gName 5) rfl scRt.nd (pi_list (pe_slice sl_list (pv 1) po_none (po_some (pe_un un_neg pe_int))))
          (blkOk_by (own := [("_law_name", 5)]) (N := NRt1) (sc := defScope s__law_right) (by decide +kernel)) (fun _ _ _ _ _ => pg_name (i := 5) scRt.nd rfl (Or.inl rfl)) (fun _ _ _ _ _ => pts_nil)
          (fun _ _ _ _ _ => (pe_tup (pa_cons (pv 5) (pa_cons (pCal R.count hr2 (pa_cons (pv 0) pa_nil)) pa_nil))))) po_none (po_some (pCal R.pull hr1 (pa_cons (pv 0) (pa_cons pe_int pa_nil))))))
      (pss_cons (ps_set (i := 7) scRt.nd rfl (Or.inr rfl) (pCal R.load hr8 (pa_cons (pv 2) pa_nil)))
      (pss_cons (ps_if (pt_not (pt_val (pe_callG R.shown hr gd rfl R.m_sh R.k_sh R.b_sh pass0 (pa_cons (pv 7) (pa_cons (pv 2) (pa_cons (pe_ix ix_list (pv 1) (pe_un un_neg pe_int) (fun _ _ => rfl)) pa_nil)))))) (pss_one (ps_ret pe_bl)) pss_nil)
      (pss_cons (ps_set (i := 3) scRt.nd rfl (Or.inl rfl) (pCal R.load hr8 (pa_cons (pe_revL (pv 2)) pa_nil)))
      (pss_cons (ps_if (PW.pt (pw_or (pt_cmpR (op_ownNe R.S.ne R.S.fE hr3 hx) (pv 7) (pv 3) (nomark _)) (pw_or1 (PW.pt (pw_and (pt_cmpR (op_neD hr.units) (pv 2) (pe_lst pa_nil) (nomark _)) (pw_and1 (pt_cmpR (op_ownC (op := .Eq) (fun _ _ => rfl) R.S.ne.eq R.S.ne.fn R.S.fE hr2 hx) (pv 7) (pCal R.load hr8 (pa_cons (pe_slice sl_list (pv 2) (po_some pe_int) po_none) pa_nil)) (nomark _)))))))) (pss_one (ps_ret pe_bl)) pss_nil)
      (pss_cons (ps_set (i := 4) scRt.nd rfl (Or.inl rfl) (pe_lst (pa_cons (pv 2) (pa_cons (pe_callTy (r := rTupZ K) call_tupZ (by rfl) R.S.tuple PyProof.Rows.boot_tuple (pa_cons (pv 2) pa_nil)) (pa_cons (pe_callTy (call_strO R.S.hT R.S.qT R.S.fT hr5 hx0) (by rfl) R.S.str PyProof.Rows.boot_str (pa_cons (pv 7) pa_nil)) (pa_cons pe_non (pa_cons pe_int (pa_cons (pe_tup pa_nil) (pa_cons pe_dnewK (pa_cons (pe_callTy (r := rDictP K) (call_dictP rfl) (by rfl) R.S.dict PyProof.Rows.boot_dict (pa_cons (pv 2) pa_nil)) pa_nil))))))))))
      (pss_cons (ps_if (PW.pt (pw_or (pt_val (pe_callB (cr_any rfl) (by rfl) R.any (by decide +kernel) (pa_cons (pe_lc (te := tOp (rOwnC K C (spEqL K C) E0) (tVar 7) (tVar 6)) (own := [("_law_each", 6)]) (g := gName 6) rfl scRt.nd (pi_list (pv 4))
          (blkOk_by (own := [("_law_each", 6)]) (N := NRt1) (sc := defScope s__law_right) (by decide +kernel)) (fun _ _ _ _ _ => pg_name (i := 6) scRt.nd rfl (Or.inl rfl)) (fun _ _ _ _ _ => pts_nil)
          (fun _ _ _ _ _ => pe_cmpR (op_ownC (op := .Eq) (fun _ _ => rfl) R.S.ne.eq R.S.ne.fn R.S.fE hr2 (passes_call LamX.takes0 fun _ _ _ _ h => h)) (pv 7) (pv 6) (nomark _))) pa_nil))) (pw_or1 (pt_val (pe_callB (cr_any rfl) (by rfl) R.any (by decide +kernel) (pa_cons (pe_lc (te := tOp (rInO C (spInL K C) E0) (tVar 6) (tVar 7)) (own := [("_law_each", 6)]) (g := gName 6) rfl scRt.nd (pi_list (pe_lst (pa_cons pe_non (pa_cons pe_int (pa_cons (pe_tup pa_nil) (pa_cons (pe_lst pa_nil) (pa_cons pe_dnewK (pa_cons pe_str (pa_cons pe_bl pa_nil)))))))))
          (blkOk_by (own := [("_law_each", 6)]) (N := NRt1) (sc := defScope s__law_right) (by decide +kernel)) (fun _ _ _ _ _ => pg_name (i := 6) scRt.nd rfl (Or.inl rfl)) (fun _ _ _ _ _ => pts_nil)
          (fun _ _ _ _ _ => pe_cmpR (op_inO R.S.hI R.S.qI R.S.fI hr2 pass0) (pv 6) (pv 7) (by rfl))) pa_nil)))))) (pss_one (ps_ret pe_bl)) pss_nil)
      (pss_cons (ps_set (i := 8) scRt.nd rfl (Or.inr rfl) (pe_ix ix_list (pe_lst (pa_cons pe_str (pa_cons pe_str (pa_cons pe_non (pa_cons pe_int (pa_cons (pe_tup (pa_cons pe_str pa_nil)) (pa_cons pe_str (pa_cons pe_bl (pa_cons (pe_lst pa_nil) pa_nil))))))))) (pCal R.pull hr1 (pa_cons (pv 0) (pa_cons pe_int pa_nil))) (fun _ _ => rfl)))
      (pss_cons (ps_if (pt_cmpR (op_neD hr.units) (pLamR (t := fun E1 => tOp (rOwnIx C (spGet K C CN) E1) (tVar 7) (tVar 8)) R.L TB ne hr11 fun _ _ _ _ E1 _ _ hr' => ix_own R.S.hG R.S.rG R.S.qG R.S.fG (hr'.mono (by decide : 4 ≤ 9)) (passes_call (takes_of (E := E1) rfl rfl rfl rfl) fun _ _ _ _ h => h) (pv 7) (pv 8)) (pe_lst (pa_cons pe_str (pa_cons (pv 8) (pa_cons pe_bl pa_nil)))) (nomark _)) (pss_one (ps_ret pe_bl)) pss_nil)
      (pss_one (ps_ret (pe_and (pe_callG R.bent hr gd rfl R.m_bt R.k_bt R.b_bt pass0 (pa_cons (pv 0) (pa_cons (pv 2) (pa_cons (pe_callTy (call_strO R.S.hT R.S.qT R.S.fT hr5 hx0) (by rfl) R.S.str PyProof.Rows.boot_str (pa_cons (pv 7) pa_nil)) pa_nil)))) (pe_one (pe_cmpR (op_ownC (op := .Eq) (fun _ _ => rfl) R.S.ne.eq R.S.ne.fn R.S.fE hr2 hx) (pv 7) (pv 3) (nomark _)))))))))))))))), ?_⟩
    obtain ⟨sx0, sl0⟩ := sr.lst
    have pS : ∀ {G : Hp} {b : Addr}, Src p G → G b = none → b ∉ [p] := fun {G b} s hb z => s.some (by rw [← List.mem_singleton.mp z]; exact hb)
    have slot : ∀ {G G' : Hp}, Src p G → Off [p] G G' → LamX.Tabs (TT1 t1 t2) G → LamX.Tabs (TT1 t1 t2) G' := fun {G G'} s o t => by
      obtain ⟨sx, sl⟩ := s.lst
      exact tabs_off t sl o
    -- the names
    refine g_seq <| g_asg <| g_op <| g_tcall <| g_cons <| g_var rfl <| g_cons <| g_op <| g_c <| g_tcall <| g_cons <| g_var rfl <| g_cons <| g_c <| g_nil ?_
    refine pull_of sr (by decide) (by decide) fun m0 H1 hm0 o1 s1 => g_i0 <| g_nil ⟨p, 1 + m0, rfl, by omega, by omega, s1, fun H2 q0 L T o2 s2 hq0 f2 => ?_⟩
    refine g_lst <| g_cons <| g_c <| g_nil <| nLst (by decide) fun xl H3 e3 f3 n3 => ?_
    have lL : L.length = 1 + m0 := T.len
    refine cLst (e3 _ _ f2) f3 (by rw [List.length_map, lL, List.length_singleton]; omega) fun N H4 e4 f4 n4 => g_name ?_
    dsimp only
    have o4 : Off [p] H H4 := ((o1.trans o2).trans (Off.of e3)).trans (Off.of e4)
    have s4 : Src p H4 := (s2.same e3).same e4
    -- the rows
    refine g_seq <| g_asg <| g_slL <| g_lclist <| g_slL <| g_var rfl <| g_nop <| g_part <| g_un <| g_c <| g_rU ⟨_, rfl, sLst f4 fun A1 H5 e5 f5 n5 => ?_⟩
    rw [cut_init] at f5
    have s5 := s4.same e5
    refine ⟨A1, rfl, ⟨_, SqL.of f5⟩, fun D hD => lcW walk_list PairAt PairAt.keep (fun i (l : List (Str × Int)) => l.map (·.1) = L.take i ∧ ∀ q ∈ l, CountOk q.2) ⟨rfl, fun _ z => nomatch z⟩ [p] (Src p) (pull_J p) (src_ms s5) s5 hD (by rw [List.length_map, lL]; omega) (fun G oG sG => SqL.of (oG _ _ f5 (pS s4 n5))) ?_ ?_⟩
    · rintro i x G G' l hi oG sG ⟨hl1, hl2⟩ ⟨rfl, hx1⟩ KT KF kt kf
      rw [List.length_map] at hi
      have ex : x = .str L[i] := by
        rw [List.getElem?_map, List.getElem?_eq_getElem hi] at hx1
        exact (Option.some.inj hx1).symm
      subst ex
      refine g_name ⟨wipe1 _ 5 _, ?_⟩
      unfold tYes
      refine iteT <| g_tup <| g_cons <| g_var rfl <| g_cons <| g_tcall <| g_cons <| g_var rfl <| g_nil ⟨p, rfl, sG, fun G1 n og sg cn => g_nil <| nTup (Nat.le_of_ble_eq_true rfl) fun b G2 e2 l2 _ => ?_⟩
      refine kt _ G2 (L[i], n) (og.trans (Off.of e2)) ((sG.keep og).trans (Keep.of e2)) (sg.same e2) ⟨?_, ?_⟩ ⟨b, rfl, l2⟩
      · rw [List.map_append, hl1, List.take_add_one, List.getElem?_eq_getElem hi]
        rfl
      · intro q hq
        rcases List.mem_append.mp hq with z | z
        · exact hl2 q z
        · rw [List.mem_singleton.mp z]
          exact cn
    rintro G acc ls oG sG dG prG ⟨hl1, hl2⟩
    rw [List.length_map, List.take_length] at hl1
    refine g_nop <| g_part <| g_tcall <| g_cons <| g_var rfl <| g_cons <| g_c <| g_nil ?_
    have nDp : D ∉ [p] := pS s5 hD
    refine pull_of sG (by decide) (by decide) fun m1 H6 hm1 o6 s6 => ⟨_, rfl, sLst (o6 _ _ dG nDp) fun l H7 e7 f7 n7 => g_name ?_⟩
    rw [cut_upto] at f7
    dsimp only
    have s7 := s6.same e7
    have o67 : Off [p] H4 H6 := ((Off.of e5).trans oG).trans o6
    have f4' : H7 N = some (.lst (L.map V.str ++ [.str "x1234567"])) := e7 _ _ (o67 _ _ f4 (pS (s2.same e3) n4))
    have o7 : Off [p] H H7 := (o4.trans o67).trans (Off.of e7)
    have tb7 : LamX.Tabs (TT1 t1 t2) H7 := tabs_off tb sl0 o7
    have lp : l ≠ p := fun z => s6.some (by rw [← z]; exact n7)
    have kGH : Keep G H7 := (sG.keep o6).trans (Keep.of e7)
    have prA : Paired (PairAt H7) acc ls := pairedMono (fun _ _ h => PairAt.keep _ _ _ _ kGH h) prG
    have gls : GoodP ls := by
      refine ⟨fun q hq => ?_, fun q hq => (hl2 q hq).1, by rw [hl1]; exact T.nd⟩
      have z : q.1 ∈ L := by
        rw [← hl1]
        exact List.mem_map_of_mem hq
      exact (T.ok _ z).1
    have lls : ls.length = L.length := by rw [← hl1, List.length_map]
    obtain ⟨ts, ps, fT, pr, g, few, big, out⟩ : ∃ (ts : List V) (ps : List (Str × Int)), H7 l = some (.lst ts) ∧ Paired (PairAt H7) ts ps ∧ GoodP ps ∧ ps.length ≤ 6 ∧ (∀ q ∈ ps, q.2 < 10 ^ 45) ∧ ("x1234567" : Str) ∉ ps.map (·.1) := by
      refine ⟨_, _, f7, pairedTake m1 prA, gls.sub (List.take_sublist _ _), by rw [List.length_take]; omega, fun q hq => (hl2 q (List.mem_of_mem_take hq)).2, fun z => ?_⟩
      obtain ⟨q, hq, e⟩ := List.mem_map.mp z
      have z2 : q.1 ∈ L := by
        rw [← hl1]
        exact List.mem_map_of_mem (List.mem_of_mem_take hq)
      have z3 := (T.ok _ z2).2
      rw [e] at z3
      exact absurd z3 (by decide)
    have lx : ts.length = ps.length := pr.length
    clear f7 prA prG dG f5 oG sG hl1 hl2
    -- the load
    refine g_seq <| g_asg <| g_tcall <| g_cons <| g_var rfl <| g_nil ⟨l, ts, ps, rfl, fT, pr, g, by omega, fun H8 a rs e8 od la => g_name ?_⟩
    dsimp only
    have cr : Can rs := can_of g od
    have sm : SmallP rs := fun q hq => by
      have z := nameB_le8 (cr.good.name q hq)
      have y := cr.good.count q hq
      have w := big q (od.perm.mem_iff.mp hq)
      have p45 : (10 : Int) ^ 45 < 10 ^ 64 := by decide +kernel
      exact ⟨z, by omega, by omega⟩
    have lr : rs.length = ps.length := od.perm.length_eq
    have f8 := e8 _ _ fT
    have pr8 : Paired (PairAt H8) ts ps := pairedMono (fun _ _ h => PairAt.same h e8) pr
    refine g_seq <| g_ifs <| g_not <| g_tb <| g_tcall <| g_cons <| g_var rfl <| g_cons <| g_var rfl <| g_cons <| g_op <| g_var rfl <| g_un <| g_c <| g_rU <| g_ixL (SqL.of (e8 _ _ f4')) at_last <| g_nil
      ⟨a, l, "x1234567", ts, ps, rs, rfl, la, f8, pr8, cr, od.perm, big, few, by decide +kernel, out, fun H9 e9 => ⟨true, rfl, iteF ?_⟩⟩
    refine g_next ?_
    dsimp only
    have pr9 : Paired (PairAt H9) ts ps := pairedMono (fun _ _ h => PairAt.same h e9) pr8
    have f9 := e9 _ _ f8
    -- the same rows, the other way round
    refine g_seq <| g_asg <| g_tcall <| g_cons <| g_revL <| g_var rfl ⟨l, ts, rfl, SqL.of f9, fun b1 hb1 => ?_⟩
    have j1 : Same H9 (upd H9 b1 (.lst ts.reverse)) := sameNew hb1
    have h1 : upd H9 b1 (.lst ts.reverse) b1 = some (.lst ts.reverse) := upd_same
    generalize upd H9 b1 (.lst ts.reverse) = J1 at j1 h1
    refine g_nil ⟨b1, ts.reverse, ps.reverse, rfl, h1, pairedRev (pairedMono (fun _ _ h => PairAt.same h j1) pr9), g.perm (List.reverse_perm ps), by rw [List.length_reverse]; omega, fun J2 a2 rs2 j2 od2 la2 => g_name ?_⟩
    have ers : rs = rs2 := can_ext cr (can_of (g.perm (List.reverse_perm ps)) od2) fun s => ((count_perm g od.perm s).trans (count_perm g (List.reverse_perm ps) s).symm).trans (count_perm (g.perm (List.reverse_perm ps)) od2.perm s).symm
    subst ers
    dsimp only
    have e92 := (e9.trans j1).trans j2
    have laJ := la.same e92
    have f10 := e92 _ _ f8
    have pr10 : Paired (PairAt J2) ts ps := pairedMono (fun _ _ h => PairAt.same h e92) pr8
    have LF : ∀ {G : Hp} {x : Addr}, LoadAt C G x rs → LdF C G x (countOf rs) := fun {G x} h => ⟨rs, h, cr, fun _ => rfl⟩
    refine g_seq <| g_ifs <| g_or <| g_test <| g_op <| g_var rfl <| g_var rfl <| g_neF (LF laJ) (LF la2) (fun s => rfl) fun J3 j3 => g_bl (iteF ?_)
    have e93 := e92.trans j3
    refine g_rest rfl rfl (e93 _ _ f8) (pairedMono (fun _ _ h => PairAt.same h e93) pr8) g few (la.same e93) cr lr fun J4 j4 => iteF (g_next ?_)
    dsimp only
    have e94 := e93.trans j4
    have la4 := la.same e94
    have la4' := la2.same (j3.trans j4)
    have f11 := e94 _ _ f8
    have pr11 : Paired (PairAt J4) ts ps := pairedMono (fun _ _ h => PairAt.same h e94) pr8
    obtain ⟨dx, t0, d0, ts0, i1, i2⟩ := id la4
    -- what is no load
    refine g_seq <| g_asg <| g_lst <| g_cons <| g_var rfl <| g_cons <| g_cb <| g_cons <| g_var rfl <| g_nil <| zTup f11 fun b2 J5 j5 q5 _ => ?_
    refine g_cons <| g_cb <| g_cons <| g_var rfl <| g_nil ⟨a, dx, _, rfl, j5 _ _ i1, a, rs, rfl, la4.same j5, by omega, sm, fun J6 j6 => ⟨_, rfl, ?_⟩⟩
    refine g_cons <| g_c <| g_cons <| g_c <| g_cons <| g_tup <| g_nil <| nTup (by decide) fun b3 J7 j7 q7 _ => ?_
    refine g_cons ?_
    refine nDk fun b4 J8 j8 q8 _ => ?_
    have j58 := ((j5.trans j6).trans j7).trans j8
    refine g_cons <| g_cb <| g_cons <| g_var rfl <| g_nil <| g_dictP (j58 _ _ f11) (pairedMono (fun _ _ h => PairAt.same h j58) pr11) g.nd fun b5 hb5 => ?_
    have j9 : Same J8 (upd J8 b5 (.dK (kvOf ps))) := sameNew hb5
    have q9 : upd J8 b5 (.dK (kvOf ps)) b5 = some (.dK (kvOf ps)) := upd_same
    generalize upd J8 b5 (.dK (kvOf ps)) = J9 at j9 q9
    refine g_nil <| nLst (Nat.le_of_ble_eq_true rfl) fun W Ja ja qa nW => g_name ?_
    dsimp only
    have j59 := (j58.trans j9)
    have j5a := j59.trans ja
    have oW : ∀ v ∈ ([.ref l, .ref b2, .str (pairsTx rs), .non, .int 0, .ref b3, .ref b4, .ref b5] : List V), OddT K Ja v := by
      refine allC ⟨"list", by decide, .base (.lst (j5a _ _ f11))⟩ <| allC ⟨"tuple", by decide, tyTup (Same.seqT' (((j6.trans j7).trans (j8.trans j9)).trans ja) q5)⟩ <| allC ⟨"str", by decide, .base (.str _)⟩ <| allC ⟨"NoneType", by decide, .base .non⟩ <| allC ⟨"int", by decide, .base (.int 0)⟩ <|
        allC ⟨"tuple", by decide, .base (.tup (ja _ _ (j9 _ _ (j8 _ _ q7))))⟩ <| allC ⟨"dict", by decide, .base (.dK (ja _ _ (j9 _ _ q8)))⟩ <| allC ⟨"dict", by decide, .base (.dK (ja _ _ q9))⟩ all0
    have laA := la4.same j5a
    refine g_seq <| g_ifs <| g_or <| g_tb <| g_cb <| g_cons <| g_lclist <| g_var rfl <| lvOn 6 qa (Nat.le_of_ble_eq_true rfl) (Nat.le_of_ble_eq_true rfl) (fun v G Q2 hv eG k2 => ?_) fun Jb N2 jb qb => ?_
    · exact g_op <| g_var rfl <| g_var rfl <| g_eqOdd R.no R.nf (laA.same eG) cr.good ((oW v hv).lt (LTyp.same eG)) k2
    refine g_nil <| g_anyF qb ⟨_, rfl, iteF ?_⟩
    -- what is no name
    refine g_tb <| g_cb <| g_cons <| g_lclist <| g_lst <| g_cons <| g_c <| g_cons <| g_c <| g_cons <| g_tup <| g_nil <| nTup (by decide) fun b6 Jc jc qc _ => ?_
    refine g_cons <| g_lst <| g_nil <| nLst (by decide) fun b7 Jd jd qd _ => ?_
    refine g_cons ?_
    refine nDk fun b8 Je je qe _ => ?_
    refine g_cons <| g_c <| g_cons <| g_c <| g_nil <| nLst (Nat.le_of_ble_eq_true rfl) fun W2 Jf jf qf _ => ?_
    have jbf := (((jb.trans jc).trans jd).trans je).trans jf
    have nW2 : ∀ v ∈ ([.non, .int 0, .ref b6, .ref b7, .ref b8, .str "", .bl true] : List V), NameK K Jf v none := by
      refine allC (.other (.base .non) (kit_ty (by decide +kernel))) <| allC (.other (.base (.int 0)) (kit_ty (by decide +kernel))) <| allC (.other (.base (.tup (jf _ _ (je _ _ (jd _ _ qc))))) (kit_ty (by decide +kernel))) <| allC (.other (.base (.lst (jf _ _ (je _ _ qd)))) (kit_ty (by decide +kernel))) <|
        allC (.other (.base (.dK (jf _ _ qe))) (kit_ty (by decide +kernel))) <| allC (nm_str (by decide) (by decide +kernel)) <| allC (.other (.base (.bl true)) (kit_ty (by decide +kernel))) all0
    refine lvOn 6 qf (Nat.le_of_ble_eq_true rfl) (Nat.le_of_ble_eq_true rfl) (fun v G Q2 hv eG k2 => ?_) fun Jg N3 jg qg => ?_
    · exact g_op <| g_var rfl <| g_var rfl <| g_inOdd ((laA.same jbf).same eG) ((nW2 v hv).same eG) k2
    refine g_nil <| g_anyF qg ⟨_, rfl, iteF (g_next ?_)⟩
    dsimp only
    have jag := jbf.trans jg
    clear oW nW2 qa qb qc qd qe qf qg q5 q7 q8 q9
    -- a value that is no name
    refine g_seq <| g_asg <| g_op <| g_lst <| g_cons <| g_c <| g_cons <| g_c <| g_cons <| g_c <| g_cons <| g_c <| g_cons <| g_tup <| g_cons <| g_c <| g_nil <| nTup (by decide) fun b9 Jh jh qh _ => ?_
    refine g_cons <| g_c <| g_cons <| g_c <| g_cons <| g_lst <| g_nil <| nLst (by decide) fun b0 Ji ji qi ni => ?_
    refine g_nil <| nLst (Nat.le_of_ble_eq_true rfl) fun W3 Jj jj qj nj => ?_
    have e7j : Same H7 Jj := ((((e8.trans e94).trans j5a).trans jag).trans jh).trans (ji.trans jj)
    have sj := s7.same e7j
    refine g_tcall <| g_cons <| g_var rfl <| g_cons <| g_c <| g_nil ?_
    refine pull_of sj (by decide) (by decide) fun i9 M hi9 oM sM => ?_
    have sh : Src p Jh := (((((s7.same e8).same e94).same j5a).same jag).same jh)
    have fW3 := oM _ _ qj (pS (sh.same ji) nj)
    have ft : M b9 = some (.tup [.str "a"]) := sj.keep oM _ _ (jj _ _ (ji _ _ qh)) (fun _ z => nomatch z)
    have fl : M b0 = some (.lst []) := oM _ _ (jj _ _ qi) (pS sh ni)
    obtain ⟨v, ev, vn, Dv, dv, shp, eqd⟩ : ∃ v, ([.str "", .str "A", .non, .int 0, .ref b9, .str "abcdefghi", .bl true, .ref b0] : List V)[i9]? = some v ∧ ValOk K M v := by
      match i9, hi9 with
      | 0, _ => exact ⟨_, rfl, val_str (by decide) (by decide +kernel) (by decide +kernel) (by decide +kernel)⟩
      | 1, _ => exact ⟨_, rfl, val_str (by decide) (by decide +kernel) (by decide +kernel) (by decide +kernel)⟩
      | 2, _ => exact ⟨_, rfl, .other (.base .non) (kit_ty (by decide +kernel)), .none, fun _ _ => .non, by decide +kernel, by decide +kernel⟩
      | 3, _ => exact ⟨_, rfl, .other (.base (.int 0)) (kit_ty (by decide +kernel)), .int 0, fun _ _ => .int _, by decide +kernel, by decide +kernel⟩
      | 4, _ => exact ⟨_, rfl, .other (.base (.tup ft)) (kit_ty (by decide +kernel)), .tuple [.str "a"], fun G e => Dp.tup (SqT.of (e _ _ ft (fun _ z => nomatch z))) (.cons (.str _) .nil), by decide +kernel, by decide +kernel⟩
      | 5, _ => exact ⟨_, rfl, val_str (by decide) (by decide +kernel) (by decide +kernel) (by decide +kernel)⟩
      | 6, _ => exact ⟨_, rfl, .other (.base (.bl true)) (kit_ty (by decide +kernel)), .bool true, fun _ _ => .bl _, by decide +kernel, by decide +kernel⟩
      | 7, _ => exact ⟨_, rfl, .other (.base (.lst fl)) (kit_ty (by decide +kernel)), .list [], fun G e => Dp.lst (SqL.of (e _ _ fl (fun _ z => nomatch z))) .nil, by decide +kernel, by decide +kernel⟩
      | n + 8, h => exact absurd h (by omega)
    refine ix_at (SqL.of fW3) ev <| g_name ?_
    dsimp only
    have k7M : Keep H7 M := (Keep.of e7j).trans (sj.keep oM)
    have laM : LoadAt C M a rs := ((laA.same jag).same ((jh.trans ji).trans jj)).keep (sj.keep oM)
    have laM' : LoadAt C M a2 rs := (((la4'.same j5a).same jag).same ((jh.trans ji).trans jj)).keep (sj.keep oM)
    have nlP : l ∉ [p] := fun z => lp (List.mem_singleton.mp z)
    have fM : M l = some (.lst ts) := oM _ _ (e7j _ _ fT) nlP
    have prM : Paired (PairAt M) ts ps := pairedMono (fun _ _ h => PairAt.keep _ _ _ _ k7M h) pr
    have tbM := slot sj oM (tabs_same tb7 e7j)
    refine g_seq <| g_ifs <| g_test <| g_op ?_
    refine g_lamW (W := RowIs "InvalidName" v) tbM (fun G Q1 fo eG hQ => ?_) fun E1 r0 e1 tb1 new0 row0 => ?_
    · have lG := loadAt_ext laM eG
      obtain ⟨dx, t0, d0, ts0, i1, i2⟩ := id lG
      exact g_op <| g_var rfl <| g_var rfl ⟨a, dx, _, rfl, i1, a, rs, v, none, rfl, lG, nameK_ext vn eG, tellN fun H' q s hq hr => hQ H' q s hq hr⟩
    refine g_lst <| g_cons <| g_c <| g_cons <| g_var rfl <| g_cons <| g_c <| g_nil <| nLst (Nat.le_of_ble_eq_true rfl) fun c0 M1 m1 w1 _ => ?_
    have eM1 : LamX.ExtN M M1 := extTrans e1 (extOf m1)
    refine ⟨_, _, Dp.lst (SqL.of (m1 _ _ row0)) (.cons (.str _) (.cons (dv M1 eM1) (.cons (.bl _) .nil))), Dp.lst (SqL.of w1) (.cons (.str _) (.cons (dv M1 eM1) (.cons (.bl _) .nil))), shp, shp, ?_⟩
    rw [eqd]
    refine g_bl (iteF (g_next ?_))
    dsimp only
    -- what is bent
    have l1 := loadAt_ext laM eM1
    obtain ⟨dx1, t1', d1, ts1, i1', i2'⟩ := id l1
    refine g_ret <| g_andV <| g_tcall <| g_cons <| g_var rfl <| g_cons <| g_var rfl <| g_cons <| g_cb <| g_cons <| g_var rfl <| g_nil ⟨a, dx1, _, rfl, i1', a, rs, rfl, l1, by omega, sm, fun M2 m2 => ⟨_, rfl, ?_⟩⟩
    have eM2 : LamX.ExtN M M2 := extTrans eM1 (extOf m2)
    have tM2 : LamX.Tabs (TT1 t1 t2) M2 := tabs_same (tabs_same tb1 m1) m2
    refine g_nil ⟨p, l, ts, ps, rs, rfl, src_ext sM eM2, lp, eM2 _ _ fM (fun _ z => nomatch z), pairedMono (fun _ _ h => pairAt_ext h eM2) prM, g, few, cr.good, sm, by omega, tM2, fun M3 k3 s3 t3 => ⟨true, rfl, iteT ?_⟩⟩
    have kp3 : ∀ {b : Addr} {u : HO}, M b = some u → b ≠ p → (∀ xs, u ≠ .tbl xs) → M3 b = some u := fun {b u} h nb no => k3 b u (eM2 b u h no) nb no
    have ltM3 : LTyp M M3 := fun b u h no => by
      by_cases z : b = p
      · subst z
        obtain ⟨xs, hx⟩ := sM.lst
        obtain ⟨ys, hy⟩ := s3.lst
        rw [hx] at h
        cases h
        exact .inr ⟨_, _, rfl, hy⟩
      · exact .inl (kp3 h z no)
    refine g_op <| g_var rfl <| g_var rfl <| g_eqLd (loadAt_lt laM ltM3) (loadAt_lt laM' ltM3) cr fun M4 m4 => ?_
    refine q M4 (fun b u hb nb no => m4 _ _ (kp3 (oM b u (e7j b u (o7 b u hb ?_)) ?_) nb no)) (tabs_same t3 m4)
    · exact fun z => nb (List.mem_singleton.mp z)
    · exact fun z => nb (List.mem_singleton.mp z)
end
end My
set_option Elab.async false
set_option maxRecDepth 100000
set_option maxHeartbeats 8000000
namespace My
open PySem PySem.Spec PyProof.Rows L2
/-- the law is called where no repr is under way, with two tables of code objects -/
theorem lawCallGT2 {P : Program} {w : World} {K : PySem.W.Frag} {mg mb : Str → Option Value} {k : Nat} {fa a c1 t1 c2 t2 : Addr} {fd : FuncData} {x : Str} {sp : Sp} {s₁ : Shared} {vs : List Value} {ns : List Int}
    (kx : K.In s₁.heap) (hns : s₁.heap.Ns mainGlobals mg) (hb : s₁.heap.Ns builtinsNs mb) (hbb : ∀ x : Str, x ≠ "__name__" → mb x = bootBuiltins x) (lim : s₁.heap.NoLimit) (gens : s₁.gens = #[])
    (hT : ∀ t, t = t1 ∨ t = t2 → s₁.heap.get? t = some { cls := Value.none, data := Data.fields #[] }) (kT : ∀ t, t = t1 ∨ t = t2 → K.lookup t = none) (hC1 : PySem.W.CodeHd s₁.heap c1 t1) (hC2 : PySem.W.CodeHd s₁.heap c2 t2)
    (hBm : ∃ bm ob, mg "__builtins__" = some (.ref bm) ∧ bm ≠ builtinsNs ∧ s₁.heap.get? bm = some ob ∧ ob.cls = .type "module" ∧ ob.dict = some builtinsNs ∧ ob.data = .plain)
    (ha : s₁.heap.get? a = some { cls := .type "list", data := .seq vs.toArray }) (hi : IntsAre vs ns) (hl : ns.length ≤ sizeLine) (hr : Room k callerA)
    (F : ∀ base : Heap, K.In base → base.Ns mainGlobals mg → LamX.TabB base mg c1 t1 → LamX.TabB base mg c2 t2 → FnG P w K mg base CX0 k fa fd [x] sp) (hbind : ∀ (s : Shared) (u : Value), BindsTo s fd ⟨[u], []⟩ [(x, u)])
    (hsp : ∀ H : Hp, (∀ t, t = t1 ∨ t = t2 → H t = some (.tbl #[])) → SqL K H a (ns.map V.int) → sp [.ref a] H (fun v _ => v = .bl true) fun _ _ _ => False) :
    codeAny (model P w) callerA (.call (.ref fa) ⟨[.ref a], []⟩) (fun r s' => r = .ok (.ret (.bool true)) ∧ OldK s₁.heap s'.heap ∧ s'.os = s₁.os ∧ AllBare s'.gens) s₁ := by
  have rv := vals_ints hi
  have naT : ∀ t, t = t1 ∨ t = t2 → a ≠ t := fun t ht z => by
    rw [z, hT t ht] at ha
    cases ha
  have go : ∀ H : Hp, (∀ t, t = t1 ∨ t = t2 → H t = some (.tbl #[])) → (∀ b, ¬ (b = t1 ∨ b = t2) → H b = none ∨ ∃ o xs, H b = some (.frz o (.lst xs))) → SqL K H a (ns.map V.int) → HOk P w H s₁.heap → (∀ b, ¬ (b = t1 ∨ b = t2) → H b ≠ none → b = a ∧ K.lookup a = none) →
      codeAny (model P w) callerA (.call (.ref fa) ⟨[.ref a], []⟩) (fun r s' => r = .ok (.ret (.bool true)) ∧ OldK s₁.heap s'.heap ∧ s'.os = s₁.os ∧ AllBare s'.gens) s₁ := by
    intro H tH only hS hok hA
    have free : ∀ {b : Addr} {o : Obj}, s₁.heap.get? b = some o → ¬ (b = t1 ∨ b = t2) → (b = a → K.lookup a = none → False) → H b = none := fun {b o} e nt no => by
      cases q : H b with
      | none => rfl
      | some u =>
        obtain ⟨e1, e2⟩ := hA b nt (by rw [q]; simp)
        exact (no e1 e2).elim
    have dictFree : ∀ {b : Addr} {o : Obj} {es : Array DictEntry} {ep : Nat}, s₁.heap.get? b = some o → o.data = .dict es ep → H b = none := fun {b o es ep} e d => free e (fun z => by
        rw [hT b z] at e
        cases e
        cases d) fun z _ => by
      rw [z, ha] at e
      cases e
      cases d
    have nsB : ∀ {b : Addr} {m : Str → Option Value}, s₁.heap.Ns b m → (hidT s₁.heap H).Ns b m := fun {b m} ⟨o, es, ep, e, d, r⟩ => ⟨o, es, ep, hidT_get e (dictFree e d), d, r⟩
    have kB : K.In (hidT s₁.heap H) := fun b o e => hidT_get (kx b o e) (free (kx b o e) (fun z => by
        rw [kT b z] at e
        cases e) fun z q => by
      rw [z, q] at e
      cases e)
    have mB : Mod K mg (hidT s₁.heap H) := ⟨kB, nsB hns, ⟨mb, nsB hb, hbb⟩, let ⟨mc, h1, h2⟩ := lim; ⟨mc, nsB h1, h2⟩⟩
    have tB : ∀ c t, t = t1 ∨ t = t2 → PySem.W.CodeHd s₁.heap c t → LamX.TabB (hidT s₁.heap H) mg c t := fun c t ht hC => by
      refine ⟨?_, ?_, fun z => ?_⟩
      · obtain ⟨o, us, file, tf, flags, tg, inF, text, tt, e, h1, h2, h3, h4, h5, h6, h7, h8, h9⟩ := hC
        refine ⟨o, us, file, tf, flags, tg, inF, text, tt, hidT_get e (free e (fun z => ?_) fun z _ => by
          rw [z, ha] at e
          cases e
          cases h2), h1, h2, h3, h4, h5, h6, h7, h8, h9⟩
        rw [hT c z] at e
        cases e
        cases h1
      · obtain ⟨bm, ob, h1, h2, e, h4, h5, h6⟩ := hBm
        have nt : ¬ (bm = t1 ∨ bm = t2) := fun z => by
          rw [hT bm z] at e
          cases e
          cases h6
        refine ⟨bm, ob, h1, h2, fun z => ?_, fun z => nt (by rw [z]; exact ht), hidT_get e (free e nt fun z _ => ?_), h4, h5, h6⟩
        · obtain ⟨o, es, ep, e', d, _⟩ := hns
          rw [← z, e] at e'
          cases e'
          rw [h6] at d
          cases d
        · rw [z, ha] at e
          cases e
          cases h6
      · obtain ⟨o, es, ep, e', d, _⟩ := hns
        rw [z, hT t ht] at e'
        cases e'
        cases d
    have e0 : Env0 P w K mg (hidT s₁.heap H) callerA [] s₁ H :=
      ⟨rfl, mB, fun b o e => of_hidT e, Nat.le_of_eq (hidT_size _ _), trivial, fun b hb => absurd (show b ∈ ([] : List Addr) from hb) (by simp), hok, .of_eq gens⟩
    refine codeAny_mono ((F _ kB (nsB hns) (tB c1 t1 (.inl rfl) hC1) (tB c2 t2 (.inr rfl) hC2)).run callerA [] s₁ H ⟨[.ref a], []⟩ [.ref a] [.ref a] _ _ hr rfl e0 (hbind s₁ (.ref a)) (.cons rfl .nil) (hsp H tH hS)) fun r s' h => ?_
    rcases r with er | fl
    · exact False.elim h
    cases fl with
    | next => exact False.elim h
    | brk => exact False.elim h
    | cont => exact False.elim h
    | ret u =>
      obtain ⟨v, H', os, bare, un, hok', r', q⟩ := h
      obtain rfl : v = .bl true := q
      obtain rfl : u = Value.bool true := r'
      refine ⟨rfl, ⟨fun b o e => ?_, fun b o e => un.there b o e (by simp)⟩, os, bare⟩
      by_cases bt : b = t1 ∨ b = t2
      · rw [hT b bt] at e
        cases e
        obtain ⟨more, z⟩ := un.tbls b #[] (tH b bt)
        have e2 := hok' b _ z
        have hC : ∃ c, PySem.W.CodeHd s₁.heap c b := by
          rcases bt with rfl | rfl
          · exact ⟨c1, hC1⟩
          · exact ⟨c2, hC2⟩
        obtain ⟨c, oc, us, _, _, _, _, _, _, _, ec, h1, h2, h3, _⟩ := hC
        exact .inr (.inl ⟨⟨c, oc, us, ec, h1, h2, h3⟩, rfl, #[], more, rfl, e2⟩)
      · refine .inl ?_
        cases q : H b with
        | none => exact un.keep b o e q (by intro z; exact absurd (show b ∈ ([] : List Addr) from z) (by simp)) (by simp)
        | some u =>
          rcases only b bt with z | ⟨ob, xs, z⟩
          · rw [q] at z
            cases z
          · obtain ⟨e1, _⟩ := hok b _ z
            obtain ⟨e2, _⟩ := hok' b _ (un.frzs b ob _ z)
            rw [e] at e1
            cases e1
            exact e2
  have tObj : ∀ {H : Hp} {t : Addr}, t = t1 ∨ t = t2 → ObjOk P w H s₁.heap t (.tbl #[]) := fun {H t} ht => hT t ht
  have aT : ¬ (a = t1 ∨ a = t2) := fun z => naT a z rfl
  cases hk : K.lookup a with
  | some o =>
    have e := kx a o hk
    rw [ha] at e
    cases e
    refine go (fun b => if b = t1 ∨ b = t2 then some (.tbl #[]) else none) (fun t ht => if_pos ht) (fun b nb => .inl (if_neg nb)) (.inr ⟨_, vs.toArray, _, hk, rfl, rfl, rfl, by rw [List.size_toArray, hi.length]; exact hl, by simpa using rv⟩) (fun b u z => ?_) (fun b nb z => absurd (if_neg nb) z)
    dsimp only at z
    by_cases hb' : b = t1 ∨ b = t2
    · rw [if_pos hb'] at z
      cases z
      exact tObj hb'
    · rw [if_neg hb'] at z
      cases z
  | none =>
    refine go (fun b => if b = t1 ∨ b = t2 then some (.tbl #[]) else if b = a then some (.frz { cls := .type "list", data := .seq vs.toArray } (.lst (ns.map V.int))) else none) (fun t ht => if_pos ht) (fun b nb => ?_) (.inl (.inr ⟨{ cls := .type "list", data := .seq vs.toArray }, (if_neg aT).trans (if_pos rfl)⟩)) (fun b u z => ?_) (fun b nb z => ?_)
    · by_cases hb' : b = a
      · exact .inr ⟨_, _, (if_neg nb).trans (if_pos hb')⟩
      · exact .inl ((if_neg nb).trans (if_neg hb'))
    · dsimp only at z
      by_cases hb' : b = t1 ∨ b = t2
      · rw [if_pos hb'] at z
        cases z
        exact tObj hb'
      · rw [if_neg hb'] at z
        by_cases hb2 : b = a
        · rw [if_pos hb2] at z
          cases z
          subst hb2
          exact ⟨ha, by rw [List.length_map]; exact hl, vs, _, rv, ha⟩
        · rw [if_neg hb2] at z
          cases z
    · by_cases hb' : b = a
      · exact ⟨hb', hk⟩
      · exact absurd ((if_neg nb).trans (if_neg hb')) z
theorem walkGT2 {l : PySem.W.OpenLaw} {n k : Nat} {q : Program} {loose : List Str} {XP : (Str → Option Value) → Heap → Prop} {YP : World → Heap → Prop} {d : DefRec} {x : Str} {c1 t1 c2 t2 : Addr} (hn : l.most = some n) (hn2 : n ≤ sizeLine) (hdf : d.params.defaults = []) (hr : Room k callerA)
    (F : ∀ (w : World) (mg : Str → Option Value) (fa : Addr) (h : Heap), YP w h → h.Ns mainGlobals mg → mg d.name = some (.ref fa) →
      ∃ (K : PySem.W.Frag) (fd : FuncData) (sp : Sp), K.In h ∧ (∀ t, t = t1 ∨ t = t2 → h.get? t = some { cls := Value.none, data := Data.fields #[] }) ∧ (∀ t, t = t1 ∨ t = t2 → K.lookup t = none) ∧ PySem.W.CodeHd h c1 t1 ∧ PySem.W.CodeHd h c2 t2 ∧ (∀ (s : Shared) (u : Value), BindsTo s fd ⟨[u], []⟩ [(x, u)]) ∧
        (∀ (H : Hp) (a : Addr) (ns : List Int), ns.length ≤ n → (∀ t, t = t1 ∨ t = t2 → H t = some (.tbl #[])) → SqL K H a (ns.map V.int) → sp [.ref a] H (fun v _ => v = .bl true) fun _ _ _ => False) ∧
        ∀ base : Heap, K.In base → base.Ns mainGlobals mg → LamX.TabB base mg c1 t1 → LamX.TabB base mg c2 t2 → FnG l.prog w K mg base CX0 k fa fd [x] sp) :
    PySem.W.WalkO q loose XP YP l.row.toRowW d [] (fun f vs => PySem.call f vs) := by
  refine Att.attach_call hn hdf fun w s₀ s₁ mg mb fa o pm cd doc a vs ns G Y ho hd hcd hmg hobj hints hlen hg => ?_
  obtain ⟨K, fd, sp, KX, hT, kT, hC1, hC2, hb, hsp, hF⟩ := F w mg fa _ Y G.T.g hmg
  exact lawCallGT2 KX G.T.g G.T.b G.T.builtins G.T.nolimit hg hT kT hC1 hC2 G.T.bmain hobj hints (Nat.le_trans hlen hn2) hr hF hb fun H h1 hS => hsp H a ns hlen h1 hS
theorem tabs_new2 {t1 t2 : Addr} {q1 q2 : Str} {H : Hp} (h : ∀ t, t = t1 ∨ t = t2 → H t = some (.tbl #[])) : LamX.Tabs [(t1, q1), (t2, q2)] H := fun p hp => by
  have hp' : H p.1 = some (.tbl #[]) := by
    rcases List.mem_cons.mp hp with rfl | hp
    · exact h _ (.inl rfl)
    · rw [List.mem_singleton.mp hp]
      exact h _ (.inr rfl)
  refine ⟨#[], hp', ?_, fun pos cv hc => ?_⟩
  · unfold TriplesOk
    trivial
  · cases hc
/-- where the code of a def stands, and its table -/
def CodeKT (K : PySem.W.Frag) (c P : Addr) : Prop := ∃ (o : Obj) (vs : Array Value) (file : Str) (tf : Nat) (flags : Int) (tg : Nat) (inF : Bool) (text : Int) (tt : Nat), K.lookup c = some o ∧ o.cls = .type "code" ∧ o.data = .fields vs ∧ vs[11]? = some (.ref P) ∧ vs.getD 11 .none = .ref P ∧ vs.getD 18 .none = .str file tf ∧ vs.getD 7 .none = .int flags tg ∧ vs.getD 9 .none = .bool inF ∧ vs.getD 10 .none = .int text tt ∧ c ≠ P
theorem CodeKT.hd {K : PySem.W.Frag} {h : Heap} {c P : Addr} (z : CodeKT K c P) (X : K.In h) : PySem.W.CodeHd h c P := by
  obtain ⟨o, vs, file, tf, flags, tg, inF, text, tt, e, r⟩ := z
  exact ⟨o, vs, file, tf, flags, tg, inF, text, tt, X c o e, r⟩
end My
set_option Elab.async false
set_option maxRecDepth 100000
set_option maxHeartbeats 8000000
namespace My
open PySem PySem.Spec PyProof.Rows L2
def bmOf (b : String) : List Value := [.type b, .type "Exception", .type "BaseException", .type "object"]
abbrev oxT (K : PySem.W.Frag) (newId : String) (bmB : List Value) (C : Addr) := ((PySem.W.excInitIn K C bmB newId, PySem.W.excOver K C bmB, PySem.W.hasDictIn K C, PySem.W.keepIn K (.ref C)), (PySem.W.findIn K (.ref C) "__setattr__", PySem.W.findIn K (.ref C) "__getattribute__", PySem.W.findIn K (.ref C) "__getattr__", PySem.W.findIn K (.ref C) "__class__"), PySem.W.subIn K (.ref C) (.type "BaseException"), PySem.W.typeIn K (.ref C), PySem.W.mroIn K C (.type "object"))
abbrev oxE : (Bool × Bool × Bool × Bool) × (Option (Option Value) × Option (Option Value) × Option (Option Value) × Option (Option Value)) × Option Bool × Option Value × Option Bool := ((true, true, true, true), (some (some (.builtin "object.__setattr__")), some (some (.builtin "BaseException.__getattribute__")), some none, some (some (.builtin "object.__class__"))), some true, some (.type "type"), some true)
theorem ox_of {K : PySem.W.Frag} {newId : String} {bmB : List Value} {C : Addr} (h : oxT K newId bmB C = oxE) : OxC K C newId bmB ∧ OxI K C := by
  simp only [oxT, oxE, Prod.mk.injEq] at h
  obtain ⟨⟨h1, h2, h3, h4⟩, ⟨h5, h6, h7, h8⟩, h9, h10, h11⟩ := h
  exact ⟨⟨h1, h2, h3, h5, h6, h7, h9, h10, h4⟩, h8, h11⟩
structure Facts01 (K : PySem.W.Frag) : Prop where
  g_figures_of : PySem.W.nsIn K mainGlobals "figures_of" = some (some (.ref 161))
  f_figures_of : ∃ fd, Fun K "figures_of" "figures_of" sFig 161 fd
  g_read_figures : PySem.W.nsIn K mainGlobals "read_figures" = some (some (.ref 166))
  f_read_figures : ∃ fd, Fun K "read_figures" "read_figures" s_read_figures 166 fd
  g_is_number : PySem.W.nsIn K mainGlobals "is_number" = some (some (.ref 173))
  f_is_number : ∃ fd, Fun K "is_number" "is_number" sIsNumber 173 fd
  g_is_at_least : PySem.W.nsIn K mainGlobals "is_at_least" = some (some (.ref 180))
  f_is_at_least : ∃ fd, Fun K "is_at_least" "is_at_least" sIsAtLeast 180 fd
  g_is_name : PySem.W.nsIn K mainGlobals "is_name" = some (some (.ref 185))
  f_is_name : ∃ fd, Fun K "is_name" "is_name" sIsName 185 fd
  g_plain_name : PySem.W.nsIn K mainGlobals "plain_name" = some (some (.ref 192))
  f_plain_name : ∃ fd, Fun K "plain_name" "plain_name" sPlainName 192 fd
  g_is_pair : PySem.W.nsIn K mainGlobals "is_pair" = some (some (.ref 199))
  f_is_pair : ∃ fd, Fun K "is_pair" "is_pair" sIsPair 199 fd
  g_wrong_pair_at : PySem.W.nsIn K mainGlobals "wrong_pair_at" = some (some (.ref 206))
  f_wrong_pair_at : ∃ fd, Fun K "wrong_pair_at" "wrong_pair_at" sWrong 206 fd
  g_are_ascending : PySem.W.nsIn K mainGlobals "are_ascending" = some (some (.ref 213))
  f_are_ascending : ∃ fd, Fun K "are_ascending" "are_ascending" s_are_ascending 213 fd
  g_by_name : PySem.W.nsIn K mainGlobals "by_name" = some (some (.ref 218))
  f_by_name : ∃ fd, Fun K "by_name" "by_name" sByName 218 fd
  g_plain_pairs : PySem.W.nsIn K mainGlobals "plain_pairs" = some (some (.ref 223))
  f_plain_pairs : ∃ fd, Fun K "plain_pairs" "plain_pairs" sPlainPairs 223 fd
  g_pairs_text : PySem.W.nsIn K mainGlobals "pairs_text" = some (some (.ref 264))
  f_pairs_text : ∃ fd, Fun K "pairs_text" "pairs_text" s_pairs_text 264 fd
  g_read_pairs : PySem.W.nsIn K mainGlobals "read_pairs" = some (some (.ref 269))
  f_read_pairs : ∃ fd, Fun K "read_pairs" "read_pairs" s_read_pairs 269 fd
  g_read_pair : PySem.W.nsIn K mainGlobals "read_pair" = some (some (.ref 276))
  f_read_pair : ∃ fd, Fun K "read_pair" "read_pair" s_read_pair 276 fd
  g__law_source : PySem.W.nsIn K mainGlobals "_law_source" = some (some (.ref 463))
  f__law_source : ∃ fd, Fun K "_law_source" "_law_source" sSource 463 fd
  g__law_pull : PySem.W.nsIn K mainGlobals "_law_pull" = some (some (.ref 470))
  f__law_pull : ∃ fd, Fun K "_law_pull" "_law_pull" sPull 470 fd
  g__law_tags : PySem.W.nsIn K mainGlobals "_law_tags" = some (some (.ref 475))
  f__law_tags : ∃ fd, Fun K "_law_tags" "_law_tags" s__law_tags 475 fd
  g__law_error : PySem.W.nsIn K mainGlobals "_law_error" = some (some (.ref 482))
  f__law_error : ∃ fd, Fun K "_law_error" "_law_error" s__law_error 482 fd
  g__law_count : PySem.W.nsIn K mainGlobals "_law_count" = some (some (.ref 489))
  f__law_count : ∃ fd, Fun K "_law_count" "_law_count" s__law_count 489 fd
  g__law_load : PySem.W.nsIn K mainGlobals "_law_load" = some (some (.ref 496))
  f__law_load : ∃ fd, Fun K "_law_load" "_law_load" s__law_load 496 fd
  g__law_shown_right : PySem.W.nsIn K mainGlobals "_law_shown_right" = some (some (.ref 501))
  f__law_shown_right : ∃ fd, Fun K "_law_shown_right" "_law_shown_right" s__law_shown_right 501 fd
  g_law : PySem.W.nsIn K mainGlobals "law" = some (some (.ref 518))
  f_law : ∃ fd, Fun K "law" "law" sLaw 518 fd
  g__law_bent_right : PySem.W.nsIn K mainGlobals "_law_bent_right" = some (some (.ref 508))
  f__law_bent_right : ∃ fd, FunC K "_law_bent_right" "_law_bent_right" s__law_bent_right 508 507 fd
  g__law_right : PySem.W.nsIn K mainGlobals "_law_right" = some (some (.ref 513))
  f__law_right : ∃ fd, FunC K "_law_right" "_law_right" s__law_right 513 512 fd
  g_Load : PySem.W.nsIn K mainGlobals "Load" = some (some (.ref 452))
  g_ValueFault : PySem.W.nsIn K mainGlobals "ValueFault" = some (some (.ref 24))
  b_isinstance : PySem.W.nsIn K mainGlobals "isinstance" = some none
  b_ValueError : PySem.W.nsIn K mainGlobals "ValueError" = some none
  b_repr : PySem.W.nsIn K mainGlobals "repr" = some none
  b_len : PySem.W.nsIn K mainGlobals "len" = some none
  b_all : PySem.W.nsIn K mainGlobals "all" = some none
  b_int : PySem.W.nsIn K mainGlobals "int" = some none
  b_abs : PySem.W.nsIn K mainGlobals "abs" = some none
  b_max : PySem.W.nsIn K mainGlobals "max" = some none
  b_min : PySem.W.nsIn K mainGlobals "min" = some none
  b_range : PySem.W.nsIn K mainGlobals "range" = some none
  b_bool : PySem.W.nsIn K mainGlobals "bool" = some none
  b_str : PySem.W.nsIn K mainGlobals "str" = some none
  b_tuple : PySem.W.nsIn K mainGlobals "tuple" = some none
  b_sorted : PySem.W.nsIn K mainGlobals "sorted" = some none
  b_enumerate : PySem.W.nsIn K mainGlobals "enumerate" = some none
  b_dict : PySem.W.nsIn K mainGlobals "dict" = some none
  b_any : PySem.W.nsIn K mainGlobals "any" = some none
  b_list : PySem.W.nsIn K mainGlobals "list" = some none
  b_sum : PySem.W.nsIn K mainGlobals "sum" = some none
  mLET : ∃ t, PySem.W.nsIn K mainGlobals "LETTERS" = some (some (.str "abcdefghijklmnopqrstuvwxyz" t))
  mSIG : ∃ t, PySem.W.nsIn K mainGlobals "SIGNS" = some (some (.str "abcdefghijklmnopqrstuvwxyz0123456789" t))
  mSN : ∃ t, PySem.W.nsIn K mainGlobals "MOST_SIGNS" = some (some (.int 8 t))
  mFIG : ∃ t, PySem.W.nsIn K mainGlobals "FIGURES" = some (some (.str "0123456789" t))
  mPC : ∃ t, PySem.W.nsIn K mainGlobals "PIECE" = some (some (.int 64 t))
  m_Init : ∃ fd, Fun K "__init__" "Load.__init__" sLoadInit 290 fd
  m_Of : ∃ fd, Fun K "of" "Load.of" sOf 297 fd
  m_Read : ∃ fd, Fun K "read" "Load.read" s_Load_read 307 fd
  m_Pairs : ∃ fd, Fun K "pairs" "Load.pairs" s_Load_pairs 317 fd
  m_Names : ∃ fd, Fun K "names" "Load.names" s_Load_names 323 fd
  m_Size : ∃ fd, Fun K "size" "Load.size" sSize 329 fd
  m_Get : ∃ fd, Fun K "__getitem__" "Load.__getitem__" s_Load___getitem__ 337 fd
  m_In : ∃ fd, Fun K "__contains__" "Load.__contains__" s_Load___contains__ 351 fd
  m_Len : ∃ fd, Fun K "__len__" "Load.__len__" s_Load___len__ 358 fd
  m_Eq : ∃ fd, Fun K "__eq__" "Load.__eq__" s_Load___eq__ 435 fd
  m_Str : ∃ fd, Fun K "__str__" "Load.__str__" s_Load___str__ 442 fd
  m_Repr : ∃ fd, Fun K "__repr__" "Load.__repr__" sRepr 449 fd
  s_Of : SMet K 452 (.type "type") "of" 299 297
  s_Read : SMet K 452 (.type "type") "read" 309 307
  p_Pairs : PropOf K 452 "pairs" 318 317
  p_Names : PropOf K 452 "names" 324 323
  p_Size : PropOf K 452 "size" 330 329
  lc : LoadC K 452
  mkk : Mk K 452 290
  og : OxG K
  h_Get : PySem.W.findIn K (.ref 452) "__getitem__" = some (some (.ref 337))
  q_Get : PySem.W.isFn K (.ref 337) = true
  h_In : PySem.W.findIn K (.ref 452) "__contains__" = some (some (.ref 351))
  q_In : PySem.W.isFn K (.ref 351) = true
  h_Len : PySem.W.findIn K (.ref 452) "__len__" = some (some (.ref 358))
  q_Len : PySem.W.isFn K (.ref 358) = true
  h_Eq : PySem.W.findIn K (.ref 452) "__eq__" = some (some (.ref 435))
  q_Eq : PySem.W.isFn K (.ref 435) = true
  h_Str : PySem.W.findIn K (.ref 452) "__str__" = some (some (.ref 442))
  q_Str : PySem.W.isFn K (.ref 442) = true
  h_Repr : PySem.W.findIn K (.ref 452) "__repr__" = some (some (.ref 449))
  q_Repr : PySem.W.isFn K (.ref 449) = true
  rG : PySem.W.fnIn K 337 = true
  nB : PySem.W.findIn K (.ref 452) "__bool__" = some none
  ne : PySem.W.findIn K (.ref 452) "__ne__" = some (some (.builtin "object.__ne__"))
  sO : PySem.W.subIn K (.ref 452) (.type "object") = some true
  kn_NoneType : PySem.W.kitOne K (.type "NoneType") (.ref 452) = some false
  kf_NoneType : PySem.W.notFirst K 452 (.type "NoneType") = true
  kn_int : PySem.W.kitOne K (.type "int") (.ref 452) = some false
  kf_int : PySem.W.notFirst K 452 (.type "int") = true
  kn_str : PySem.W.kitOne K (.type "str") (.ref 452) = some false
  kf_str : PySem.W.notFirst K 452 (.type "str") = true
  kn_tuple : PySem.W.kitOne K (.type "tuple") (.ref 452) = some false
  kf_tuple : PySem.W.notFirst K 452 (.type "tuple") = true
  kn_list : PySem.W.kitOne K (.type "list") (.ref 452) = some false
  kf_list : PySem.W.notFirst K 452 (.type "list") = true
  kn_dict : PySem.W.kitOne K (.type "dict") (.ref 452) = some false
  kf_dict : PySem.W.notFirst K 452 (.type "dict") = true
  kfC : PySem.W.notFirst K 452 (.ref 452) = true
  g_InvalidPairs : PySem.W.nsIn K mainGlobals "InvalidPairs" = some (some (.ref 133))
  m_xInvalidPairs : ∃ fd, Fun K "__init__" "InvalidPairs.__init__" s_InvalidPairs___init__ 130 fd
  ox_InvalidPairs : oxT K "ValueError.__new__" (bmOf "ValueError") 133 = oxE
  fi_InvalidPairs : PySem.W.findIn K (.ref 133) "__init__" = some (some (.ref 130))
  ty_InvalidPairs : PySem.W.typeIn K (.ref 130) = some (.type "function")
  no_InvalidPairs : PySem.W.findIn K (.ref 133) "index" = some none
  k1P : PySem.W.kitOne K (.ref 133) (.ref 24) = some true
  k2P : PySem.W.kitOne K (.ref 133) (.type "ValueError") = some true
  g_InvalidText : PySem.W.nsIn K mainGlobals "InvalidText" = some (some (.ref 95))
  m_xInvalidText : ∃ fd, Fun K "__init__" "InvalidText.__init__" s_InvalidText___init__ 92 fd
  ox_InvalidText : oxT K "ValueError.__new__" (bmOf "ValueError") 95 = oxE
  fi_InvalidText : PySem.W.findIn K (.ref 95) "__init__" = some (some (.ref 92))
  ty_InvalidText : PySem.W.typeIn K (.ref 92) = some (.type "function")
  no_InvalidText : PySem.W.findIn K (.ref 95) "value" = some none
  k1T : PySem.W.kitOne K (.ref 95) (.ref 24) = some true
  k2T : PySem.W.kitOne K (.ref 95) (.type "ValueError") = some true
  g_InvalidName : PySem.W.nsIn K mainGlobals "InvalidName" = some (some (.ref 76))
  m_xInvalidName : ∃ fd, Fun K "__init__" "InvalidName.__init__" s_InvalidName___init__ 73 fd
  ox_InvalidName : oxT K "ValueError.__new__" (bmOf "ValueError") 76 = oxE
  fi_InvalidName : PySem.W.findIn K (.ref 76) "__init__" = some (some (.ref 73))
  ty_InvalidName : PySem.W.typeIn K (.ref 73) = some (.type "function")
  no_InvalidName : PySem.W.findIn K (.ref 76) "value" = some none
  k1N : PySem.W.kitOne K (.ref 76) (.ref 24) = some true
  k2N : PySem.W.kitOne K (.ref 76) (.type "ValueError") = some true
  ePP : PySem.W.exmOne K (.ref 133) (.ref 133) = some true
  eTP : PySem.W.exmOne K (.ref 95) (.ref 133) = some false
  eTT : PySem.W.exmOne K (.ref 95) (.ref 95) = some true
  eNP : PySem.W.exmOne K (.ref 76) (.ref 133) = some false
  eNT : PySem.W.exmOne K (.ref 76) (.ref 95) = some false
  eNN : PySem.W.exmOne K (.ref 76) (.ref 76) = some true
theorem main01 {P : Program} {w : World} {K : PySem.W.Frag} {h : Heap} {mg : Str → Option Value} {fa : Addr} (X : K.In h) (G : h.Ns mainGlobals mg) (hfa : mg "law" = some (.ref fa)) (Z : Facts01 K) :
    ∃ fd : FuncData, (∀ (s : Shared) (u : Value), BindsTo s fd ⟨[u], []⟩ [("_law_cells", u)]) ∧ ∀ base : Heap, K.In base → base.Ns mainGlobals mg → LamX.TabB base mg 507 503 → LamX.TabB base mg 512 510 → FnG P w K mg base CX0 51 fa fd ["_law_cells"] (spLawTT K (TT1 503 510)) := by
  have g_figures_of : mg "figures_of" = some (.ref 161) := PySem.W.mg_of X G Z.g_figures_of
  have g_read_figures : mg "read_figures" = some (.ref 166) := PySem.W.mg_of X G Z.g_read_figures
  have g_is_number : mg "is_number" = some (.ref 173) := PySem.W.mg_of X G Z.g_is_number
  have g_is_at_least : mg "is_at_least" = some (.ref 180) := PySem.W.mg_of X G Z.g_is_at_least
  have g_is_name : mg "is_name" = some (.ref 185) := PySem.W.mg_of X G Z.g_is_name
  have g_plain_name : mg "plain_name" = some (.ref 192) := PySem.W.mg_of X G Z.g_plain_name
  have g_is_pair : mg "is_pair" = some (.ref 199) := PySem.W.mg_of X G Z.g_is_pair
  have g_wrong_pair_at : mg "wrong_pair_at" = some (.ref 206) := PySem.W.mg_of X G Z.g_wrong_pair_at
  have g_are_ascending : mg "are_ascending" = some (.ref 213) := PySem.W.mg_of X G Z.g_are_ascending
  have g_by_name : mg "by_name" = some (.ref 218) := PySem.W.mg_of X G Z.g_by_name
  have g_plain_pairs : mg "plain_pairs" = some (.ref 223) := PySem.W.mg_of X G Z.g_plain_pairs
  have g_pairs_text : mg "pairs_text" = some (.ref 264) := PySem.W.mg_of X G Z.g_pairs_text
  have g_read_pairs : mg "read_pairs" = some (.ref 269) := PySem.W.mg_of X G Z.g_read_pairs
  have g_read_pair : mg "read_pair" = some (.ref 276) := PySem.W.mg_of X G Z.g_read_pair
  have g__law_source : mg "_law_source" = some (.ref 463) := PySem.W.mg_of X G Z.g__law_source
  have g__law_pull : mg "_law_pull" = some (.ref 470) := PySem.W.mg_of X G Z.g__law_pull
  have g__law_tags : mg "_law_tags" = some (.ref 475) := PySem.W.mg_of X G Z.g__law_tags
  have g__law_error : mg "_law_error" = some (.ref 482) := PySem.W.mg_of X G Z.g__law_error
  have g__law_count : mg "_law_count" = some (.ref 489) := PySem.W.mg_of X G Z.g__law_count
  have g__law_load : mg "_law_load" = some (.ref 496) := PySem.W.mg_of X G Z.g__law_load
  have g__law_shown_right : mg "_law_shown_right" = some (.ref 501) := PySem.W.mg_of X G Z.g__law_shown_right
  have g_law : mg "law" = some (.ref 518) := PySem.W.mg_of X G Z.g_law
  have g__law_bent_right : mg "_law_bent_right" = some (.ref 508) := PySem.W.mg_of X G Z.g__law_bent_right
  have g__law_right : mg "_law_right" = some (.ref 513) := PySem.W.mg_of X G Z.g__law_right
  have g_Load : mg "Load" = some (.ref 452) := PySem.W.mg_of X G Z.g_Load
  have g_ValueFault : mg "ValueFault" = some (.ref 24) := PySem.W.mg_of X G Z.g_ValueFault
  have b_isinstance : mg "isinstance" = none := PySem.W.mg_none_of X G Z.b_isinstance
  have b_ValueError : mg "ValueError" = none := PySem.W.mg_none_of X G Z.b_ValueError
  have b_repr : mg "repr" = none := PySem.W.mg_none_of X G Z.b_repr
  have b_len : mg "len" = none := PySem.W.mg_none_of X G Z.b_len
  have b_all : mg "all" = none := PySem.W.mg_none_of X G Z.b_all
  have b_int : mg "int" = none := PySem.W.mg_none_of X G Z.b_int
  have b_abs : mg "abs" = none := PySem.W.mg_none_of X G Z.b_abs
  have b_max : mg "max" = none := PySem.W.mg_none_of X G Z.b_max
  have b_min : mg "min" = none := PySem.W.mg_none_of X G Z.b_min
  have b_range : mg "range" = none := PySem.W.mg_none_of X G Z.b_range
  have b_bool : mg "bool" = none := PySem.W.mg_none_of X G Z.b_bool
  have b_str : mg "str" = none := PySem.W.mg_none_of X G Z.b_str
  have b_tuple : mg "tuple" = none := PySem.W.mg_none_of X G Z.b_tuple
  have b_sorted : mg "sorted" = none := PySem.W.mg_none_of X G Z.b_sorted
  have b_enumerate : mg "enumerate" = none := PySem.W.mg_none_of X G Z.b_enumerate
  have b_dict : mg "dict" = none := PySem.W.mg_none_of X G Z.b_dict
  have b_any : mg "any" = none := PySem.W.mg_none_of X G Z.b_any
  have b_list : mg "list" = none := PySem.W.mg_none_of X G Z.b_list
  have b_sum : mg "sum" = none := PySem.W.mg_none_of X G Z.b_sum
  have mLET : ∃ t, mg "LETTERS" = some (.str "abcdefghijklmnopqrstuvwxyz" t) := let ⟨t, e⟩ := Z.mLET; ⟨t, PySem.W.mg_of X G e⟩
  have mSIG : ∃ t, mg "SIGNS" = some (.str "abcdefghijklmnopqrstuvwxyz0123456789" t) := let ⟨t, e⟩ := Z.mSIG; ⟨t, PySem.W.mg_of X G e⟩
  have mSN : ∃ t, mg "MOST_SIGNS" = some (.int 8 t) := let ⟨t, e⟩ := Z.mSN; ⟨t, PySem.W.mg_of X G e⟩
  have mFIG : ∃ t, mg "FIGURES" = some (.str "0123456789" t) := let ⟨t, e⟩ := Z.mFIG; ⟨t, PySem.W.mg_of X G e⟩
  have mPC : ∃ t, mg "PIECE" = some (.int 64 t) := let ⟨t, e⟩ := Z.mPC; ⟨t, PySem.W.mg_of X G e⟩
  have g_InvalidPairs : mg "InvalidPairs" = some (.ref 133) := PySem.W.mg_of X G Z.g_InvalidPairs
  have g_InvalidText : mg "InvalidText" = some (.ref 95) := PySem.W.mg_of X G Z.g_InvalidText
  have g_InvalidName : mg "InvalidName" = some (.ref 76) := PySem.W.mg_of X G Z.g_InvalidName
  obtain rfl : fa = 518 := by
    have e := hfa.symm.trans g_law
    cases e
    rfl
  obtain ⟨d_figures_of, F_figures_of⟩ := Z.f_figures_of
  obtain ⟨d_read_figures, F_read_figures⟩ := Z.f_read_figures
  obtain ⟨d_is_number, F_is_number⟩ := Z.f_is_number
  obtain ⟨d_is_at_least, F_is_at_least⟩ := Z.f_is_at_least
  obtain ⟨d_is_name, F_is_name⟩ := Z.f_is_name
  obtain ⟨d_plain_name, F_plain_name⟩ := Z.f_plain_name
  obtain ⟨d_is_pair, F_is_pair⟩ := Z.f_is_pair
  obtain ⟨d_wrong_pair_at, F_wrong_pair_at⟩ := Z.f_wrong_pair_at
  obtain ⟨d_are_ascending, F_are_ascending⟩ := Z.f_are_ascending
  obtain ⟨d_by_name, F_by_name⟩ := Z.f_by_name
  obtain ⟨d_plain_pairs, F_plain_pairs⟩ := Z.f_plain_pairs
  obtain ⟨d_pairs_text, F_pairs_text⟩ := Z.f_pairs_text
  obtain ⟨d_read_pairs, F_read_pairs⟩ := Z.f_read_pairs
  obtain ⟨d_read_pair, F_read_pair⟩ := Z.f_read_pair
  obtain ⟨d__law_source, F__law_source⟩ := Z.f__law_source
  obtain ⟨d__law_pull, F__law_pull⟩ := Z.f__law_pull
  obtain ⟨d__law_tags, F__law_tags⟩ := Z.f__law_tags
  obtain ⟨d__law_error, F__law_error⟩ := Z.f__law_error
  obtain ⟨d__law_count, F__law_count⟩ := Z.f__law_count
  obtain ⟨d__law_load, F__law_load⟩ := Z.f__law_load
  obtain ⟨d__law_shown_right, F__law_shown_right⟩ := Z.f__law_shown_right
  obtain ⟨d_law, F_law⟩ := Z.f_law
  obtain ⟨d__law_bent_right, F__law_bent_right⟩ := Z.f__law_bent_right
  obtain ⟨d__law_right, F__law_right⟩ := Z.f__law_right
  obtain ⟨d_Init, F_Init⟩ := Z.m_Init
  obtain ⟨d_Of, F_Of⟩ := Z.m_Of
  obtain ⟨d_Read, F_Read⟩ := Z.m_Read
  obtain ⟨d_Pairs, F_Pairs⟩ := Z.m_Pairs
  obtain ⟨d_Names, F_Names⟩ := Z.m_Names
  obtain ⟨d_Size, F_Size⟩ := Z.m_Size
  obtain ⟨d_Get, F_Get⟩ := Z.m_Get
  obtain ⟨d_In, F_In⟩ := Z.m_In
  obtain ⟨d_Len, F_Len⟩ := Z.m_Len
  obtain ⟨d_Eq, F_Eq⟩ := Z.m_Eq
  obtain ⟨d_Str, F_Str⟩ := Z.m_Str
  obtain ⟨d_Repr, F_Repr⟩ := Z.m_Repr
  obtain ⟨d_xInvalidPairs, F_xInvalidPairs⟩ := Z.m_xInvalidPairs
  have o_InvalidPairs := ox_of Z.ox_InvalidPairs
  obtain ⟨d_xInvalidText, F_xInvalidText⟩ := Z.m_xInvalidText
  have o_InvalidText := ox_of Z.ox_InvalidText
  obtain ⟨d_xInvalidName, F_xInvalidName⟩ := Z.m_xInvalidName
  have o_InvalidName := ox_of Z.ox_InvalidName
  refine ⟨d_law, fun s u => ?_, fun base _ _ TB1 TB2 => ?_⟩
  · obtain ⟨oc, od, kV, doc, pm, an, cdv, ct, osl, e, _⟩ := F_law.ex
    subst e
    exact .of_eq rfl
  have BN : BltN mg := ⟨b_isinstance, b_int, b_bool, b_str, b_tuple, b_len, b_all, mLET, mSIG, mSN⟩
  have BS : BltS mg := ⟨b_sorted, b_str, b_tuple, b_int⟩
  have BL : Blt mg := ⟨b_len, b_int, b_abs⟩
  have BT : BltT mg := ⟨b_range, b_len, b_list, b_int, b_any, b_min⟩
  have BF : FigN mg := ⟨b_all, b_len, b_int, b_range, mFIG, mPC⟩
  have cl := Z.lc.ic.cl
  let C_figures_of : Cal P w K mg base _ "figures_of" ["number"] _ := ⟨161, d_figures_of, ok_fig F_figures_of b_str, g_figures_of, F_figures_of.kp, (F_figures_of.binds (ps := ["number"]) fun _ _ _ _ _ _ us hl => match us, hl with | [_], _ => rfl)⟩
  let C_read_figures : Cal P w K mg base _ "read_figures" ["text"] _ := ⟨166, d_read_figures, ok_rf F_read_figures BF, g_read_figures, F_read_figures.kp, (F_read_figures.binds (ps := ["text"]) fun _ _ _ _ _ _ us hl => match us, hl with | [_], _ => rfl)⟩
  let C_is_number : Cal P w K mg base _ "is_number" ["value"] _ := ⟨173, d_is_number, ok_isNumber F_is_number BN, g_is_number, F_is_number.kp, (F_is_number.binds (ps := ["value"]) fun _ _ _ _ _ _ us hl => match us, hl with | [_], _ => rfl)⟩
  let C_is_at_least : Cal P w K mg base _ "is_at_least" ["value", "least"] _ := ⟨180, d_is_at_least, ok_isAtLeast F_is_at_least C_is_number, g_is_at_least, F_is_at_least.kp, (F_is_at_least.binds (ps := ["value", "least"]) fun _ _ _ _ _ _ us hl => match us, hl with | [_, _], _ => rfl)⟩
  let C_is_name : Cal P w K mg base _ "is_name" ["value"] _ := ⟨185, d_is_name, ok_isName F_is_name BN, g_is_name, F_is_name.kp, (F_is_name.binds (ps := ["value"]) fun _ _ _ _ _ _ us hl => match us, hl with | [_], _ => rfl)⟩
  let C_plain_name : Cal P w K mg base _ "plain_name" ["name"] _ := ⟨192, d_plain_name, ok_plainName F_plain_name, g_plain_name, F_plain_name.kp, (F_plain_name.binds (ps := ["name"]) fun _ _ _ _ _ _ us hl => match us, hl with | [_], _ => rfl)⟩
  let C_is_pair : Cal P w K mg base _ "is_pair" ["value"] _ := ⟨199, d_is_pair, ok_isPair F_is_pair BN C_is_name C_is_at_least, g_is_pair, F_is_pair.kp, (F_is_pair.binds (ps := ["value"]) fun _ _ _ _ _ _ us hl => match us, hl with | [_], _ => rfl)⟩
  let C_wrong_pair_at : Cal P w K mg base _ "wrong_pair_at" ["pairs"] _ := ⟨206, d_wrong_pair_at, ok_wrong F_wrong_pair_at b_enumerate C_is_pair, g_wrong_pair_at, F_wrong_pair_at.kp, (F_wrong_pair_at.binds (ps := ["pairs"]) fun _ _ _ _ _ _ us hl => match us, hl with | [_], _ => rfl)⟩
  let C_are_ascending : Cal P w K mg base _ "are_ascending" ["pairs"] _ := ⟨213, d_are_ascending, ok_asc F_are_ascending C_is_pair, g_are_ascending, F_are_ascending.kp, (F_are_ascending.binds (ps := ["pairs"]) fun _ _ _ _ _ _ us hl => match us, hl with | [_], _ => rfl)⟩
  let C_by_name : Cal P w K mg base _ "by_name" ["counts"] _ := ⟨218, d_by_name, ok_byName F_by_name BS, g_by_name, F_by_name.kp, (F_by_name.binds (ps := ["counts"]) fun _ _ _ _ _ _ us hl => match us, hl with | [_], _ => rfl)⟩
  let C_plain_pairs : Cal P w K mg base _ "plain_pairs" ["pairs"] _ := ⟨223, d_plain_pairs, ok_plainPairs F_plain_pairs BS C_plain_name C_by_name, g_plain_pairs, F_plain_pairs.kp, (F_plain_pairs.binds (ps := ["pairs"]) fun _ _ _ _ _ _ us hl => match us, hl with | [_], _ => rfl)⟩
  let C_pairs_text : Cal P w K mg base _ "pairs_text" ["pairs"] _ := ⟨264, d_pairs_text, ok_ptx F_pairs_text C_figures_of, g_pairs_text, F_pairs_text.kp, (F_pairs_text.binds (ps := ["pairs"]) fun _ _ _ _ _ _ us hl => match us, hl with | [_], _ => rfl)⟩
  let C_read_pair : Cal P w K mg base _ "read_pair" ["text"] _ := ⟨276, d_read_pair, ok_part F_read_pair C_read_figures, g_read_pair, F_read_pair.kp, (F_read_pair.binds (ps := ["text"]) fun _ _ _ _ _ _ us hl => match us, hl with | [_], _ => rfl)⟩
  let C_read_pairs : Cal P w K mg base _ "read_pairs" ["text"] _ := ⟨269, d_read_pairs, ok_readPairs F_read_pairs b_tuple C_read_pair C_are_ascending, g_read_pairs, F_read_pairs.kp, (F_read_pairs.binds (ps := ["text"]) fun _ _ _ _ _ _ us hl => match us, hl with | [_], _ => rfl)⟩
  have e_InvalidPairs : XCls P w K mg base "InvalidPairs" 133 130 "ValueError" "ValueError.__new__" "ValueError.__init__" (bmOf "ValueError") ["self", "index"] (spI1 133 "index") d_xInvalidPairs := ⟨PySem.F.excBase_ValueError, tailV, o_InvalidPairs.1, o_InvalidPairs.2, Z.fi_InvalidPairs, Z.ty_InvalidPairs, okI_InvalidPairs F_xInvalidPairs tailV o_InvalidPairs.1 Z.no_InvalidPairs, bdI_InvalidPairs F_xInvalidPairs, g_InvalidPairs⟩
  have e_InvalidText : XCls P w K mg base "InvalidText" 95 92 "ValueError" "ValueError.__new__" "ValueError.__init__" (bmOf "ValueError") ["self", "value"] (spI1 95 "value") d_xInvalidText := ⟨PySem.F.excBase_ValueError, tailV, o_InvalidText.1, o_InvalidText.2, Z.fi_InvalidText, Z.ty_InvalidText, okI_InvalidText F_xInvalidText tailV o_InvalidText.1 Z.no_InvalidText, bdI_InvalidText F_xInvalidText, g_InvalidText⟩
  have e_InvalidName : XCls P w K mg base "InvalidName" 76 73 "ValueError" "ValueError.__new__" "ValueError.__init__" (bmOf "ValueError") ["self", "value"] (spI1 76 "value") d_xInvalidName := ⟨PySem.F.excBase_ValueError, tailV, o_InvalidName.1, o_InvalidName.2, Z.fi_InvalidName, Z.ty_InvalidName, okI_InvalidName F_xInvalidName tailV o_InvalidName.1 Z.no_InvalidName, bdI_InvalidName F_xInvalidName, g_InvalidName⟩
  have LX := ok_loadInitX (P := P) (w := w) (mg := mg) (base := base) F_Init e_InvalidPairs cl Z.lc.n1 Z.lc.n2 b_dict C_wrong_pair_at C_plain_pairs
  have LO := ok_of (P := P) (w := w) (mg := mg) (base := base) F_Of BN e_InvalidPairs Z.mkk g_Load LX
  have LR := ok_read (P := P) (w := w) (mg := mg) (base := base) F_Read BN e_InvalidText Z.mkk g_Load LX C_read_pairs
  have lP := ok_pairsL (P := P) (w := w) (mg := mg) (base := base) F_Pairs Z.lc
  have lN := ok_names (P := P) (w := w) (mg := mg) (base := base) F_Names Z.lc b_tuple
  have lS := ok_size (P := P) (w := w) (mg := mg) (base := base) F_Size cl Z.lc.n1 b_sum
  have lL := ok_lenL (P := P) (w := w) (mg := mg) (base := base) F_Len Z.lc b_len
  have lI := ok_inL (P := P) (w := w) (mg := mg) (base := base) F_In Z.lc C_is_name
  have lG := ok_get (P := P) (w := w) (mg := mg) (base := base) F_Get Z.lc e_InvalidName C_is_name
  have lT := ok_strL (P := P) (w := w) (mg := mg) (base := base) F_Str Z.lc b_str C_pairs_text
  have lE := ok_eqL (P := P) (w := w) (mg := mg) (base := base) F_Eq Z.lc b_isinstance g_Load
  have bO := (F_Of.binds (ps := ["pairs"]) fun _ _ _ _ _ _ us hl => match us, hl with | [_], _ => rfl)
  have bR := (F_Read.binds (ps := ["text"]) fun _ _ _ _ _ _ us hl => match us, hl with | [_], _ => rfl)
  have bPairs := (F_Pairs.binds (ps := ["self"]) fun _ _ _ _ _ _ us hl => match us, hl with | [_], _ => rfl)
  have bNames := (F_Names.binds (ps := ["self"]) fun _ _ _ _ _ _ us hl => match us, hl with | [_], _ => rfl)
  have bSize := (F_Size.binds (ps := ["self"]) fun _ _ _ _ _ _ us hl => match us, hl with | [_], _ => rfl)
  have bLen := (F_Len.binds (ps := ["self"]) fun _ _ _ _ _ _ us hl => match us, hl with | [_], _ => rfl)
  have bStr := (F_Str.binds (ps := ["self"]) fun _ _ _ _ _ _ us hl => match us, hl with | [_], _ => rfl)
  have bRepr := (F_Repr.binds (ps := ["self"]) fun _ _ _ _ _ _ us hl => match us, hl with | [_], _ => rfl)
  have bIn := (F_In.binds (ps := ["self", "x"]) fun _ _ _ _ _ _ us hl => match us, hl with | [_, _], _ => rfl)
  have bGet := (F_Get.binds (ps := ["self", "at"]) fun _ _ _ _ _ _ us hl => match us, hl with | [_, _], _ => rfl)
  have bEq := (F_Eq.binds (ps := ["self", "other"]) fun _ _ _ _ _ _ us hl => match us, hl with | [_, _], _ => rfl)
  have lR := ok_repr (P := P) (w := w) (mg := mg) (base := base) F_Repr cl Z.lc.n1 b_len Z.p_Size lS bSize C_figures_of
  have rL : FnR P w K mg base (CX0) 1 358 (spLenL 452) := (lL.raw bLen .nil).imp fun vs H Q E h => by
    show (spLenL 452) (vs ++ []) H Q E
    rw [List.append_nil]
    exact h
  have rI : FnR P w K mg base (CX0) 2 351 (spInL K 452) := (lI.raw bIn .nil).imp fun vs H Q E h => by
    show (spInL K 452) (vs ++ []) H Q E
    rw [List.append_nil]
    exact h
  have rGt : FnR P w K mg base (L2.CX P w) 3 337 (spGet K 452 76) := (lG.raw bGet .nil).imp fun vs H Q E h => by
    show (spGet K 452 76) (vs ++ []) H Q E
    rw [List.append_nil]
    exact h
  have rR : FnR P w K mg base (CX0) 3 449 (spRepr 452) := (lR.raw bRepr .nil).imp fun vs H Q E h => by
    show (spRepr 452) (vs ++ []) H Q E
    rw [List.append_nil]
    exact h
  have rT : FnR P w K mg base (CX0) 3 442 (spStrL 452) := (lT.raw bStr .nil).imp fun vs H Q E h => by
    show (spStrL 452) (vs ++ []) H Q E
    rw [List.append_nil]
    exact h
  have rE : FnR P w K mg base (L2.CX P w) 2 435 (spEqL K 452) := (lE.raw bEq .nil).imp fun vs H Q E h => by
    show (spEqL K 452) (vs ++ []) H Q E
    rw [List.append_nil]
    exact h
  have kO : KBinds K d_Of ["pairs"] ["pairs"] (fun us ws => us ++ ws) (fun us ws => us ++ ws) := by
    obtain ⟨oc, od, kV, doc, pm, an, cdv, ct, osl, e, _⟩ := F_Of.ex
    subst e
    refine ⟨fun s us ws _ hl => ?_, fun r1 r2 => r1.append r2⟩
    match us, ws, hl with
    | [a], [], _ => exact .of_eq rfl
    | [], [a], _ => exact .of_eq rfl
  have kR : KBinds K d_Read ["text"] ["text"] (fun us ws => us ++ ws) (fun us ws => us ++ ws) := by
    obtain ⟨oc, od, kV, doc, pm, an, cdv, ct, osl, e, _⟩ := F_Read.ex
    subst e
    refine ⟨fun s us ws _ hl => ?_, fun r1 r2 => r1.append r2⟩
    match us, ws, hl with
    | [a], [], _ => exact .of_eq rfl
    | [], [a], _ => exact .of_eq rfl
  have nE : NeC K 452 435 := ⟨Z.ne, Z.sO, Z.h_Eq, Z.q_Eq⟩
  let C__law_source : Cal P w K mg base _ "_law_source" ["_law_cells", "_law_turn"] _ := ⟨463, d__law_source, ok_source F__law_source BL, g__law_source, F__law_source.kp, (F__law_source.binds (ps := ["_law_cells", "_law_turn"]) fun _ _ _ _ _ _ us hl => match us, hl with | [_, _], _ => rfl)⟩
  let C__law_pull : Cal P w K mg base _ "_law_pull" ["_law_source_here", "_law_width"] _ := ⟨470, d__law_pull, ok_pull F__law_pull BL, g__law_pull, F__law_pull.kp, (F__law_pull.binds (ps := ["_law_source_here", "_law_width"]) fun _ _ _ _ _ _ us hl => match us, hl with | [_, _], _ => rfl)⟩
  let C__law_tags : Cal P w K mg base _ "_law_tags" ["_law_source_here", "_law_many"] _ := ⟨475, d__law_tags, ok_tags F__law_tags BT C__law_pull, g__law_tags, F__law_tags.kp, (F__law_tags.binds (ps := ["_law_source_here", "_law_many"]) fun _ _ _ _ _ _ us hl => match us, hl with | [_, _], _ => rfl)⟩
  let C__law_count : Cal P w K mg base _ "_law_count" ["_law_source_here"] _ := ⟨489, d__law_count, ok_count F__law_count C__law_pull, g__law_count, F__law_count.kp, (F__law_count.binds (ps := ["_law_source_here"]) fun _ _ _ _ _ _ us hl => match us, hl with | [_], _ => rfl)⟩
  let C__law_load : Cal P w K mg base _ "_law_load" ["_law_rows"] _ := ⟨496, d__law_load, ok_loadR F__law_load b_tuple b_len g_Load Z.mkk LX Z.s_Of LO bO, g__law_load, F__law_load.kp, (F__law_load.binds (ps := ["_law_rows"]) fun _ _ _ _ _ _ us hl => match us, hl with | [_], _ => rfl)⟩
  have EK : ErrK1 K mg 133 95 76 24 := {
    G := Z.og, eP := ⟨⟨_, _, o_InvalidPairs.1⟩, o_InvalidPairs.2, Z.no_InvalidPairs, Z.k1P, Z.k2P⟩, eT := ⟨⟨_, _, o_InvalidText.1⟩, o_InvalidText.2, Z.no_InvalidText, Z.k1T, Z.k2T⟩, eN := ⟨⟨_, _, o_InvalidName.1⟩, o_InvalidName.2, Z.no_InvalidName, Z.k1N, Z.k2N⟩
    mP := g_InvalidPairs, mT := g_InvalidText, mN := g_InvalidName, mV := g_ValueFault, isi := b_isinstance, bV := b_ValueError
    PP := Z.ePP, TP := Z.eTP, TT := Z.eTT, NP := Z.eNP, NT := Z.eNT, NN := Z.eNN }
  let LM : LamK1 K mg 133 95 76 24 := ⟨482, d__law_error, F__law_error, g__law_error, (F__law_error.binds (ps := ["_law_ask"]) fun _ _ _ _ _ _ us hl => match us, hl with | [_], _ => rfl), EK⟩
  let SK : ShK P w K mg base 452 133 95 76 317 323 329 358 351 337 449 442 435 297 307 := {
    c := Z.lc, mL := g_Load, pP := _, dP := _, hP := Z.p_Pairs, fP := lP, bP := bPairs, pN := _, dN := _, hN := Z.p_Names, fN := lN, bN := bNames, pS := _, dS := _, hS := Z.p_Size, fS := lS, bS := bSize
    hL := Z.h_Len, nB := Z.nB, qL := Z.q_Len, fL := rL, hI := Z.h_In, qI := Z.q_In, fI := rI, hG := Z.h_Get, rG := Z.rG, qG := Z.q_Get, fG := rGt, hR := Z.h_Repr, qR := Z.q_Repr, fR := rR, hT := Z.h_Str, qT := Z.q_Str, fT := rT
    ne := nE, fE := rE, mc := _, pO := _, dO := _, sO := Z.s_Of, fO := LO, bO := bO, pR := _, dR := _, sR := Z.s_Read, fRd := LR, bR := bR, kR := kR, kO := kO
    sorted := b_sorted, str := b_str, dict := b_dict, sum := b_sum, len := b_len, repr := b_repr, bool := b_bool, tuple := b_tuple }
  have ne12 : (503 : Addr) ≠ 510 := by decide
  have SH := ok_shown F__law_shown_right (P := P) (w := w) (mg := mg) (base := base) SK
  have bSH := (F__law_shown_right.binds (ps := ["_law_load_here", "_law_rows", "_law_spare"]) fun _ _ _ _ _ _ us hl => match us, hl with | [_, _, _], _ => rfl)
  have BE := ok_bent F__law_bent_right (P := P) (w := w) (mg := mg) (base := base) (t2 := 510) { S := SK, L := LM, pull := C__law_pull, M := Z.mkk, FL := LX } TB1 ne12
  have bBE : Binds K d__law_bent_right ["_law_source_here", "_law_rows", "_law_line"] [] := by
    obtain ⟨oc, od, kV, doc, pm, an, ct, osl, e, lk, hc⟩ := F__law_bent_right.ex
    exact (Fun.mk ⟨oc, od, kV, doc, pm, an, _, ct, osl, e, lk, hc⟩ F__law_bent_right.kp : Fun K "_law_bent_right" "_law_bent_right" s__law_bent_right 508 d__law_bent_right).binds (ps := ["_law_source_here", "_law_rows", "_law_line"]) fun _ _ _ _ _ _ us hl => match us, hl with | [_, _, _], _ => rfl
  have bRT : Binds K d__law_right ["_law_source_here"] [] := by
    obtain ⟨oc, od, kV, doc, pm, an, ct, osl, e, lk, hc⟩ := F__law_right.ex
    exact (Fun.mk ⟨oc, od, kV, doc, pm, an, _, ct, osl, e, lk, hc⟩ F__law_right.kp : Fun K "_law_right" "_law_right" s__law_right 513 d__law_right).binds (ps := ["_law_source_here"]) fun _ _ _ _ _ _ us hl => match us, hl with | [_], _ => rfl
  have RT := ok_right1 F__law_right (P := P) (w := w) (mg := mg) (base := base) (t1 := 503) { S := SK, L := LM, pull := C__law_pull, tags := C__law_tags, count := C__law_count, load := C__law_load, f_sh := _, d_sh := _, shown := SH, m_sh := g__law_shown_right, k_sh := F__law_shown_right.kp, b_sh := bSH, f_bt := _, d_bt := _, bent := BE, m_bt := g__law_bent_right, k_bt := F__law_bent_right.kp, b_bt := bBE, any := b_any, no := List.forall_mem_cons.mpr ⟨Z.kn_NoneType, List.forall_mem_cons.mpr ⟨Z.kn_int, List.forall_mem_cons.mpr ⟨Z.kn_str, List.forall_mem_cons.mpr ⟨Z.kn_tuple, List.forall_mem_cons.mpr ⟨Z.kn_list, List.forall_mem_cons.mpr ⟨Z.kn_dict, (fun _ z => nomatch z)⟩⟩⟩⟩⟩⟩, nf := List.forall_mem_cons.mpr ⟨Z.kf_NoneType, List.forall_mem_cons.mpr ⟨Z.kf_int, List.forall_mem_cons.mpr ⟨Z.kf_str, List.forall_mem_cons.mpr ⟨Z.kf_tuple, List.forall_mem_cons.mpr ⟨Z.kf_list, List.forall_mem_cons.mpr ⟨Z.kf_dict, (fun _ z => nomatch z)⟩⟩⟩⟩⟩⟩, nfC := Z.kfC } TB2 ne12
  exact ok_lawTT F_law { source := C__law_source, f_right := 513, d_right := d__law_right, right := RT, m_right := g__law_right, k_right := F__law_right.kp, b_right := bRT, len_ := b_len, all_ := b_all, max_ := b_max, min_ := b_min, range_ := b_range }
theorem fin01 {P : Program} {w : World} {mg : Str → Option Value} {fa : Addr} {h : Heap} {K : Params → PySem.W.Frag} (KI : (K w.params).In h) (TS1 : h.get? 503 = some { cls := Value.none, data := Data.fields #[] }) (TS2 : h.get? 510 = some { cls := Value.none, data := Data.fields #[] }) (G : h.Ns mainGlobals mg) (hm : mg "law" = some (.ref fa)) (Z : ∀ p, Facts01 (K p)) (kT : ∀ p, (K p).lookup 503 = none ∧ (K p).lookup 510 = none) (hC : ∀ p, CodeKT (K p) 507 503 ∧ CodeKT (K p) 512 510) :
    ∃ (K : PySem.W.Frag) (fd : FuncData) (sp : Sp), K.In h ∧ (∀ t, t = 503 ∨ t = 510 → h.get? t = some { cls := Value.none, data := Data.fields #[] }) ∧ (∀ t, t = 503 ∨ t = 510 → K.lookup t = none) ∧ PySem.W.CodeHd h 507 503 ∧ PySem.W.CodeHd h 512 510 ∧ (∀ (s : Shared) (u : Value), BindsTo s fd ⟨[u], []⟩ [("_law_cells", u)]) ∧
        (∀ (H : Hp) (a : Addr) (ns : List Int), ns.length ≤ 63 → (∀ t, t = 503 ∨ t = 510 → H t = some (.tbl #[])) → SqL K H a (ns.map V.int) → sp [.ref a] H (fun v _ => v = .bl true) fun _ _ _ => False) ∧
        ∀ base : Heap, K.In base → base.Ns mainGlobals mg → LamX.TabB base mg 507 503 → LamX.TabB base mg 512 510 → FnG P w K mg base CX0 51 fa fd ["_law_cells"] sp := by
  obtain ⟨fd, hb, hF⟩ := main01 (P := P) (w := w) KI G hm (Z w.params)
  refine ⟨_, fd, spLawTT _ (TT1 503 510), KI, fun t ht => ?_, fun t ht => ?_, (hC _).1.hd KI, (hC _).2.hd KI, hb, fun H a ns hl h1 hS => ⟨a, ns, rfl, hS, hl, tabs_new2 h1, fun _ => rfl⟩, hF⟩
  · rcases ht with rfl | rfl
    · exact TS1
    · exact TS2
  · rcases ht with rfl | rfl
    · exact (kT _).1
    · exact (kT _).2
end My
open PySem PySem.W PySem.Calls PyProof.Rows
set_option maxRecDepth 100000 in
set_option maxHeartbeats 0 in
theorem PySem.Challenge.cw_everyload_k01_loads_made_holds : PySem.Challenge.rw_everyload_k01_loads_made.Holds := by
  w_on; o_law; k_head; (case hw => w_witness2)
  k_fill
  refine My.walkGT2 (l := PySem.Challenge.rw_everyload_k01_loads_made) (n := 63) (k := 51) (x := "_law_cells") (c1 := 507) (t1 := 503) (c2 := 512) (t2 := 510) rfl (by decide) rfl ⟨rfl, by decide, by decide⟩ ?_
  intro w mg fa h Y G hmg0
  refine My.fin01 Y.1 (Y.2 503 (by simp)) (Y.2 510 (by simp)) G hmg0 (fun p => ?_) (fun p => ⟨rfl, rfl⟩) (fun p => ⟨⟨_, _, _, _, _, _, _, _, _, rfl, rfl, rfl, rfl, rfl, rfl, rfl, rfl, rfl, by decide⟩, ⟨_, _, _, _, _, _, _, _, _, rfl, rfl, rfl, rfl, rfl, rfl, rfl, rfl, rfl, by decide⟩⟩)
  constructor
  all_goals first
    | rfl
    | exact ⟨_, rfl⟩
    | exact ⟨_, rfl, rfl⟩
    | exact ⟨_, rfl, _, rfl, rfl⟩
    | exact ⟨_, ⟨⟨_, _, _, _, _, _, _, _, _, rfl, rfl, rfl⟩, rfl⟩⟩
    | exact ⟨_, ⟨⟨_, _, _, _, _, _, _, _, rfl, rfl, rfl⟩, rfl⟩⟩
    | exact ⟨⟨⟨rfl, rfl, rfl, rfl⟩, rfl, rfl, rfl, rfl, rfl⟩, rfl, rfl⟩
    | exact ⟨rfl, rfl, rfl, rfl⟩
    | exact ⟨rfl, rfl, rfl, ⟨_, rfl⟩, rfl⟩
    | exact ⟨rfl, rfl, rfl, ⟨_, rfl⟩⟩
    | exact ⟨rfl, rfl⟩

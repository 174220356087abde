import PyProof.Rows.All
import Wide.All
import OpenK.AllK
import Wide.FinOn
import KE.KExcInit
import HandS.ForMost
import HandS.Exc
import HandS.ExcInit
import HandS.ExcIs
import HandS.IsInst
import KE.KExcIs
import HandS.FStr
import HandS.FStrTup
import HandS.Wide
import HandS.Walk
import HandS.Flow
import HandS.Conv
import HandS.Zip
import HandS.NoneIn
import PySem.Challenge.RW_treethaw_k00_errors_and_limits
set_option Elab.async false
set_option linter.all false
set_option maxRecDepth 100000
set_option maxHeartbeats 4000000
namespace PySem
namespace EVX
open PySem.W PySem.Calls PyProof.Rows PySem.HandSPX Builtin Builtin.ObjectAttr
section
variable {prog : Program} {w : World} {A : Around} {R : Result → Shared → Prop} {hp : Heap}
variable {g : Array GenState} {d : Drawn} {t : Nat} {os : OsState} {B : String} {bmB : List Value}
/-- the first field of an exception object, whatever built-in class stands above its own -/
theorem first_field {K : Frag} {nm : Str} {tk : Tok} {v : Value} {x C : Addr} {fv : Array Value}
    (SF : StoreFacts B bmB "object.__setattr__" "object") (KI : K.In hp)
    (hx : hp.get? x = some { cls := .ref C, data := .fields fv })
    (ho : excOver K C bmB = true) (hh : hasDictIn K C = true) (ha : findIn K (.ref C) nm = some none)
    (hq : ∀ h' tk' dx, (∀ b o, b ≠ x → hp.get? b = some o → h'.get? b = some o) → hp.objs.size ≤ dx → dx ≠ x →
      h'.get? x = some { cls := .ref C, dict := some dx, data := .fields fv } →
      h'.Ns1 dx (fun y => if y = nm then some v else none) → R (.ok (.ret .none)) ⟨h', g, d, tk', os⟩) :
    codeAny (model prog w) A (.call (.builtin "object.__setattr__") ⟨[.ref x, .str nm tk, v], []⟩) R ⟨hp, g, d, t, os⟩ := by
  have far : x ≠ hp.objs.size := Nat.ne_of_lt (Heap.lt_size hx)
  obtain ⟨cd, hc, hd⟩ := any_some hh
  have here : Looks (model prog w) hp (classData C) cd := looks_clsIn KI hc
  refine osa_openX (s := ⟨hp, g, d, t, os⟩) (od := none) (r := none) SF KI ⟨hx, rfl, rfl, trivial⟩ ho (by unfold takerIn; rw [ha]; rfl) (fun b => ?_)
  show wpAny _ _ (storeInOwnDict (.ref x) (.ref C) (.str nm tk) nm v b) _ _ _
  obtain ⟨c1, c2, c3, c4, c5, c6, c7, c8, c9, c10, c11⟩ := cd
  dsimp only at hd
  subst hd
  unfold storeInOwnDict ownDictForStores
  repeat (first | with_reducible refine store_in_new ?_ ?_ | with_reducible refine wpAny_loadPart_at hx ?_ | with_reducible refine here.at ?_ | wp_step)
  · exact ⟨_, #[], _, (Heap.get?_update_ne _ _ _ _ far.symm).trans (Heap.get?_push_at rfl rfl),
      rfl, fun e he => absurd he (by simp), fun _ => rfl⟩
  · intro h' tk' hn same
    have old : (hp.push { cls := .type "dict", data := .dict #[] }).get? x = some { cls := .ref C, data := .fields fv } := Heap.get?_push_of_some _ hx
    refine hq h' tk' hp.objs.size (fun b o hb e => ?_) (Nat.le_refl _) far.symm ?_ hn
    · have q1 := same.2 b (Nat.ne_of_lt (Heap.lt_size e))
      rw [q1, Heap.get?_update_ne _ _ _ _ hb]
      exact Heap.get?_push_of_some _ e
    · rw [same.2 x far]
      exact Heap.get?_update_self _ old rfl
end
end EVX
end PySem
set_option Elab.async false
set_option linter.all false
set_option maxRecDepth 100000
set_option maxHeartbeats 4000000
namespace PySem
namespace EVX
open PySem.W PySem.Calls PyProof.Rows PySem.HandSPX Builtin Builtin.ObjectAttr
section
variable {M : Model} {prog : Program} {w : World} {A : Around} {E : Value → Shared → Prop} {R : Result → Shared → Prop} {h : Heap}
variable {g : Array GenState} {d : Drawn} {t : Nat} {os : OsState} {nm q : Str} {C N : Addr} {bs bm bmB : List Value}
variable {hdct : Bool} {sn : List Str} {sub : List Value} {ab : Bool} {col : Option Bool} {dd : Option Addr}
variable {k0 k1 k2 k3 k5 : Option Value} {B newId initId : String} {kn : Str} {kv : Value}
/-- the look at the arguments of __new__, one keyword -/
theorem kw_look (F : ExcBaseFacts B newId initId bmB) (hT : ∀ T : String, bm.contains (.type T) = bmB.contains (.type T)) {Q : Unit → Shared → Prop}
    (hC : h.get? C = some (excClassObj nm q C N bs bm hdct sn sub ab col dd k0 k1 k2 k3 k5 newId)) (go : Q () ⟨h, g, d, t, os⟩) :
    wpAny M A (checkBuiltinCall newId ⟨[.ref C], [(kn, kv)]⟩) Q E ⟨h, g, d, t, os⟩ := by
  have inB : (Value.ref C :: bm).contains (.type B) = true := by
    rw [List.contains_cons, hT, F.hasB, Bool.or_true]
  have star := F.noStar
  simp only [checkBuiltinCall, F.newKind, F.newSplit, F.newRow]
  repeat (first | refine wpAny_loadPart_at hC ?_ | (refine wpAny_isSubtype_exc hC ?_; rw [inB]) | refine wpAny_staticBase_exc hC ?_ | refine wpAny_madeBy_exc hC ?_ | simp only [bne_self_eq_false, Bool.false_eq_true, if_false] | wp_step)
  exact go
theorem kw_new (F : ExcBaseFacts B newId initId bmB) (hT : ∀ T : String, bm.contains (.type T) = bmB.contains (.type T))
    (hC : h.get? C = some (excClassObj nm q C N bs bm hdct sn sub ab col dd k0 k1 k2 k3 k5 newId))
    (go : R (.ok (.ret (.ref (h.objs.size + 1)))) ⟨(h.push (W.kdv_tup [])).push (excO C h.objs.size), g, d, t, os⟩) :
    codeAny (model prog w) A (.builtin newId ⟨[.ref C], [(kn, kv)]⟩) R ⟨h, g, d, t, os⟩ := by
  have hends := F.ends
  have inB : (Value.ref C :: bm).contains (.type B) = true := by
    rw [List.contains_cons, hT, F.hasB, Bool.or_true]
  have noA : (Value.ref C :: bm).contains (.type "AttributeError") = false := by
    rw [List.contains_cons, hT, F.noAttr]; rfl
  have noN : (Value.ref C :: bm).contains (.type "NameError") = false := by
    rw [List.contains_cons, hT, F.noName]; rfl
  refine codeAny_builtinAt F.entry ?_
  unfold Builtin.«BaseException.__new__»
  refine wpAt_bind ?_
  show wpAt _ _ _ (stack >>= _) _ _ _
  refine wpAt_bind (wpAt_stack fun p below => wpAt_of_wpAny ?_)
  wp_walk
  refine wpAt_of_wpAny ?_
  rw [F.owner]
  repeat (first | with_reducible refine wpAny_madeHere_exc F.canon hC ?_ | with_reducible refine wpAny_loadPart_at hC ?_ | (with_reducible refine wpAny_isSubtype_exc hC ?_; first | rw [inB] | rw [noA] | rw [noN]) | wp_step)
  show R _ _
  rw [Heap.size_push]
  exact go
theorem kw_type {fI : Addr} {Q : Fin → Shared → Prop} (F : ExcBaseFacts B newId initId bmB) (hT : ∀ T : String, bm.contains (.type T) = bmB.contains (.type T))
    (hC : h.get? C = some (excClassObj nm q C N bs bm hdct sn sub ab col dd k0 k1 k2 k3 k5 newId))
    (hi : W.Looks (model prog w) h (typeLookup (.ref C) "__init__") (some (.ref fI))) (hb : ∀ self, W.Looks (model prog w) h (bindSpecial (.ref fI) self) (.ref fI, [self]))
    (go : codeAny (model prog w) A (.call (.ref fI) ⟨[.ref (h.objs.size + 1)], [(kn, kv)]⟩)
      (fun r s' => match r with | .ok (.ret v) => v = .none ∧ Q (.done (.ret (.ref (h.objs.size + 1)))) s' | .ok _ => False | .error e => E e s')
      ⟨(h.push (W.kdv_tup [])).push (excO C h.objs.size), g, d, t, os⟩) :
    wpAny (model prog w) A (Builtin.«type.__call__» ⟨[.ref C], [(kn, kv)]⟩) Q E ⟨h, g, d, t, os⟩ := by
  repeat (first | with_reducible refine wpAny_loadPart_at hC ?_ | with_reducible refine wpAny_madeBy_exc hC ?_ | wp_step)
  refine codeAny_call_builtin_code (Code.quiet_builtin _ F.quiet) (kw_look F hT hC ?_)
  refine kw_new F hT hC ?_
  show wpAny _ _ _ _ _ _
  have up : ∀ b o, h.get? b = some o → ((h.push (W.kdv_tup [])).push (excO C h.objs.size)).get? b = some o := fun b o e => Heap.get?_push_of_some _ (Heap.get?_push_of_some _ e)
  have hC1 := up _ _ hC
  have new : ((h.push (W.kdv_tup [])).push (excO C h.objs.size)).get? (h.objs.size + 1) = some (excO C h.objs.size) := by heap_get
  have inC : (Value.ref C :: bm).contains (.ref C) = true := by simp
  have i1 := hi.keeps up
  have b1 := (hb (.ref (h.objs.size + 1))).keeps up
  unfold isInstance
  repeat (first | with_reducible refine wpAny_loadPart_at new ?_ | (with_reducible refine wpAny_isSubtype_exc hC1 ?_; rw [inC]) | wp_step)
  show wpAny _ _ (typeLookup (.ref C) _) _ _ _
  refine i1.at (wpAny_holding (wpAny_bind (b1.at (wpAny_bind (wpAny_call (codeAny_mono go fun r s' z => ?_))))))
  rcases r with e | (v | _ | _ | _) <;> first | exact z | exact z.elim | skip
  obtain ⟨rfl, z⟩ := z
  first | exact wpAny_pure (wpAny_pure z) | (wp_walk; exact z)
/-- C(kn=kv), C an own exception class whose __init__ is the def at fI -/
theorem kw_call {fI : Addr} (F : ExcBaseFacts B newId initId bmB) (hT : ∀ T : String, bm.contains (.type T) = bmB.contains (.type T))
    (hC : h.get? C = some (excClassObj nm q C N bs bm hdct sn sub ab col dd k0 k1 k2 k3 k5 newId))
    (hi : W.Looks (model prog w) h (typeLookup (.ref C) "__init__") (some (.ref fI))) (hb : ∀ self, W.Looks (model prog w) h (bindSpecial (.ref fI) self) (.ref fI, [self]))
    (go : codeAny (model prog w) (A.under (.builtin "type.__call__" ⟨[.ref C], [(kn, kv)]⟩)) (.call (.ref fI) ⟨[.ref (h.objs.size + 1)], [(kn, kv)]⟩) (W.InitBack (h.objs.size + 1) R)
      ⟨(h.push (W.kdv_tup [])).push (excO C h.objs.size), g, d, t, os⟩) :
    codeAny (model prog w) A (.call (.ref C) ⟨[], [(kn, kv)]⟩) R ⟨h, g, d, t, os⟩ := by
  have f1 := tc_lookup
  have f2 := tc_bind (.ref C)
  have isT : (⟨h, g, d, t, os⟩ : Shared).TypeIs (.ref C) "type" := ⟨_, hC, rfl⟩
  refine codeAny_of_tree ?_
  show wpAny _ _ (callAny (.ref C) _) _ _ _
  repeat (any_goals (first | assumption | with_reducible refine wpAny_loadPart_at hC ?_ | wp_step))
  refine ⟨rfl, ?_⟩
  refine codeAny_call_builtin_at (Code.quiet_builtin _ (by decide +kernel)) entry_typeCall (wpAny_check_type_call_sub hC (kw_type F hT hC hi hb ?_))
  refine codeAny_mono go fun r s' z => ?_
  rcases r with e | (v | _ | _ | _) <;> exact z
end
end EVX
end PySem
set_option Elab.async false
set_option linter.all false
set_option maxRecDepth 100000
set_option maxHeartbeats 4000000
namespace L2
open PySem PySem.Spec PyProof.Rows
/-- what the written part says of an own exception class at C, its __init__ at fI -/
structure ExK (K : PySem.W.Frag) (C fI : Addr) (bmB : List Value) (newId : String) : Prop where
  ini : PySem.W.excInitIn K C bmB newId = true
  ovr : PySem.W.excOver K C bmB = true
  sat : PySem.W.findIn K (.ref C) "__setattr__" = some (some (.builtin "object.__setattr__"))
  own : PySem.W.findIn K (.ref C) "__init__" = some (some (.ref fI))
  fun_ : PySem.W.typeIn K (.ref fI) = some (.type "function")
  kep : PySem.W.keepIn K (.ref C) = true
  isc : ExcC K C
section
variable {X : Cx} {pins : List (Addr × Obj)} {σ : St} {H : Hp} {s : Shared} {a C fI : Addr} {f : Str} {y : V} {u : Value}
variable {bmB : List Value} {newId B initId : String} {A : Around} {E : Value → Shared → Prop}
/-- self.f = y, on an exception without fields -/
theorem xst_run {Q : Unit → Shared → Prop} (SF : StoreFacts B bmB "object.__setattr__" "object") (T : ExK X.K C fI bmB newId) (I : Inv X pins σ H s)
    (e : H a = some (exo a C none)) (hno : PySem.W.findIn X.K (.ref C) f = some none) (ry : RelV y u)
    (h : ∀ dx s', H dx = none → dx ≠ a → Inv X pins σ (upd (upd H dx (exd dx [(f, y)])) a (exo a C (some dx))) s' → Q () s') :
    wpAny (model X.prog X.w) A (setAttr (.ref a) f u) Q E s := by
  obtain ⟨t1, at_⟩ := exo_at I.hok e
  obtain ⟨hp, g, d, t, os⟩ := s
  refine PySem.W.set_plain (od := none) I.kIn ⟨at_, rfl, rfl, trivial⟩ T.sat ?_
  refine PySem.EVX.first_field SF I.kIn at_ T.ovr T.isc.hd hno (fun h' tk' dx k big ne hx hn => ?_)
  have nod : H dx = none := I.hok.fresh big
  have low : ∀ {b : Addr} {o : Obj}, hp.get? b = some o → b ≠ dx := fun {b o} z => Nat.ne_of_lt (Nat.lt_of_lt_of_le (Heap.lt_size z) big)
  have nota : ∀ {b : Addr}, H b = none → b ≠ a := fun {b} z q => by
    rw [q, e] at z
    cases z
  have moved : Un X.fs [] H (upd (upd H dx (exd dx [(f, y)])) a (exo a C (some dx))) hp h' :=
    { keep := fun b o z n _ _ => k b o (nota n) z
      slot := fun b o z n _ _ => ⟨o.slots, k b o (nota n) z⟩
      free := fun b o z n _ => by
        rw [upd_ne (nota n), upd_ne (low z)]
        exact n
      there := fun b o z _ => by
        by_cases hb : b = a
        · exact hb ▸ ⟨_, hx⟩
        · exact ⟨o, k b o hb z⟩
      tups := fun b xs z => by
        rw [upd_ne (at_ne e z exo_tup), upd_ne (ne_of_none z nod)]
        exact z
      frzs := fun b o v z => by
        rw [upd_ne (at_ne e z exo_frz), upd_ne (ne_of_none z nod)]
        exact z
      tbls := fun b ps z => ⟨#[], by
        rw [upd_ne (at_ne e z exo_tbl), upd_ne (ne_of_none z nod), z]
        simp⟩ }
  refine h dx _ nod ne (I.un (t' := tk') moved fun b o z => ?_)
  by_cases hb : b = a
  · subst hb
    rw [upd_same] at z
    cases z
    exact exo_ok hx
  · rw [upd_ne hb] at z
    by_cases hd : b = dx
    · subst hd
      rw [upd_same] at z
      cases z
      exact exd_ok hn (relO_put (fs := []) ry fun _ => True.intro)
    · rw [upd_ne hd] at z
      refine (I.hok b o z).stay (fun c v hc q => k c v ?_ q) (fun c hc => ?_) (fun c xs hc => ?_)
      · rcases hc with hc | hc
        · exact hc ▸ hb
        · exact at_ne e hc exo_own
      · rw [upd_ne (at_ne e hc exo_own), upd_ne (ne_of_none hc nod)]
        exact hc
      · rw [upd_ne (at_ne e hc exo_tup), upd_ne (ne_of_none hc nod)]
        exact hc
/-- Base.__init__(self, ..) on an exception without fields -/
theorem xinit_run {us : List Value} {Q : Value → Shared → Prop} (FB : ExcBaseFacts B newId initId bmB) (T : ExK X.K C fI bmB newId) (I : Inv X pins σ H s)
    (e : H a = some (exo a C none)) (hl : us.length ≤ sizeLine) (h : ∀ s', Inv X pins σ H s' → Q .none s') :
    wpAny (model X.prog X.w) A (call (.builtin initId) (.ref a :: us)) Q E s := by
  obtain ⟨_, _, _, _, _, _, _, _, _, _, _, _, _, _, _, _, hC, hT⟩ := PySem.W.excInit_of I.kIn T.ini
  obtain ⟨t1, at_⟩ := exo_at I.hok e
  obtain ⟨hp, g, d, t, os⟩ := s
  refine wpAny_call (PySem.HandSPX.init_base FB hT hC at_ hl fun h' t2 k hx => ?_)
  have J := I.write (t' := t) (x := a) (e := a) (o := exo a C none) (by rw [e]; exact True.intro) (.inl rfl) k ⟨_, hx⟩ (exo_ok hx)
  have same : upd H a (exo a C none) = H := funext fun b => by
    by_cases hb : b = a
    · rw [hb, upd_same, e]
    · rw [upd_ne hb]
  rw [same] at J
  exact h _ J
/-- C(..): an exception, then its __init__ -/
theorem xmk_run {Q : VK} {us : List Value} {vs : List V} {k : Nat} {fd : FuncData} {ps : List Str} {sp : Sp} (FB : ExcBaseFacts B newId initId bmB) (T : ExK X.K C fI bmB newId)
    (G : FnOk X.prog X.w X.K X.mg X.base CX0 k fI fd ps sp) (hr : Room (k + 1) X.A) (hb : Binds X.K fd ps []) (I : Inv X pins σ H s) (r : Vals vs us) (hz : vs.length ≤ 1000)
    (h : ∀ a, H a = none → sp (.ref a :: vs) (upd H a (exo a C none)) (fun v H2 => v = .non ∧ Q (.ref a) H2) E0) :
    wpAny (model X.prog X.w) X.A (call (.ref C) us) (EP X pins σ Q) X.xe s := by
  obtain ⟨_, _, _, _, _, _, _, _, _, _, _, _, _, _, _, _, hC, hT⟩ := PySem.W.excInit_of I.kIn T.ini
  obtain ⟨hp, g, d, t, os⟩ := s
  have big : hp.objs.size ≤ hp.objs.size + 1 := Nat.le_succ _
  have hq := h (hp.objs.size + 1) (I.hok.fresh big)
  have up : ∀ b o, hp.get? b = some o → ((hp.push (PySem.W.kdv_tup us)).push (PySem.HandSPX.excO C hp.objs.size)).get? b = some o := fun b o z => Heap.get?_push_of_some _ (Heap.get?_push_of_some _ z)
  have new : ((hp.push (PySem.W.kdv_tup us)).push (PySem.HandSPX.excO C hp.objs.size)).get? (hp.objs.size + 1) = some (PySem.HandSPX.excO C hp.objs.size) := by heap_get
  have I2 := I.laid (t' := t) (a := hp.objs.size + 1) (o := exo (hp.objs.size + 1) C none) up big (exo_ok new)
  have r2 : Vals (V.ref (hp.objs.size + 1) :: vs) (Value.ref (hp.objs.size + 1) :: us) := .cons rfl r
  have hl : (Value.ref (hp.objs.size + 1) :: us ++ []).length = ps.length := by
    rw [List.append_nil, ← r2.length, G.len _ _ _ _ hq]
  have hus : us.length ≤ sizeLine := by
    rw [← Paired.length r, sizeLine_eq]
    omega
  have bnd := hb _ (Value.ref (hp.objs.size + 1) :: us) I2.kIn hl
  rw [List.append_nil] at bnd
  refine wpAny_call (PySem.HandSPX.call_own FB hT hC (PySem.W.looks_findIn I.kIn T.own) (fun self => PySem.W.bind_fn I.kIn self T.fun_) hus (codeAny_mono (G.run _ X.stack _ _ ⟨_, []⟩ _ _ _ E0 (hr.make C us []) (I2.env0.make C us []) bnd r2 hq) fun r s' z => ?_))
  cases r with
  | error er => exact z.elim
  | ok fl =>
    cases fl with
    | ret u =>
      obtain ⟨v, H', I3, rv, ev, q3⟩ := I2.after z
      subst ev
      exact ⟨rv, ⟨V.ref (hp.objs.size + 1), H', I3, rfl, q3⟩⟩
    | next => exact z.elim
    | brk => exact z.elim
    | cont => exact z.elim
/-- C(kn=y) -/
theorem xmk_kw {Q : VK} {kn : Str} {k : Nat} {fd : FuncData} {ps : List Str} {sp : Sp} (FB : ExcBaseFacts B newId initId bmB) (T : ExK X.K C fI bmB newId)
    (G : FnOk X.prog X.w X.K X.mg X.base CX0 k fI fd ps sp) (hr : Room (k + 1) X.A) (hb : ∀ (s : Shared) (v w : Value), BindsTo s fd ⟨[v], [(kn, w)]⟩ (ps.zip [v, w])) (I : Inv X pins σ H s) (r : RelV y u)
    (h : ∀ a, H a = none → sp [.ref a, y] (upd H a (exo a C none)) (fun v H2 => v = .non ∧ Q (.ref a) H2) E0) :
    wpAny (model X.prog X.w) X.A (call (.ref C) [] [(kn, u)]) (EP X pins σ Q) X.xe s := by
  obtain ⟨_, _, _, _, _, _, _, _, _, _, _, _, _, _, _, _, hC, hT⟩ := PySem.W.excInit_of I.kIn T.ini
  obtain ⟨hp, g, d, t, os⟩ := s
  have big : hp.objs.size ≤ hp.objs.size + 1 := Nat.le_succ _
  have hq := h (hp.objs.size + 1) (I.hok.fresh big)
  have up : ∀ b o, hp.get? b = some o → ((hp.push (PySem.W.kdv_tup [])).push (PySem.HandSPX.excO C hp.objs.size)).get? b = some o := fun b o z => Heap.get?_push_of_some _ (Heap.get?_push_of_some _ z)
  have new : ((hp.push (PySem.W.kdv_tup [])).push (PySem.HandSPX.excO C hp.objs.size)).get? (hp.objs.size + 1) = some (PySem.HandSPX.excO C hp.objs.size) := by heap_get
  have I2 := I.laid (t' := t) (a := hp.objs.size + 1) (o := exo (hp.objs.size + 1) C none) up big (exo_ok new)
  have r2 : Vals [V.ref (hp.objs.size + 1), y] [Value.ref (hp.objs.size + 1), u] := .cons rfl (.cons r .nil)
  refine wpAny_call (PySem.EVX.kw_call FB hT hC (PySem.W.looks_findIn I.kIn T.own) (fun self => PySem.W.bind_fn I.kIn self T.fun_) (codeAny_mono (G.run _ X.stack _ _ ⟨[_], [(kn, u)]⟩ [_, u] _ _ E0 (hr.make C [] [(kn, u)]) (I2.env0.make C [] [(kn, u)]) (hb _ _ _) r2 hq) fun r s' z => ?_))
  cases r with
  | error er => exact z.elim
  | ok fl =>
    cases fl with
    | ret u =>
      obtain ⟨v, H', I3, rv, ev, q3⟩ := I2.after z
      subst ev
      exact ⟨rv, ⟨V.ref (hp.objs.size + 1), H', I3, rfl, q3⟩⟩
    | next => exact z.elim
    | brk => exact z.elim
    | cont => exact z.elim
end
end L2
set_option Elab.async false
set_option linter.all false
set_option maxRecDepth 100000
set_option maxHeartbeats 4000000
namespace L2
open PySem PySem.Spec PyProof.Rows
/-- self.f = e, self an exception of the class at C without fields -/
def tXst (C : Addr) (f : Str) (to te : TE) : TS := fun D σ H => te σ H fun y H1 => to σ H1 fun x H2 =>
  ∃ a : Addr, x = .ref a ∧ H2 a = some (exo a C none) ∧ ∀ dx, H2 dx = none → dx ≠ a → D.nx σ (upd (upd H2 dx (exd dx [(f, y)])) a (exo a C (some dx)))
/-- Base.__init__(self, ..) -/
def tXin (C : Addr) (ta : TA) : TE := fun σ H Q => ta σ H fun vs H1 => ∃ (a : Addr) (ws : List V), vs = .ref a :: ws ∧ ws.length ≤ 1000 ∧ H1 a = some (exo a C none) ∧ Q .non H1
/-- C(..), C(k=..) -/
structure XmkP (C : Addr) (sp : Sp) (ta : TA) (σ : St) (H : Hp) (Q : VK) : Prop where
  run : ta σ H fun vs H1 => vs.length ≤ 1000 ∧ ∀ a, H1 a = none → sp (.ref a :: vs) (upd H1 a (exo a C none)) (fun v H2 => v = .non ∧ Q (.ref a) H2) E0
structure XmkKP (C : Addr) (sp : Sp) (ta : TA) (σ : St) (H : Hp) (Q : VK) : Prop where
  run : ta σ H fun vs H1 => vs.length = 1 ∧ ∀ a, H1 a = none → sp (.ref a :: vs) (upd H1 a (exo a C none)) (fun v H2 => v = .non ∧ Q (.ref a) H2) E0
def tXmk (C : Addr) (sp : Sp) (ta : TA) : TE := XmkP C sp ta
def tXmkK (C : Addr) (sp : Sp) (ta : TA) : TE := XmkKP C sp ta
/-- e.f, e an exception -/
structure XgetP (C : Addr) (f : Str) (te : TE) (σ : St) (H : Hp) (Q : VK) : Prop where
  run : te σ H fun x H1 => ∃ (a dx : Addr) (fs : List (Str × V)) (v : V), x = .ref a ∧ H1 a = some (exo a C (some dx)) ∧ H1 dx = some (exd dx fs) ∧ fs.lookup f = some v ∧ Q v H1
def tXget (C : Addr) (f : Str) (te : TE) : TE := XgetP C f te
section
variable {X : Cx} {o e : Expr} {es : List Expr} {to te : TE} {ta : TA} {f x : Str} {p p' p1 p2 pos kpos : Pos} {C fI : Addr}
variable {bmB : List Value} {newId B initId : String} {k : Nat} {fd : FuncData} {ps : List Str} {sp : Sp}
theorem ps_xst (SF : StoreFacts B bmB "object.__setattr__" "object") (T : ExK X.K C fI bmB newId) (hno : PySem.W.findIn X.K (.ref C) f = some none) (ho : PE X o to) (he : PE X e te)
    (sw : swapsWith e (some (.Attribute o f p')) pos.line X.env = pure false := by rfl) : PS X (.Assign [.Attribute o f p'] e pos) (tXst C f to te) := by
  refine ⟨fun pins s σ H D I h => plainObj_wpAny_Assign_Attribute (thn (he.run pins s σ H _ I h) fun v s1 hv => ?_) sw⟩
  obtain ⟨y, H1, I1, ry, q1⟩ := hv
  refine thn (ho.run pins s1 σ H1 _ I1 q1) fun u s2 hu => ?_
  obtain ⟨x, H2, I2, rx, a, ex, ea, q⟩ := hu
  subst ex
  obtain rfl : u = Value.ref a := rx
  exact xst_run SF T I2 ea hno ry fun dx s' n ne J => ⟨σ, _, J, q dx n ne⟩
theorem pe_xin {pl : Sem Bool} (FB : ExcBaseFacts B newId initId bmB) (T : ExK X.K C fI bmB newId) (hg : Gl X x) (hm : X.mg x = none) (bt : bootBuiltins x = some (.type B)) (ty : typeOf (.type B) = pure (.type "type")) (st : Manifest.isStub B = false)
    (fc : PySem.W.findCls X.K (.type B) (.type "type") "__init__" = some (.val (.builtin initId))) (ha : PA X (e :: es) ta)
    (hd : PySem.W.handedIn (.builtin initId) = true := by rfl) (n1 : x ≠ "__name__" := by decide) (n2 : (x == ("__debug__" : Str)) = false := by decide)
    (hc : eval (.Call (.Attribute (.Name x p1) "__init__" p2) (e :: es) [] pos) X.env = (do
      let ov ← eval (.Name x p1) X.env
      standAt p2.atName
      let (f, first) ← holding [ov] (getMethod ov "__init__" pl)
      callWith pos f first (backTo pos (starEach (e :: es) X.env)) (backToKw pos (keywordEach [] X.env))) := by rfl)
    (he : starEach (e :: es) X.env = (false, eval e X.env) :: starEach es X.env := by rfl) (np : (backTo pos (starEach es X.env)).any (·.1) = false := by rfl) :
    PE X (.Call (.Attribute (.Name x p1) "__init__" p2) (e :: es) [] pos) (tXin C ta) := by
  refine ⟨fun pins s σ H Q I h => PySem.W.methodCall_KW (ld_blt I hg hm bt ?_ n1 n2) hc⟩
  obtain ⟨m, fr⟩ := I.fr
  refine PySem.W.method_type fr I.ok.mod.kin ty st fc hd ?_
  show wpAny _ _ (callWith pos (Value.builtin initId) [] (backTo pos (starEach (e :: es) X.env)) []) _ _ _
  refine PyProof.Rows.callWith_method1 (thn (ha.run pos pins _ σ H _ (I.tok _) h) fun us s1 hu => ?_) he np
  obtain ⟨vs, H1, I1, r1, a, ws, ev, hl, ea, q⟩ := hu
  subst ev
  cases r1 with
  | @cons _ u0 _ ur ra rr =>
    obtain rfl : u0 = Value.ref a := ra
    have hz : ur.length ≤ sizeLine := by
      rw [← Paired.length rr, sizeLine_eq]
      omega
    exact xinit_run FB T I1 ea hz fun s' J => ⟨.non, H1, J, rfl, q⟩
theorem pe_xmk (FB : ExcBaseFacts B newId initId bmB) (T : ExK X.K C fI bmB newId) (G : FnOk X.prog X.w X.K X.mg X.base CX0 k fI fd ps sp) (hr : Room (k + 1) X.A) (hb : Binds X.K fd ps []) (hg : Gl X x) (hm : X.mg x = some (.ref C)) (ha : PA X (e :: es) ta)
    (nd : (x == ("__debug__" : Str)) = false := by decide) (he : starEach (e :: es) X.env = (false, eval e X.env) :: starEach es X.env := by rfl) (np : (backTo pos (starEach es X.env)).any (·.1) = false := by rfl) :
    PE X (.Call (.Name x p) (e :: es) [] pos) (tXmk C sp ta) := by
  refine ⟨fun pins s σ H Q I h => wpAny_Call_Name_kw (ld_glob I hg hm ?_ nd)⟩
  refine PySem.W.callWith_K (h₀ := X.base) I.ok.mod.kin T.kep (thn (ha.run pos pins s σ H _ I h.run) fun us s1 hu => ?_) he np
  obtain ⟨vs, H1, I1, r1, hz, q⟩ := hu
  exact ⟨I1.kIn, xmk_run FB T G hr hb I1 r1 hz q⟩
theorem pe_xmk0 (FB : ExcBaseFacts B newId initId bmB) (T : ExK X.K C fI bmB newId) (G : FnOk X.prog X.w X.K X.mg X.base CX0 k fI fd ps sp) (hr : Room (k + 1) X.A) (hb : Binds X.K fd ps []) (hg : Gl X x) (hm : X.mg x = some (.ref C))
    (nd : (x == ("__debug__" : Str)) = false := by decide) : PE X (.Call (.Name x p) [] [] pos) (tXmk C sp tNil) := by
  refine ⟨fun pins s σ H Q I h => wpAny_Call_Name_kw (ld_glob I hg hm ?_ nd)⟩
  exact PySem.W.callWith_K0 I.kIn T.kep (xmk_run (us := []) FB T G hr hb I .nil h.run.1 h.run.2)
theorem pe_xmkK {kn : Str} (FB : ExcBaseFacts B newId initId bmB) (T : ExK X.K C fI bmB newId) (G : FnOk X.prog X.w X.K X.mg X.base CX0 k fI fd ps sp) (hr : Room (k + 1) X.A) (hb : ∀ (s : Shared) (v w : Value), BindsTo s fd ⟨[v], [(kn, w)]⟩ (ps.zip [v, w]))
    (hg : Gl X x) (hm : X.mg x = some (.ref C)) (ha : PE X e te) (nd : (x == ("__debug__" : Str)) = false := by decide)
    (al : (backToKw pos (keywordEach [⟨some kn, e, kpos⟩] X.env)).all (·.1.isSome) = true := by rfl) (ks : (backToKw pos (keywordEach [⟨some kn, e, kpos⟩] X.env)).filterMap (·.1) = [kn] := by rfl)
    (np : ((backTo pos (starEach [] X.env)).any (·.1) || (backToKw pos (keywordEach [⟨some kn, e, kpos⟩] X.env)).any (·.1.isNone)) = false := by rfl) :
    PE X (.Call (.Name x p) [] [⟨some kn, e, kpos⟩] pos) (tXmkK C sp (tCons te tNil)) := by
  refine ⟨fun pins s σ H Q I h => wpAny_Call_Name_kw (ld_glob I hg hm ?_ nd)⟩
  refine PySem.W.callWith_KW0 (h₀ := X.base) I.ok.mod.kin T.kep al ?_ np
  refine thn ((pk_cons (nm := some kn) (kpos := kpos) ha pk_nil).run pos pins s σ H _ I h.run) fun ws s2 hw => ?_
  obtain ⟨zs, H2, I2, rz, hz, q⟩ := hw
  refine ⟨I2.kIn, ?_⟩
  rw [ks]
  match zs, ws, rz, hz, q with
  | [z], [w], .cons r1 .nil, _, q => exact xmk_kw FB T G hr hb I2 r1 q
theorem pe_xget (T : ExK X.K C fI bmB newId) (hno : PySem.W.findIn X.K (.ref C) f = some none) (he : PE X e te) (hb : attributeBase e f X.env (eval e X.env) = eval e X.env := by rfl) :
    PE X (.Attribute e f pos) (tXget C f te) := by
  refine ⟨fun pins s σ H Q I h => attr_of hb (thn (he.run pins s σ H _ I h.run) fun u s1 hu => ?_)⟩
  obtain ⟨x, H1, I1, rx, a, dx, fs, v, ex, ea, ed, hl, q⟩ := hu
  subst ex
  obtain rfl : u = Value.ref a := rx
  obtain ⟨t1, at_⟩ := exo_at I1.hok ea
  obtain ⟨mA, ns, rel⟩ := exd_at I1.hok ed
  obtain ⟨od, at2, look⟩ := lookIn_ns ns
  obtain ⟨u, hu, ru⟩ := RelO.some_of (v := v) (o := mA f) (by rw [← hl]; exact rel f)
  have J : PySem.W.InstAt s1.heap a _ C (some od) := ⟨at_, rfl, rfl, at2⟩
  exact HandSPX.exc_get I1.kIn J T.isc.hg T.isc.hk T.isc.hs (PySem.W.findObj_own T.isc.hd hno rfl (by rw [look, hu])) (handed_of ru) ⟨v, H1, I1.tok _, ru, q⟩
/-- isinstance(e, c), e an exception of the class at C, with a field or without -/
def rXis (K : PySem.W.Frag) : List V → Hp → VK → Prop := fun xs H Q => ∃ (a C : Addr) (d : Option Addr) (c : V) (u : Value) (b : Bool),
  xs = [.ref a, c] ∧ ClsV c u ∧ H a = some (exo a C d) ∧ (∀ dx, d = some dx → ∃ fs, H dx = some (exd dx fs)) ∧ ExcC K C ∧ PySem.W.kitOne K (.ref C) u = some b ∧ Q (.bl b) H
def rXisT (K : PySem.W.Frag) : List V → Hp → VK → Prop := fun xs H Q => ∃ (a C : Addr) (d : Option Addr) (tp : Addr) (cs : List V) (us : List Value) (b : Bool),
  xs = [.ref a, .ref tp] ∧ H tp = some (.tup cs) ∧ Paired ClsV cs us ∧ H a = some (exo a C d) ∧ (∀ dx, d = some dx → ∃ fs, H dx = some (exd dx fs)) ∧ ExcC K C ∧ PySem.W.kitAny K (.ref C) us = some b ∧ Q (.bl b) H
theorem xkit {pins : List (Addr × Obj)} {σ : St} {H : Hp} {s : Shared} {a C : Addr} {d : Option Addr} (I : Inv X pins σ H s) (T : ExcC X.K C) (ea : H a = some (exo a C d))
    (ed : ∀ dx, d = some dx → ∃ fs, H dx = some (exd dx fs)) : ∃ P : Heap → Prop, PySem.W.KitX X.K (.ref a) (.ref C) P ∧ P s.heap := by
  obtain ⟨t1, at_⟩ := exo_at I.hok ea
  have cl : (PySem.W.clsIn X.K C).isSome = true := by
    obtain ⟨cd, hc, _⟩ := PySem.W.any_some T.hd
    rw [hc]
    rfl
  cases d with
  | none => exact ⟨_, PySem.W.kitx_exc (od := none) cl T.hg T.hk T.hs T.ha T.hn T.ht T.hm, ⟨at_, rfl, rfl, trivial⟩⟩
  | some dx =>
    obtain ⟨fs, e2⟩ := ed dx rfl
    obtain ⟨mA, ns, _⟩ := exd_at I.hok e2
    obtain ⟨od, at2, _⟩ := lookIn_ns ns
    exact ⟨_, PySem.W.kitx_exc (od := some od) cl T.hg T.hk T.hs T.ha T.hn T.ht T.hm, ⟨at_, rfl, rfl, at2⟩⟩
theorem call_xis : CallR X (.builtin "isinstance") (rXis X.K) := by
  intro pins s σ H xs us Q I r h
  obtain ⟨a, C, d, c, u, b, rfl, hc, ea, ed, T, e, q⟩ := h
  obtain ⟨u1, u2, rfl, r1, r2⟩ := vals2 r
  obtain rfl := hc.eq r2
  obtain rfl : u1 = Value.ref a := r1
  obtain ⟨P, Z, z⟩ := xkit I T ea ed
  exact PySem.W.kia_one Z I.kIn z e (fun q => nomatch q) fun tk => ⟨.bl b, H, I.tok tk, rfl, q⟩
theorem call_xisT : CallR X (.builtin "isinstance") (rXisT X.K) := by
  intro pins s σ H xs us Q I r h
  obtain ⟨a, C, d, tp, cs, ws, b, rfl, hT, hc, ea, ed, T, e, q⟩ := h
  obtain ⟨u1, u2, rfl, r1, r2⟩ := vals2 r
  obtain rfl : u1 = Value.ref a := r1
  obtain rfl : u2 = Value.ref tp := r2
  obtain ⟨P, Z, z⟩ := xkit I T ea ed
  obtain ⟨_, its, rv, o, h1, h2, n, h3⟩ := (show ObjOk X.prog X.w H s.heap tp (.tup cs) from I.hok tp _ hT)
  obtain rfl := ClsV.all hc rv
  obtain ⟨oc, od, dt, sl⟩ := o
  dsimp only at h2 h3
  subst h2 h3
  exact PySem.W.kia_tup Z I.kIn z h1 e (fun q => nomatch q) fun tk => ⟨.bl b, H, I.tok tk, rfl, q⟩
end
end L2
set_option Elab.async false
set_option linter.all false
set_option maxRecDepth 100000
set_option maxHeartbeats 4000000
namespace PySem
namespace EVR
open PySem.Spec PyProof.Rows
section
variable {prog : Program} {w : World} {A : Around} {E : Value → Shared → Prop} {s : Shared}
/-- some text of at most n signs is shown of x, whatever is under way; h₀ is kept -/
def Shown (prog : Program) (w : World) (h₀ : Heap) (x : Value) (n : Nat) : Prop :=
  ∀ (b : Nat), b + n ≤ sizeLine → ∀ (A : Around) (E : Value → Shared → Prop) (s : Shared) (Q : Str → Shared → Prop), A.units + 2 < cLine → (∀ a o, h₀.get? a = some o → s.heap.get? a = some o) →
    (∀ (m : Str) (h' : Heap) (tk : Nat), m.length ≤ n → (∀ a o, s.heap.get? a = some o → h'.get? a = some o) → Q m { s with heap := h', toks := tk }) → wpAny (model prog w) A (pyReprUnder b x) Q E s
theorem Shown.plain {h₀ : Heap} {x : Value} {t : Str} (r : ReprIs prog w x t) : Shown prog w h₀ x t.length :=
  fun b hb A E s Q _ _ q => r b hb A E s Q fun tk => q t s.heap tk (Nat.le_refl _) fun _ _ e => e
theorem Shown.more {h₀ : Heap} {x : Value} {n n' : Nat} (r : Shown prog w h₀ x n) (h : n ≤ n') : Shown prog w h₀ x n' :=
  fun b hb A E s Q hu k q => r b (by omega) A E s Q hu k fun m h' tk hm => q m h' tk (by omega)
/-- list.__repr__ of a list that is not empty -/
theorem list_head {a : Addr} {oa : Obj} {x : Value} {l : List Value} {na b : Nat} {ts : List Str} {R : Result → Shared → Prop} (ha : s.heap.get? a = some oa) (hd : oa.data = .seq (x :: l).toArray na)
    (hlen : ts.length = (x :: l).toArray.size) (hT : ∀ (i : Nat) (y : Value), (x :: l).toArray[i]? = some y → ∃ t, ts[i]? = some t ∧ ReprIs prog w y t)
    (go : ∀ (m : Str) h' u tk, m.length ≤ (listText ts).length + 5 → (∀ c o, s.heap.get? c = some o → h'.get? c = some o) → R (.ok (.ret (.str m u))) { s with heap := h', toks := tk })
    (hsz : b + (listText ts).length + 5 ≤ sizeLine) :
    wpAny (model prog w) A.in1 (Builtin.listReprAt b ⟨[.ref a], []⟩)
      (fun fin s' => match fin with | .done f => R (.ok f) s' | .again c' => c'.quiet = true ∧ codeAny (model prog w) A c' R s') (fun e s' => R (.error e) s') s := by
  unfold Builtin.listReprAt
  refine wpAny_bind (wpAny_of_eq (a := ((Value.ref a : Value), ([] : List Value))) (by first | rfl | (simp only [slotArgs]; rfl)) ?_)
  dsimp only
  refine wpAny_bind (wpAny_listItems ha hd ?_)
  have ne : (x :: l).toArray.isEmpty = false := by simp
  rw [ne, if_neg Bool.false_ne_true]
  refine wpAny_bind (wpAny_stack_any fun st => ?_)
  split
  · refine wpAny_bind (wpAny_rule ?_)
    refine wpAny_bind (wpAny_mkStr (wpAny_pure ?_) (by decide +kernel))
    exact go "[...]" s.heap _ _ (Nat.le_trans (by decide +kernel) (Nat.le_add_left 5 _)) fun _ _ e => e
  · refine wpAny_bind (m := newList []) (wpAny_newObj_type ?_)
    refine wpAny_pure ⟨F.quiet_list_repr_loop _, ?_⟩
    refine codeAny_list_repr_start (P := s.heap.objs.size) (Nat.ne_of_lt (Heap.lt_size ha)) hlen hT (Heap.get?_push_of_some _ ha) hd (Heap.get?_push_size _ rfl) (fun h' u tk k => ?_) (by omega)
    exact go _ h' u tk (Nat.le_add_right _ _) fun c o e => k c o (Nat.ne_of_lt (Heap.lt_size e)) (Heap.get?_push_of_some _ e)
theorem Shown.list {h₀ : Heap} {a : Addr} {oa : Obj} {x : Value} {l : List Value} {na : Nat} {ts : List Str} (ha : h₀.get? a = some oa) (hc : oa.cls = .type "list") (hd : oa.data = .seq (x :: l).toArray na)
    (hlen : ts.length = (x :: l).toArray.size) (hT : ∀ (i : Nat) (y : Value), (x :: l).toArray[i]? = some y → ∃ t, ts[i]? = some t ∧ ReprIs prog w y t) : Shown prog w h₀ (.ref a) ((listText ts).length + 5) := by
  intro b hb A E s Q hu k q
  refine wpAny_pyReprUnder_ref (by omega) ?_
  refine wpAny_pyReprObjUnder_twin (twin := "list.__repr__.under") ⟨oa, k _ _ ha, hc⟩ F.slot_list_repr.toG rfl (by omega) ?_
  refine call_twin_plain F.plain_list_repr_under F.entry_list_repr_under F.check_list_repr_under ⟨oa, k _ _ ha, hc⟩ F.slot_list_repr.toG (F.args_list_repr_1 _) ?_
  refine list_head (R := callEnd _ E) (k _ _ ha) hd hlen hT (fun m h' u tk hm kk => ?_) (by omega)
  exact ⟨⟨_, _, rfl⟩, m, u, rfl, q m h' tk hm kk⟩
/-- the items of a tuple, one behind the other -/
inductive ShownAll (prog : Program) (w : World) (h₀ : Heap) : List Value → List Nat → Prop
  | nil : ShownAll prog w h₀ [] []
  | cons {x : Value} {n : Nat} {l : List Value} {ns : List Nat} : Shown prog w h₀ x n → ShownAll prog w h₀ l ns → ShownAll prog w h₀ (x :: l) (n :: ns)
theorem fold_some {h₀ : Heap} (hu : A.units + 2 < cLine) : ∀ (l : List Value) (ns : List Nat) (acc : Array Str) (n : Nat) (s : Shared) (Q : (Array Str × Nat) → Shared → Prop), ShownAll prog w h₀ l ns →
    n + (ns.map (· + 2)).sum ≤ sizeLine → (∀ c o, h₀.get? c = some o → s.heap.get? c = some o) →
    (∀ (ts : List Str) (z : Nat) (h' : Heap) (tk : Nat), piled ts ≤ (ns.map (· + 2)).sum → (∀ c o, s.heap.get? c = some o → h'.get? c = some o) → Q ⟨acc ++ ts.toArray, z⟩ { s with heap := h', toks := tk }) →
    wpAny (model prog w) A (forIn l (⟨acc, n⟩ : (Array Str × Nat)) tupBody) Q E s := by
  intro l
  induction l with
  | nil =>
    intro ns acc n s Q hT hn k q
    cases hT
    simp only [List.forIn_nil]
    refine wpAny_pure ?_
    have z := q [] n s.heap s.toks (Nat.le_of_eq rfl) fun _ _ e => e
    simpa using z
  | cons x l ih =>
    intro ns acc n s Q hT hn k q
    cases hT with
    | @cons _ m _ ms hx hl =>
      rw [List.map_cons, List.sum_cons] at hn
      rw [List.forIn_cons]
      refine wpAny_bind (wpAny_bind (hx (n + 1) (by omega) _ _ _ _ hu k fun t h' tk ht kk => wpAny_pure ?_))
      refine ih ms (acc.push t) (n + (t.length + 2)) _ Q hl (by omega) (fun c o e => kk c o (k c o e)) fun ts z h2 tk2 hz k2 => ?_
      have e := q (t :: ts) z h2 tk2 (by rw [piled_cons, List.map_cons, List.sum_cons]; omega) fun c o e => k2 c o (kk c o e)
      simpa using e
theorem tup_some {h₀ : Heap} {a : Addr} {o : Obj} {items : Array Value} {n : Nat} {ns : List Nat} {Q : Value → Shared → Prop} (ha : h₀.get? a = some o) (hc : o.cls = .type "tuple") (hd : o.data = .seq items n)
    (hu : A.units + 4 < cLine) (hT : ShownAll prog w h₀ items.toList ns) (hsz : (ns.map (· + 2)).sum + 7 ≤ sizeLine) (k : ∀ c o, h₀.get? c = some o → s.heap.get? c = some o)
    (q : ∀ (m : Str) (u : Tok) (h' : Heap) (tk : Nat), m.length ≤ (ns.map (· + 2)).sum + 7 → (∀ c o, s.heap.get? c = some o → h'.get? c = some o) → Q (.str m u) { s with heap := h', toks := tk }) :
    wpAny (model prog w) A (call (.builtin "tuple.__repr__") [.ref a]) Q E s := by
  have ha' := k _ _ ha
  refine wpAny_call (codeAny_call_builtin_own (Code.quiet_builtin _ (by decide +kernel)) F.entry_tuple_repr (F.slot_tuple_repr.check _ _ _ _ _ _ _ _ ⟨o, ha', hc⟩ (F.args_tuple_repr_1 _) (wpOwn_of_wpAny ?_)))
  show wpAny _ _ (Builtin.tupleReprAt 0 ⟨[.ref a], []⟩) _ _ s
  rw [tuple_repr_tree]
  refine wpAny_bind (fmt_underWay fun b => ?_)
  cases b with
  | true =>
    refine PySem.W.KFB.if_so rfl ?_
    refine wpAny_bind (wpAny_rule (wpAny_bind (wpAny_mkStr (wpAny_pure ?_) (by decide +kernel))))
    exact q "(...)" _ s.heap _ (Nat.le_trans fmt_way (by omega)) fun _ _ e => e
  | false =>
    refine PySem.W.KFB.if_not rfl ?_
    unfold tupleReprRest Builtin.Tuple.tupleItemsOf
    refine wpAny_bind (wpAny_bind (wpAny_seqItems ha' hd (wpAny_pure ?_)))
    rw [← Array.forIn_toList]
    refine wpAny_bind (fold_some (h₀ := h₀) ?_ _ ns _ _ _ _ hT (by omega) k fun ts z h' tk hz kk => ?_)
    · first | (show A.units + 1 + 2 < cLine; omega) | omega | (simp [Around.under, Code.cUnits, Code.frames, Code.isFrame]; omega)
    · have size : ((("(" : Str) ++ Str.join ", " (#[] ++ ts.toArray).toList ++ (if items.size == 1 then ",)" else ")" : String)) : Str).length ≤ (ns.map (· + 2)).sum + 7 := by
        have e3 : (((if items.size == 1 then ",)" else ")" : String) : Str)).length ≤ 2 := by split <;> decide +kernel
        have e1 : ((("(" : String) : Str)).length = 1 := rfl
        rw [strLen_append, strLen_append, e1]
        have e2 : (#[] ++ ts.toArray).toList = ts := by simp
        rw [e2]
        by_cases hn : ts = []
        · subst hn
          have e4 : (Str.join ", " []).length = 0 := by decide +kernel
          rw [e4]
          omega
        · have := join_length_add ts hn
          omega
      refine wpAny_bind (wpAny_mkStr (wpAny_pure ?_) (Nat.le_trans size hsz))
      exact q _ _ h' _ size kk
/-- {t} in an f-string, t a tuple -/
theorem fmt_some {h₀ : Heap} {a : Addr} {o : Obj} {items : Array Value} {n : Nat} {ns : List Nat} {Q : Value → Shared → Prop} (ha : h₀.get? a = some o) (hc : o.cls = .type "tuple") (hd : o.data = .seq items n)
    (hu : A.units + 8 < cLine) (hT : ShownAll prog w h₀ items.toList ns) (hsz : (ns.map (· + 2)).sum + 7 ≤ sizeLine) (k : ∀ c o, h₀.get? c = some o → s.heap.get? c = some o)
    (q : ∀ (m : Str) (u : Tok) (h' : Heap) (tk : Nat), m.length ≤ (ns.map (· + 2)).sum + 7 → (∀ c o, s.heap.get? c = some o → h'.get? c = some o) → Q (.str m u) { s with heap := h', toks := tk }) :
    wpAny (model prog w) A (formatField (.ref a) Str.empty) Q E s :=
  wpAny_formatField_slot (fun _ _ => nofun) (by omega) ⟨o, k _ _ ha, hc⟩ F.slot_tuple_format F.slot_tuple_str F.slot_tuple_repr
    (tup_some (s := { s with toks := s.toks + 1 }) ha hc hd (by show A.units + 1 + 1 + 4 < cLine; omega) hT hsz k fun m u h' tk hm kk => ⟨m, u, rfl, q m u h' tk hm kk⟩)
end
end EVR
end PySem
namespace L2
open PySem PySem.Spec PyProof.Rows
end L2
set_option Elab.async false
set_option linter.all false
set_option maxRecDepth 100000
set_option maxHeartbeats 400000
namespace L2
open PySem PySem.Spec PyProof.Rows
theorem flat_sum : ∀ xs : List V, ((xs.map fun _ => 1000).map (· + 2)).sum = xs.length * 1002
  | [] => rfl
  | _ :: xs => by
    have e := flat_sum xs
    rw [List.map_cons, List.map_cons, List.sum_cons, e, List.length_cons]
    omega
/-- an item of a reason: a text, a number, the list of 2 and 9 -/
inductive Showy (K : PySem.W.Frag) (H : Hp) : V → Prop where
  | str {y : Str} (h : ∀ c ∈ y.cps.toList, c < 16 ^ 8) (hl : y.length ≤ 90) : Showy K H (.str y)
  | num {i : Int} (h : i.natAbs.log2 < 900) : Showy K H (.int i)
  | two {a : Addr} (h : SqL K H a [.int 2, .int 9]) : Showy K H (.ref a)
section
variable {X : Cx} {pins : List (Addr × Obj)} {σ : St} {H : Hp} {s : Shared}
theorem Showy.run {x : V} {u : Value} (I : Inv X pins σ H s) (r : RelV x u) (h : Showy X.K H x) : PySem.EVR.Shown X.prog X.w s.heap u 1000 := by
  cases h with
  | @str y h hl =>
    obtain ⟨t, rfl⟩ := r
    have h1 := StrLaws.reprText_len y h
    refine (PySem.EVR.Shown.plain (ReprIs.str y t ?_)).more (by omega)
    rw [sizeLine_eq]
    omega
  | @num i h =>
    obtain ⟨t, rfl⟩ := r
    refine (PySem.EVR.Shown.plain (ReprIs.int t (by omega))).more ?_
    have e := int_text_length_le (k := 900) (by decide) h
    rw [PySem.ofString_length]
    omega
  | @two a hs =>
    obtain rfl : u = Value.ref a := r
    obtain ⟨its, rv, ⟨o, n, ho, hc, hdn, hdt⟩, _⟩ := I.list hs
    match its, rv, hdt with
    | [v1, v2], .cons r1 (.cons r2 .nil), hdt =>
      obtain ⟨t1, rfl⟩ := r1
      obtain ⟨t2, rfl⟩ := r2
      refine (PySem.EVR.Shown.list (ts := ["2", "9"]) ho hc hdt rfl fun i y hy => ?_).more (by decide +kernel)
      match i, hy with
      | 0, hy =>
        obtain rfl : Value.int 2 t1 = y := Option.some.inj hy
        exact ⟨"2", rfl, ReprIs.int (a := 2) t1 (by decide)⟩
      | 1, hy =>
        obtain rfl : Value.int 9 t2 = y := Option.some.inj hy
        exact ⟨"9", rfl, ReprIs.int (a := 9) t2 (by decide)⟩
      | i + 2, hy => simp at hy
theorem Showy.all {xs : List V} {us : List Value} (I : Inv X pins σ H s) (r : Vals xs us) (h : ∀ x ∈ xs, Showy X.K H x) : PySem.EVR.ShownAll X.prog X.w s.heap us (xs.map fun _ => 1000) := by
  induction r with
  | nil => exact .nil
  | cons r1 _ ih => exact .cons (Showy.run I r1 (h _ List.mem_cons_self)) (ih fun x hx => h x (List.mem_cons_of_mem _ hx))
/-- {t} in an f-string, t a reason: some text -/
def tFmtX (K : PySem.W.Frag) (te : TE) : TE := fun σ H Q => te σ H fun x H1 => ∃ (a : Addr) (xs : List V), x = .ref a ∧ SqT K H1 a xs ∧ xs.length ≤ 5 ∧ (∀ y ∈ xs, Showy K H1 y) ∧ ∀ m : Str, m.length ≤ 9000 → Q (.str m) H1
theorem pe_fmtX {e : Expr} {te : TE} {pos : Pos} {k : Nat} (hr : Room k X.A) (he : PE X e te) : PE X (.FormattedValue e (-1) none pos) (tFmtX X.K te) := by
  refine ⟨fun pins s σ H Q I h => wpAny_FormattedValue_plain (thn (he.run pins s σ H _ I h) fun v s1 hv => ?_)⟩
  obtain ⟨x, H1, I1, r1, a, xs, rfl, ht, hl, hs, q⟩ := hv
  cases r1
  obtain ⟨its, rv, ⟨o, ho, hc, n, hd⟩, _⟩ := I1.tuple ht
  have hu := hr.un
  have sz := flat_sum xs
  refine PySem.EVR.fmt_some (h₀ := s1.heap) ho hc hd (by omega) (by simpa using Showy.all I1 rv hs) (by rw [sizeLine_eq]; omega) (fun _ _ e => e) fun m u h' tk hm k => ?_
  exact ⟨.str m, H1, I1.kept (t' := tk) k, ⟨u, rfl⟩, q m (by omega)⟩
end
end L2
set_option Elab.async false
set_option linter.all false
set_option maxRecDepth 100000
set_option maxHeartbeats 4000000
namespace K00
open PySem PySem.Spec PyProof.Rows L2
def topS (i : Nat) : Stmt := PySem.Challenge.pw_treethaw_k00_errors_and_limits.main.body.getD i (.Pass ⟨0, 0, 0, 0⟩)
abbrev sDraw : Stmt := topS 17
abbrev sPick : Stmt := topS 19
theorem scDraw : FnScope ["_law_source", "_law_bound", "_law_found", "_law_once", "_law_twice"] ["_law_source", "_law_bound"] (defScope sDraw) :=
  ⟨rfl, rfl, rfl, by decide +kernel, rfl, by decide +kernel, by decide +kernel⟩
theorem scPick : FnScope ["_law_source", "_law_some"] ["_law_source", "_law_some"] (defScope sPick) :=
  ⟨rfl, rfl, rfl, by decide +kernel, rfl, by decide +kernel, by decide +kernel⟩
/-- a source of draws at p: what is left of a great number, a seed, a count -/
def Src (H : Hp) (p : Addr) (c : Int) : Prop := ∃ a b : Int, H p = some (.lst [.int a, .int b, .int c]) ∧ 0 ≤ a ∧ 0 ≤ b ∧ b < 2 ^ 63 ∧ 0 ≤ c
/-- a draw below m: at most n calls deep -/
def spDraw (n : Nat) : Sp := fun vs H Q _ => ∃ (p : Addr) (c m : Int), vs = [.ref p, .int m] ∧ Src H p c ∧ c + (n : Int) < 2 ^ 60 ∧ 0 < m ∧ 0 < n ∧ (m ≤ 10000000 ∨ (1 < n ∧ m ≤ 100000000000000)) ∧
  ∀ (r c' : Int) (xs : List V), 0 ≤ r → r < m → c ≤ c' → c' ≤ c + 2 → (m ≤ 10000000 → c' ≤ c + 1) → Src (upd H p (.lst xs)) p c' → Q (.int r) (upd H p (.lst xs))
theorem upd_twice {H : Hp} {p : Addr} {o o' : HO} : upd (upd H p o) p o' = upd H p o' := by
  funext b
  by_cases e : b = p
  · rw [e, upd_same, upd_same]
  · rw [upd_ne e, upd_ne e, upd_ne e]
section
variable {P : Program} {w : World} {K : PySem.W.Frag} {mg : Str → Option Value} {base : Heap} {f : Addr} {fd : FuncData}
theorem no_draw : FnOk P w K mg base CX0 0 f fd ["_law_source", "_law_bound"] (spDraw 0) :=
  ⟨fun vs H Q E ⟨_, _, _, _, _, _, _, h, _⟩ => absurd h (by decide), fun _ _ _ _ _ _ _ _ _ _ _ _ _ ⟨_, _, _, _, _, _, _, h, _⟩ => absurd h (by decide)⟩
theorem ok_draw {n : Nat} (F : Fun K "_law_draw" "_law_draw" sDraw f fd) (G : FnOk P w K mg base CX0 n f fd ["_law_source", "_law_bound"] (spDraw n))
    (bG : Binds K fd ["_law_source", "_law_bound"] []) (mG : mg "_law_draw" = some (.ref f)) : FnOk P w K mg base CX0 (n + 1) f fd ["_law_source", "_law_bound"] (spDraw (n + 1)) := by
  refine F.ok scDraw (fun vs H Q E h => ?_) (fun cdv A outer s H vs Q E hr h => ?_)
  · obtain ⟨p, c, m, rfl, _⟩ := h
    rfl
  · obtain ⟨p, c, m, rfl, ⟨a, b, hp, ha, hb, hb2, hc⟩, hc2, hm, hn, hd, q⟩ := h
    refine ⟨_, pss_cons (ps_if (pt_cmpR op_gt (pe_ix ix_list (pv 0) pe_int (fun _ _ => rfl)) pe_int (nomark _))
        (pss_cons (ps_set (i := 2) scDraw.nd rfl (.inl rfl) (pe_op op_mod (pe_ix ix_list (pv 0) pe_int (fun _ _ => rfl)) (pv 1)))
        (pss_cons (ps_asg (pe_op op_fdivW (pe_ix ix_list (pv 0) pe_int (fun _ _ => rfl)) (pv 1)) (pg_sub (pv 0) pe_int set_list))
        (pss_one (ps_ret (pv 2))))) pss_nil)
      (pss_cons (ps_if (pt_cmpR op_gt (pv 1) (pe_op op_pow pe_int pe_int) (nomark _))
        (pss_one (ps_ret (pe_op op_mod (pe_op op_add (pe_call G hr rfl mG F.kp bG .nil pass0 (pa_cons (pv 0) (pa_cons (pe_op op_pow pe_int pe_int) pa_nil)))
          (pe_op op_mul (pe_op op_pow pe_int pe_int) (pe_call G hr rfl mG F.kp bG .nil pass0 (pa_cons (pv 0) (pa_cons (pe_op op_add (pe_op op_fdiv (pe_op op_sub (pv 1) pe_int) (pe_op op_pow pe_int pe_int)) pe_int) pa_nil))))) (pv 1)))) pss_nil)
      (pss_cons (ps_asg (pe_op op_add (pe_ix ix_list (pv 0) pe_int (fun _ _ => rfl)) pe_int) (pg_sub (pv 0) pe_int set_list))
      (pss_cons (ps_set (i := 3) scDraw.nd rfl (.inl rfl) (pe_op op_mod (pe_op op_mul (pe_op op_add (pe_ix ix_list (pv 0) pe_int (fun _ _ => rfl)) (pe_op op_mul pe_int (pe_ix ix_list (pv 0) pe_int (fun _ _ => rfl))))
          (pe_op op_add pe_int (pe_ix ix_list (pv 0) pe_int (fun _ _ => rfl)))) pe_int))
      (pss_cons (ps_set (i := 4) scDraw.nd rfl (.inl rfl) (pe_op op_mod (pe_op op_mul (pe_op op_add (pe_op op_add (pv 3) (pe_ix ix_list (pv 0) pe_int (fun _ _ => rfl))) (pe_op op_fdiv (pe_ix ix_list (pv 0) pe_int (fun _ _ => rfl)) pe_int))
          (pe_op op_add (pe_op op_mod (pv 3) pe_int) pe_int)) pe_int))
      (pss_one (ps_ret (pe_op op_mod (pe_op op_fdiv (pe_op op_mod (pe_op op_add (pe_op op_mul (pv 4) pe_int) (pv 3)) pe_int) pe_int) (pv 1)))))))), ?_⟩
    have look : ∀ {H1 : Hp} {a b c : Int}, H1 p = some (.lst [.int a, .int b, .int c]) → SqL K H1 p [.int a, .int b, .int c] := fun e => SqL.of e
    -- source[0] > 0
    refine ⟨_, rfl, p, _, _, _, rfl, rfl, look hp, rfl, _, _, rfl, rfl, _, rfl, ?_⟩
    refine ite2 (fun h0 => ?_) (fun h0 => ?_)
    · have a1 : (0 : Int) < a := of_decide_eq_true h0
      refine ⟨_, rfl, p, _, _, _, rfl, rfl, look hp, rfl, _, rfl, _, _, rfl, rfl, hm, ?_⟩
      refine ⟨_, rfl, p, _, _, _, rfl, rfl, look hp, rfl, _, rfl, _, _, rfl, rfl, ?_, ?_⟩
      · exact wide_div (b := 50) hm (by omega) (by decide) (by decide)
      refine ⟨_, rfl, p, _, _, 0, rfl, rfl, hp, rfl, ?_⟩
      refine ⟨_, rfl, ?_⟩
      have h1 := Int.emod_nonneg a (show m ≠ 0 by omega)
      have h2 := Int.emod_lt_of_pos a hm
      have h3 : 0 ≤ a / m := Int.ediv_nonneg ha (by omega)
      exact q _ c _ h1 h2 (Int.le_refl _) (by omega) (fun _ => by omega) ⟨_, _, upd_same, h3, hb, hb2, hc⟩
    · refine ⟨_, rfl, _, _, rfl, rfl, ⟨by decide, by decide, by decide⟩, _, _, rfl, rfl, _, rfl, ?_⟩
      refine ite2 (fun h1 => ?_) (fun h1 => ?_)
      · have m1 : (10 : Int) ^ 7 < m := of_decide_eq_true h1
        have m1' : (10000000 : Int) < m := m1
        obtain ⟨d1, d2⟩ : 1 < n + 1 ∧ m ≤ 100000000000000 := by
          rcases hd with hd | hd
          · omega
          · exact hd
        refine ⟨_, rfl, _, _, rfl, rfl, ⟨by decide, by decide, by decide⟩, ?_⟩
        refine ⟨p, c, 10000000, rfl, ⟨a, b, hp, ha, hb, hb2, hc⟩, by omega, by decide, by omega, .inl (by decide), fun r c1 xs r0 r1 c10 c11 c12 S1 => ?_⟩
        have c13 := c12 (by decide)
        have e7 : (10 : Int) ^ (7 : Int).toNat = 10000000 := rfl
        refine ⟨_, _, rfl, rfl, ⟨by decide, by decide, by decide⟩, _, rfl, _, rfl, _, _, rfl, rfl, _, _, rfl, rfl, ⟨by decide, by decide, by decide⟩, _, _, rfl, rfl, ⟨by decide, by decide⟩, _, _, rfl, rfl, ?_⟩
        rw [e7]
        have d3 := Int.ediv_nonneg (show 0 ≤ m - 1 by omega) (show (0 : Int) ≤ 10000000 by decide)
        have d4 : (m - 1) / 10000000 < 10000000 := by omega
        refine ⟨p, c1, (m - 1) / 10000000 + 1, rfl, S1, by omega, by omega, by omega, .inl (by omega), fun r2 c2 ys r20 r21 c20 c21 c22 S2 => ?_⟩
        have c23 := c22 (by omega)
        refine ⟨_, _, rfl, rfl, .inl ⟨by decide, by decide⟩, _, _, rfl, rfl, _, rfl, _, _, rfl, rfl, hm, ?_⟩
        rw [upd_twice] at S2 ⊢
        refine q _ c2 ys (Int.emod_nonneg _ (by omega)) (Int.emod_lt_of_pos _ hm) (by omega) (by omega) (fun z => by omega) S2
      · -- source[2] = source[2] + 1
        refine ⟨_, rfl, p, _, _, _, rfl, rfl, look hp, rfl, _, _, rfl, rfl, _, rfl, p, _, _, 2, rfl, rfl, hp, rfl, ?_⟩
        have h1 : upd H p (.lst [.int a, .int b, .int (c + 1)]) p = some (.lst [.int a, .int b, .int (c + 1)]) := upd_same
        -- once
        refine ⟨_, rfl, p, _, _, _, rfl, rfl, look h1, rfl, _, rfl, p, _, _, _, rfl, rfl, look h1, rfl, _, _, rfl, rfl, .inl ⟨by decide, by decide⟩, _, _, rfl, rfl,
          _, rfl, p, _, _, _, rfl, rfl, look h1, rfl, _, _, rfl, rfl, _, _, rfl, rfl, .inr ⟨by omega, by omega⟩, _, _, rfl, rfl, (show (0 : Int) < 2147483647 by decide), ?_⟩
        -- twice
        refine ⟨_, rfl, _, rfl, p, _, _, _, rfl, rfl, look h1, rfl, _, _, rfl, rfl, _, rfl, p, _, _, _, rfl, rfl, look h1, rfl, _, _, rfl, rfl, ⟨by decide, by decide⟩, _, _, rfl, rfl,
          _, rfl, _, _, rfl, rfl, (show (0 : Int) < 40009 by decide), _, _, rfl, rfl, _, _, rfl, rfl, .inr ?_, _, _, rfl, rfl, (show (0 : Int) < 2147483629 by decide), ?_⟩
        · have z1 := Int.emod_nonneg ((b + 48271 * (c + 1)) * (39373 + (c + 1)) % 2147483647) (show (40009 : Int) ≠ 0 by decide)
          have z2 := Int.emod_lt_of_pos ((b + 48271 * (c + 1)) * (39373 + (c + 1)) % 2147483647) (show (0 : Int) < 40009 by decide)
          exact ⟨by omega, by omega⟩
        · refine ⟨_, rfl, _, _, rfl, rfl, .inr ⟨by decide, by decide⟩, _, rfl, _, _, rfl, rfl, _, _, rfl, rfl, (show (0 : Int) < 2147483587 by decide), _, _, rfl, rfl, ⟨by decide, by decide⟩, _, rfl, _, _, rfl, rfl, hm, ?_⟩
          exact q _ (c + 1) _ (Int.emod_nonneg _ (by omega)) (Int.emod_lt_of_pos _ hm) (by omega) (by omega) (fun _ => by omega) ⟨a, b, upd_same, ha, hb, hb2, by omega⟩
end
end K00
set_option Elab.async false
set_option linter.all false
set_option maxRecDepth 100000
set_option maxHeartbeats 4000000
namespace K00
open PySem PySem.Spec PyProof.Rows L2
abbrev sStream : Stmt := topS 16
theorem scStream : FnScope ["_law_script", "_law_k", "_law_cell"] ["_law_script", "_law_k"] (defScope sStream) :=
  ⟨rfl, rfl, rfl, by decide +kernel, rfl, by decide +kernel, by decide +kernel⟩
theorem b01 (k : Bool) : (0 : Int) ≤ (if k = true then 1 else 0) ∧ (if k = true then (1 : Int) else 0) ≤ 1 := by
  cases k <;> decide
def spPick : Sp := fun vs H Q _ => ∃ (p l : Addr) (c : Int) (xs : List V), vs = [.ref p, .ref l] ∧ Src H p c ∧ c + 3 < 2 ^ 60 ∧ l ≠ p ∧ H l = some (.lst xs) ∧ 0 < xs.length ∧ xs.length ≤ 1000 ∧
  ∀ (j : Nat) (v : V) (c' : Int) (zs : List V), xs[j]? = some v → c ≤ c' → c' ≤ c + 1 → Src (upd H p (.lst zs)) p c' → Q v (upd H p (.lst zs))
def spStream (K : PySem.W.Frag) : Sp := fun vs H Q _ => ∃ (l : Addr) (ns : List Int) (k : Nat), vs = [.ref l, .int (k : Int)] ∧ SqL K H l (ns.map V.int) ∧ k < 1000 ∧
  ∀ (p : Addr) (a b : Int), H p = none → 0 ≤ a → 0 ≤ b → b < 2 ^ 63 → Q (.ref p) (upd H p (.lst [.int a, .int b, .int 0]))
section
variable {P : Program} {w : World} {K : PySem.W.Frag} {mg : Str → Option Value} {base : Heap} {f fD : Addr} {fd fdD : FuncData}
theorem ok_pick (F : Fun K "_law_pick" "_law_pick" sPick f fd) (G : FnOk P w K mg base CX0 2 fD fdD ["_law_source", "_law_bound"] (spDraw 2))
    (bG : Binds K fdD ["_law_source", "_law_bound"] []) (kG : PySem.W.keepIn K (.ref fD) = true) (mG : mg "_law_draw" = some (.ref fD)) (mL : mg "len" = none) :
    FnOk P w K mg base CX0 3 f fd ["_law_source", "_law_some"] spPick := by
  refine F.ok scPick (fun vs H Q E h => ?_) (fun cdv A outer s H vs Q E hr h => ?_)
  · obtain ⟨p, l, c, xs, rfl, _⟩ := h
    rfl
  · obtain ⟨p, l, c, xs, rfl, S, hc, hne, hl, h0, h1, q⟩ := h
    refine ⟨_, pss_one (ps_ret (pe_ix ix_list (pv 1) (pe_call G hr rfl mG kG bG .nil pass0 (pa_cons (pv 0) (pa_cons (pe_callB call_len_seq (by rfl) mL PySem.boot_len (pa_cons (pv 1) pa_nil)) pa_nil))) (fun _ _ => rfl))), ?_⟩
    refine ⟨_, rfl, _, rfl, _, rfl, l, xs, rfl, .inl (SqL.of hl), ?_⟩
    refine ⟨p, c, _, rfl, S, by omega, by omega, by decide, .inl (by omega), fun r c' zs r0 r1 c0 c1 c2 S' => ?_⟩
    obtain ⟨j, rfl⟩ : ∃ j : Nat, r = (j : Int) := ⟨r.toNat, by omega⟩
    have hj : j < xs.length := by omega
    refine ⟨l, xs, _, xs[j], rfl, rfl, SqL.of ((upd_ne hne).trans hl), atI_nat (List.getElem?_eq_getElem hj), ?_⟩
    exact q j _ c' zs (List.getElem?_eq_getElem hj) c0 (c2 (by omega)) S'
theorem ok_stream (F : Fun K "_law_stream" "_law_stream" sStream f fd) (mL : mg "len" = none) (mA : mg "abs" = none) (mI : mg "int" = none) :
    FnOk P w K mg base CX0 1 f fd ["_law_script", "_law_k"] (spStream K) := by
  refine F.ok scStream (fun vs H Q E h => ?_) (fun cdv A outer s H vs Q E hr h => ?_)
  · obtain ⟨l, ns, k, rfl, _⟩ := h
    rfl
  · obtain ⟨l, ns, k, rfl, hl, hk, q⟩ := h
    refine ⟨_, pss_cons (ps_set (i := 2) scStream.nd rfl (.inl rfl) pe_int)
      (pss_cons (ps_if (pt_cmpR op_lt (pv 1) (pe_callB call_len_seq (by rfl) mL PySem.boot_len (pa_cons (pv 0) pa_nil)) (nomark _))
        (pss_one (ps_set (i := 2) scStream.nd rfl (.inl rfl) (pe_ix ix_list (pv 0) (pv 1) (fun _ _ => rfl)))) pss_nil)
      (pss_one (ps_ret (pe_lst (pa_cons (pe_op op_mul (pe_callB call_abs (by rfl) mA (by decide +kernel) (pa_cons (pv 2) pa_nil))
          (pe_callTy call_int1 (by rfl) mI (by decide +kernel) (pa_cons (pe_cmpR op_ge (pe_callB call_abs (by rfl) mA (by decide +kernel) (pa_cons (pv 2) pa_nil)) (pe_op op_pow pe_int pe_int) (nomark _)) pa_nil)))
        (pa_cons (pe_op op_add (pe_op op_add (pe_op op_mod (pv 2) pe_int) (pe_op op_mul pe_int (pv 1))) pe_int) (pa_cons pe_int pa_nil))))))), ?_⟩
    have fin : ∀ (cell : Int) (σ : L2.St), σ[1]? = some (some (V.int (k : Int))) → σ[2]? = some (some (V.int cell)) → ∀ D : Ends, D.rt = Q →
        tRet (tLst (tCons (tOp (rI CMul fun i j => .int (i * j)) (tCB (fun xs H Q => ∃ i, xs = [.int i] ∧ Q (.int (if i < 0 then -i else i)) H) (tCons (tVar 2) tNil))
          (tCB (fun xs H Q => (∃ i, xs = [.int i] ∧ Q (.int i) H) ∨ ∃ k, xs = [.bl k] ∧ Q (.int (if k then 1 else 0)) H) (tCons (tOp (rI0 fun i j => .bl (decide (j ≤ i))) (tCB (fun xs H Q => ∃ i, xs = [.int i] ∧ Q (.int (if i < 0 then -i else i)) H) (tCons (tVar 2) tNil)) (tOp (rI CPow fun i j => .int (i ^ j.toNat)) (tC (.int 10)) (tC (.int 18)))) tNil)))
          (tCons (tOp (rI0 fun i j => .int (i + j)) (tOp (rI0 fun i j => .int (i + j)) (tOp (rI (fun _ j => 0 < j) fun i j => .int (i % j)) (tVar 2) (tC (.int 2305843009213693951))) (tOp (rI CMul fun i j => .int (i * j)) (tC (.int 39373)) (tVar 1))) (tC (.int 29))) (tCons (tC (.int 0)) tNil)))) D σ H := by
      intro cell σ s1 s2 D eD
      refine ⟨_, s2, _, rfl, _, s2, _, rfl, _, _, rfl, rfl, ⟨by decide, by decide, by decide⟩, _, _, rfl, rfl, .inr ⟨_, rfl, _, _, rfl, rfl, .inr ?_, ?_⟩⟩
      · exact ⟨Int.lt_of_lt_of_le (by decide) (b01 _).1, Int.lt_of_le_of_lt (b01 _).2 (by decide)⟩
      · refine ⟨_, s2, _, _, rfl, rfl, (show (0 : Int) < 2305843009213693951 by decide), _, s1, _, _, rfl, rfl, .inl ⟨by decide, by decide⟩, _, _, rfl, rfl, _, _, rfl, rfl, (by show 3 ≤ sizeLine; decide), fun p hp => ?_⟩
        rw [eD]
        have z1 := Int.emod_nonneg cell (show (2305843009213693951 : Int) ≠ 0 by decide)
        have z2 := Int.emod_lt_of_pos cell (show (0 : Int) < 2305843009213693951 by decide)
        refine q p _ _ hp ?_ (by omega) (by omega)
        refine Int.mul_nonneg ?_ ?_
        · split <;> omega
        · exact (b01 _).1
    refine ⟨_, rfl, _, rfl, l, _, rfl, .inl hl, _, _, rfl, rfl, _, rfl, ?_⟩
    refine ite2 (fun h1 => ?_) (fun h1 => ?_)
    · have h2 := of_decide_eq_true h1
      rw [List.length_map] at h2
      have h3 : k < ns.length := by omega
      refine ⟨_, rfl, _, rfl, l, _, _, .int ns[k], rfl, rfl, hl, atI_nat (by rw [List.getElem?_map, List.getElem?_eq_getElem h3]; rfl), ?_⟩
      exact fin ns[k] _ rfl rfl _ rfl
    · exact fin 0 _ rfl rfl _ rfl
end
end K00
set_option Elab.async false
set_option linter.all false
set_option maxRecDepth 100000
set_option maxHeartbeats 4000000
namespace K00
open PySem PySem.Spec PyProof.Rows L2
abbrev sFolded : Stmt := topS 18
theorem scFolded : FnScope ["_law_script", "_law_most", "_law_cells", "_law_k", "_law_cell"] ["_law_script", "_law_most"] (defScope sFolded) :=
  ⟨rfl, rfl, rfl, by decide +kernel, rfl, by decide +kernel, by decide +kernel⟩
def spFolded (K : PySem.W.Frag) : Sp := fun vs H Q _ => ∃ (l : Addr) (ns : List Int) (m : Nat), vs = [.ref l, .int (m : Int)] ∧ SqL K H l (ns.map V.int) ∧ ns.length ≤ 63 ∧ 0 < m ∧ m ≤ 10 ∧
  ∀ (p : Addr) (ms : List Int) (H' : Hp), H p = none → Same H H' → H' p = some (.lst (ms.map V.int)) → 0 < ms.length → ms.length ≤ m → Q (.ref p) H'
theorem cut_ints (ns : List Int) (lo hi : Option Int) : cutV (ns.map V.int) lo hi = ((ns.drop (HT.sIx ns.length 0 lo)).take (HT.sIx ns.length ns.length hi - HT.sIx ns.length 0 lo)).map V.int := by
  unfold cutV
  rw [List.length_map, List.map_take, List.map_drop]
theorem same_new {H : Hp} {p : Addr} {o : HO} (h : H p = none) : Same H (upd H p o) := fun b x e => by
  rw [upd_ne (ne_of_none e h)]
  exact e
theorem same_mut {H H' : Hp} {p : Addr} {o : HO} (s : Same H H') (h : H p = none) : Same H (upd H' p o) := fun b x e => by
  rw [upd_ne (ne_of_none e h)]
  exact s b x e
section
variable {P : Program} {w : World} {K : PySem.W.Frag} {mg : Str → Option Value} {base : Heap} {f : Addr} {fd : FuncData}
theorem ok_folded (F : Fun K "_law_folded" "_law_folded" sFolded f fd) (mL : mg "list" = none) (mE : mg "enumerate" = none) :
    FnOk P w K mg base CX0 1 f fd ["_law_script", "_law_most"] (spFolded K) := by
  refine F.ok scFolded (fun vs H Q E h => ?_) (fun cdv A outer s H vs Q E hr h => ?_)
  · obtain ⟨l, ns, m, rfl, _⟩ := h
    rfl
  · obtain ⟨l, ns, m, rfl, hl, hn, hm0, hm1, q⟩ := h
    refine ⟨_, pss_cons (ps_set (i := 2) scFolded.nd rfl (.inl rfl) (pe_orT (pe_callTy call_list_of (by rfl) mL (by decide +kernel) (pa_cons (pe_slice sl_list (pv 0) po_none (po_some (pv 1))) pa_nil)) (pe_one (pe_lst (pa_cons pe_int pa_nil)))))
      (pss_cons (ps_for PassesOwn.never rfl (pi_enum (by rfl) mE (pa_cons (pe_slice sl_list (pv 0) (po_some (pv 1)) (po_some pe_int)) pa_nil))
          (pg_tup rfl (pgs_cons (pg_name (i := 3) scFolded.nd rfl (.inl rfl)) (pgs_cons (pg_name (i := 4) scFolded.nd rfl (.inl rfl)) pgs_nil)))
        (pss_one (ps_asg (pe_op op_add (pe_ix ix_list (pv 2) (pe_op op_mod (pv 3) (pv 1)) (fun _ _ => rfl)) (pe_op op_mul (pv 4) (pe_op op_add (pv 3) pe_int))) (pg_sub (pv 2) (pe_op op_mod (pv 3) (pv 1)) set_list))))
      (pss_one (ps_ret (pv 2)))), ?_⟩
    -- the loop, from cells of ms at p
    have loop : ∀ (p : Addr) (ms : List Int) (H1 : Hp) (D : Ends), D.rt = Q → H p = none → Same H H1 → H1 p = some (.lst (ms.map V.int)) → 0 < ms.length → ms.length ≤ m → (m ≤ ns.length → ms.length = m) →
        tSeq (tFor (iEnum K (tCons (tSl (rSlL K) (tVar 0) (tPart (tVar 1)) (tPart (tC (.int 63)))) tNil)) (gTup K 2 (gCons (gName 3) (gCons (gName 4) gNil)))
          (tAsg (tOp (rI0 fun i j => .int (i + j)) (tOp (rIxL K) (tVar 2) (tOp (rI (fun _ j => 0 < j) fun i j => .int (i % j)) (tVar 3) (tVar 1))) (tOp (rI CMul fun i j => .int (i * j)) (tVar 4) (tOp (rI0 fun i j => .int (i + j)) (tVar 3) (tC (.int 2)))))
            (gSub (tVar 2) (tOp (rI (fun _ j => 0 < j) fun i j => .int (i % j)) (tVar 3) (tVar 1)) rSetL))) (tRet (tVar 2)) D [some (.ref l), some (.int (m : Int)), some (.ref p), none, none] H1 := by
      intro p ms H1 D eD hp s1 hc h0 h1 h2
      obtain ⟨ks, eks, hks, hk0⟩ : ∃ ks : List Int, cutV (ns.map V.int) (some (m : Int)) (some 63) = ks.map V.int ∧ ks.length ≤ 63 ∧ (ns.length < m → ks.length = 0) := by
        refine ⟨_, cut_ints ns _ _, ?_, fun z => ?_⟩
        · rw [List.length_take, List.length_drop]
          omega
        · rw [List.length_take, List.length_drop, HT.sIx_nat]
          omega
      refine ⟨_, rfl, _, rfl, _, rfl, 63, rfl, l, _, rfl, s1.seq hl, fun c nc => ?_⟩
      rw [eks]
      refine ⟨c, _, rfl, SqL.of upd_same, ?_⟩
      have ncp : c ≠ p := fun e => by
        rw [e, hc] at nc
        cases nc
      refine for_it (walk_enum (K := K) (a := c) (xs := ks.map V.int)) (fun i σ H3 => ∃ (y3 y4 : Option V) (zs : List Int), σ = [some (.ref l), some (.int (m : Int)), some (.ref p), y3, y4] ∧ Same H H3 ∧ H3 c = some (.lst (ks.map V.int)) ∧ H3 p = some (.lst (zs.map V.int)) ∧ zs.length = ms.length)
        ⟨none, none, ms, rfl, s1.trans (same_new nc), upd_same, by rw [upd_ne ncp.symm]; exact hc, rfl⟩ (fun i σ H3 _ ⟨_, _, _, _, _, e, _⟩ => SqL.of e) ?_ ?_
      · rintro i x σ H3 H4 hi ⟨y3, y4, zs, rfl, s3, e3, e4, e5⟩ ⟨T, x1, x2, rfl, nT, rfl, f1, f2⟩
        rw [List.length_map] at hi
        obtain rfl : V.int ((i : Nat) : Int) = x1 := Option.some.inj f1
        obtain rfl : V.int ks[i] = x2 := by
          have f3 : (ks.map V.int)[i]? = some x2 := f2
          rw [List.getElem?_map, List.getElem?_eq_getElem hi] at f3
          exact Option.some.inj f3
        have nTp : p ≠ T := ne_of_none e4 nT
        have nTc : c ≠ T := ne_of_none e3 nT
        have e4' : upd H3 T (.tup [.int ((i : Nat) : Int), .int ks[i]]) p = some (.lst (zs.map V.int)) := (upd_ne nTp).trans e4
        have hmn : m ≤ ns.length := by
          by_cases z : ns.length < m
          · have := hk0 z
            omega
          · omega
        have hz := h2 hmn
        have i1 := Int.emod_nonneg (i : Int) (show (m : Int) ≠ 0 by omega)
        have i2 := Int.emod_lt_of_pos (i : Int) (show (0 : Int) < (m : Int) by omega)
        obtain ⟨j, ej⟩ : ∃ j : Nat, (i : Int) % (m : Int) = (j : Int) := ⟨((i : Int) % (m : Int)).toNat, by omega⟩
        have hj : j < zs.length := by omega
        have hjm : j < (zs.map V.int).length := by rw [List.length_map]; exact hj
        refine ⟨T, _, rfl, .inl (.inl upd_same), rfl, _, _, rfl, _, _, rfl, rfl, ?_⟩
        refine ⟨_, rfl, _, rfl, _, rfl, _, _, rfl, rfl, (show (0 : Int) < (m : Int) by omega), p, _, _, .int zs[j], rfl, rfl, SqL.of e4', ?_, ?_⟩
        · rw [ej]
          exact atI_nat (by rw [List.getElem?_map, List.getElem?_eq_getElem hj]; rfl)
        refine ⟨_, rfl, _, rfl, _, _, rfl, rfl, _, _, rfl, rfl, .inr ⟨by omega, by omega⟩, _, _, rfl, rfl, ?_⟩
        refine ⟨_, rfl, _, rfl, _, rfl, _, _, rfl, rfl, (show (0 : Int) < (m : Int) by omega), p, _, _, j, rfl, rfl, e4', ?_, ?_⟩
        · rw [ej]
          unfold ixN
          rw [if_pos (by omega), if_pos (by omega), Int.toNat_natCast]
        refine ⟨_, _, zs.set j (zs[j] + ks[i] * ((i : Int) + 2)), rfl, fun b o e => ?_, ?_, ?_, by rw [List.length_set]; exact e5⟩
        · rw [upd_ne (ne_of_none e hp), upd_ne (ne_of_none (s3 b o e) nT)]
          exact s3 b o e
        · rw [upd_ne ncp, upd_ne nTc]
          exact e3
        · rw [upd_same, List.map_set]
      · rintro σ H3 ⟨y3, y4, zs, rfl, s3, e3, e4, e5⟩
        refine ⟨_, rfl, ?_⟩
        rw [eD]
        exact q p zs H3 hp s3 e4 (by omega) (by omega)
    -- list(script[:most]) or [0]
    obtain ⟨ts, ets, hts⟩ : ∃ ts : List Int, cutV (ns.map V.int) none (some (m : Int)) = ts.map V.int ∧ ts.length = min m ns.length := by
      refine ⟨_, cut_ints ns _ _, ?_⟩
      rw [List.length_take, List.length_drop, HT.sIx_nat, HT.sIx_none]
      omega
    refine ⟨_, rfl, _, rfl, _, rfl, l, _, rfl, hl, fun c nc => ?_⟩
    rw [ets]
    refine ⟨c, _, rfl, .inl (SqL.of upd_same), fun p np => ?_⟩
    have s2 := same_new (o := HO.lst (ts.map V.int)) nc
    have hp : H p = none := s2.free np
    have s3 := s2.trans (same_new (o := HO.lst (ts.map V.int)) np)
    refine ⟨_, .inl ⟨_, SqL.of upd_same, rfl⟩, ?_⟩
    cases ts with
    | nil =>
      refine iteF ⟨by show 1 ≤ sizeLine; decide, fun p2 np2 => ?_⟩
      rw [List.length_nil] at hts
      exact loop p2 [0] _ _ rfl (s3.free np2) (s3.trans (same_new np2)) upd_same (by decide) hm0 (fun z => by omega)
    | cons t ts => exact iteT (loop p (t :: ts) _ _ rfl hp s3 upd_same (Nat.succ_pos _) (by omega) (fun z => by omega))
end
end K00
set_option Elab.async false
set_option linter.all false
set_option maxRecDepth 100000
set_option maxHeartbeats 4000000
namespace K00
open PySem PySem.Spec PyProof.Rows L2
mutual
/-- data at any depth, all of it tracked -/
inductive Dx (H : Hp) : V → PyData → Prop
  | non : Dx H .non .none
  | bl (b : Bool) : Dx H (.bl b) (.bool b)
  | int (i : Int) : Dx H (.int i) (.int i)
  | str (x : Str) : Dx H (.str x) (.str x)
  | lst {a : Addr} {xs : List V} {ds : List PyData} : H a = some (.lst xs) → DxAll H xs ds → Dx H (.ref a) (.list ds)
  | tup {a : Addr} {xs : List V} {ds : List PyData} : H a = some (.tup xs) → DxAll H xs ds → Dx H (.ref a) (.tuple ds)
inductive DxAll (H : Hp) : List V → List PyData → Prop
  | nil : DxAll H [] []
  | cons {v : V} {vs : List V} {d : PyData} {ds : List PyData} : Dx H v d → DxAll H vs ds → DxAll H (v :: vs) (d :: ds)
end
mutual
theorem Dx.mono {H H' : Hp} (s : Same H H') : ∀ {v : V} {d : PyData}, Dx H v d → Dx H' v d
  | _, _, .non => .non
  | _, _, .bl b => .bl b
  | _, _, .int i => .int i
  | _, _, .str x => .str x
  | _, _, .lst e h => .lst (s _ _ e) (DxAll.mono s h)
  | _, _, .tup e h => .tup (s _ _ e) (DxAll.mono s h)
theorem DxAll.mono {H H' : Hp} (s : Same H H') : ∀ {vs : List V} {ds : List PyData}, DxAll H vs ds → DxAll H' vs ds
  | _, _, .nil => .nil
  | _, _, .cons h t => .cons (Dx.mono s h) (DxAll.mono s t)
end
theorem DxAll.length {H : Hp} : ∀ {vs : List V} {ds : List PyData}, DxAll H vs ds → vs.length = ds.length
  | _, _, .nil => rfl
  | _, _, .cons _ t => by rw [List.length_cons, List.length_cons, DxAll.length t]
theorem DxAll.get {H : Hp} : ∀ {vs : List V} {ds : List PyData} {i : Nat} {v : V}, DxAll H vs ds → vs[i]? = some v → ∃ d, ds[i]? = some d ∧ Dx H v d
  | _, _, _, _, .nil, e => by simp at e
  | _, _, 0, _, .cons h _, e => by
    simp at e
    subst e
    exact ⟨_, rfl, h⟩
  | _, _, i + 1, v, .cons _ t, e => by
    obtain ⟨d, h1, h2⟩ := DxAll.get (i := i) (v := v) t (by simpa using e)
    exact ⟨d, by simpa using h1, h2⟩
theorem DxAll.snoc {H : Hp} {v : V} {d : PyData} (h : Dx H v d) : ∀ {vs : List V} {ds : List PyData}, DxAll H vs ds → DxAll H (vs ++ [v]) (ds ++ [d])
  | _, _, .nil => .cons h .nil
  | _, _, .cons h1 t => .cons h1 (DxAll.snoc h t)
/-- of nesting below n -/
def Sh : Nat → PyData → Prop
  | 0, _ => False
  | n + 1, .list ds => ds.length ≤ 1000 ∧ ∀ d ∈ ds, Sh n d
  | n + 1, .tuple ds => ds.length ≤ 1000 ∧ ∀ d ∈ ds, Sh n d
  | _ + 1, .dict _ => False
  | _ + 1, _ => True
/-- the heap without the objects of M -/
def mask (H : Hp) (M : List Addr) : Hp := fun b => if b ∈ M then none else H b
theorem mask_nil (H : Hp) : mask H [] = H := funext fun b => if_neg List.not_mem_nil
theorem mask_at {H : Hp} {M : List Addr} {a : Addr} {o : HO} (e : mask H M a = some o) : H a = some o ∧ a ∉ M := by
  unfold mask at e
  by_cases h : a ∈ M
  · rw [if_pos h] at e
    cases e
  · rw [if_neg h] at e
    exact ⟨e, h⟩
theorem mask_of {H : Hp} {M : List Addr} {a : Addr} {o : HO} (e : H a = some o) (h : a ∉ M) : mask H M a = some o := (if_neg h).trans e
theorem mask_same {H H' : Hp} {M M' : List Addr} (s : Same H H') (h : ∀ b o, H b = some o → b ∈ M' → b ∈ M) : Same (mask H M) (mask H' M') := fun b o e => by
  obtain ⟨e1, e2⟩ := mask_at e
  exact mask_of (s b o e1) fun z => e2 (h b o e1 z)
theorem mask_upd {H : Hp} {M : List Addr} {a : Addr} {o : HO} (h : a ∈ M) : mask (upd H a o) M = mask H M := funext fun b => by
  unfold mask
  by_cases z : b ∈ M
  · rw [if_pos z, if_pos z]
  · have ne : b ≠ a := fun e => z (e ▸ h)
    rw [if_neg z, if_neg z, upd_ne ne]
abbrev sCopied : Stmt := topS 1
theorem scCopied : FnScope ["value", "item"] ["value"] (defScope sCopied) :=
  ⟨rfl, rfl, rfl, by decide +kernel, rfl, by decide +kernel, by decide +kernel⟩
def spCopied (n : Nat) : Sp := fun vs H Q _ => ∃ (v : V) (d : PyData) (M : List Addr), vs = [v] ∧ Dx (mask H M) v d ∧ (∀ b ∈ M, H b ≠ none) ∧ Sh n d ∧ ∀ (v' : V) (H' : Hp), Same H H' → Dx (mask H' M) v' d → Q v' H'
section
variable {P : Program} {w : World} {K : PySem.W.Frag} {mg : Str → Option Value} {base : Heap} {f : Addr} {fd : FuncData}
theorem no_copied : FnOk P w K mg base CX0 0 f fd ["value"] (spCopied 0) :=
  ⟨fun vs H Q E ⟨_, _, _, _, _, _, h, _⟩ => h.elim, fun _ _ _ _ _ _ _ _ _ _ _ _ _ ⟨_, _, _, _, _, _, h, _⟩ => h.elim⟩
theorem ok_copied {n : Nat} (F : Fun K "copied" "copied" sCopied f fd) (G : FnOk P w K mg base CX0 n f fd ["value"] (spCopied n))
    (bG : Binds K fd ["value"] []) (mG : mg "copied" = some (.ref f)) (mI : mg "isinstance" = none) (mL : mg "list" = none) (mT : mg "tuple" = none) : FnOk P w K mg base CX0 (n + 1) f fd ["value"] (spCopied (n + 1)) := by
  refine F.ok scCopied (fun vs H Q E h => ?_) (fun cdv A outer s H vs Q E hr h => ?_)
  · obtain ⟨v, d, M, rfl, _⟩ := h
    rfl
  · obtain ⟨v, d, M, rfl, hd, hM, hs, q⟩ := h
    refine ⟨_, pss_cons (ps_if (pt_val (pe_callB call_isi (by rfl) mI (by decide +kernel) (pa_cons (pv 0) (pa_cons (pe_bltn (v := .ty "list") (by rfl) mL (by decide +kernel) rfl) pa_nil))))
        (pss_one (ps_ret (pe_lc (own := [("item", 1)]) (g := gName 1) (tt := tYes) rfl scCopied.nd (pi_list (pv 0)) (blkOk_by (N := ["value", "item"]) (sc := defScope sCopied) (by decide +kernel)) (fun _ _ _ _ _ => pg_name (i := 1) scCopied.nd rfl (Or.inl rfl)) (fun _ _ _ _ _ => pts_nil)
          (fun _ _ _ _ _ => pe_call G hr rfl mG F.kp bG .nil pass0 (pa_cons (pv 1) pa_nil))))) pss_nil)
      (pss_cons (ps_if (pt_val (pe_callB call_isi (by rfl) mI (by decide +kernel) (pa_cons (pv 0) (pa_cons (pe_bltn (v := .ty "tuple") (by rfl) mT (by decide +kernel) rfl) pa_nil))))
        (pss_one (ps_ret (pe_tupleOf (by rfl) mT (pe_lc (own := [("item", 1)]) (g := gName 1) (tt := tYes) rfl scCopied.nd (pi_tup (pv 0)) (blkOk_by (N := ["value", "item"]) (sc := defScope sCopied) (by decide +kernel)) (fun _ _ _ _ _ => pg_name (i := 1) scCopied.nd rfl (Or.inl rfl)) (fun _ _ _ _ _ => pts_nil)
          (fun _ _ _ _ _ => pe_call G hr rfl mG F.kp bG .nil pass0 (pa_cons (pv 1) pa_nil)))))) pss_nil)
      (pss_one (ps_ret (pv 0)))), ?_⟩
    have sh : (∃ T : String, TyX K H v (.type T) ∧ kitB T "list" = some false ∧ kitB T "tuple" = some false) ∨
        (∃ a xs ds, v = .ref a ∧ d = .list ds ∧ H a = some (.lst xs) ∧ DxAll (mask H M) xs ds) ∨ (∃ a xs ds, v = .ref a ∧ d = .tuple ds ∧ H a = some (.tup xs) ∧ DxAll (mask H M) xs ds) := by
      cases hd with
      | non => exact .inl ⟨_, .base .non, by decide +kernel, by decide +kernel⟩
      | bl b => exact .inl ⟨_, .base (.bl b), by decide +kernel, by decide +kernel⟩
      | int i => exact .inl ⟨_, .base (.int i), by decide +kernel, by decide +kernel⟩
      | str x => exact .inl ⟨_, .base (.str x), by decide +kernel, by decide +kernel⟩
      | lst e h => exact .inr (.inl ⟨_, _, _, rfl, rfl, (mask_at e).1, h⟩)
      | tup e h => exact .inr (.inr ⟨_, _, _, rfl, rfl, (mask_at e).1, h⟩)
    -- the comprehension's turns
    have turn : ∀ (D : Addr) (xs : List V) (ds : List PyData), H D = none → DxAll (mask H M) xs ds → ds.length ≤ 1000 → (∀ d ∈ ds, Sh n d) → ∀ (i : Nat) (x : V) (H3 H4 : Hp), i < xs.length →
        (Same H H3 ∧ ∃ ys, H3 D = some (.lst ys) ∧ ys.length = i ∧ DxAll (mask H3 (D :: M)) ys (ds.take i)) → YAt xs i H3 x H4 →
        spCopied n [x] H4 (fun y H5 => ∃ acc, H5 D = some (.lst acc) ∧ acc.length < sizeLine ∧ Same H (upd H5 D (.lst (acc ++ [y]))) ∧ ∃ ys, upd H5 D (.lst (acc ++ [y])) D = some (.lst ys) ∧ ys.length = i + 1 ∧ DxAll (mask (upd H5 D (.lst (acc ++ [y]))) (D :: M)) ys (ds.take (i + 1))) E0 := by
      rintro D xs ds nD hx hl hsh i x H3 H4 hi ⟨s3, ys, e3, ly, dx⟩ ⟨rfl, ex⟩
      obtain ⟨di, edi, hdi⟩ := hx.get ex
      refine ⟨x, di, D :: M, rfl, hdi.mono (mask_same s3 fun b o e z => ?_), fun b hb => ?_, hsh di (List.mem_of_getElem? edi), fun v' H5 s5 d5 => ?_⟩
      · rcases List.mem_cons.mp z with z | z
        · rw [z, nD] at e
          cases e
        · exact z
      · rcases List.mem_cons.mp hb with z | z
        · rw [z, e3]
          exact fun q => nomatch q
        · intro e
          exact hM b z (s3.free e)
      · refine ⟨ys, s5 _ _ e3, ?_, same_mut (s3.trans s5) nD, ys ++ [v'], upd_same, by rw [List.length_append, ly]; rfl, ?_⟩
        · have z := hx.length
          exact Nat.lt_of_le_of_lt (show ys.length ≤ 1000 by omega) (by decide)
        · rw [mask_upd List.mem_cons_self, List.take_add_one, edi]
          exact (dx.mono (mask_same s5 fun _ _ _ z => z)).snoc d5
    have done : ∀ (D : Addr) (xs : List V) (ds : List PyData) (H3 : Hp), H D = none → DxAll (mask H M) xs ds →
        (Same H H3 ∧ ∃ ys, H3 D = some (.lst ys) ∧ ys.length = xs.length ∧ DxAll (mask H3 (D :: M)) ys (ds.take xs.length)) → ∃ ys, H3 D = some (.lst ys) ∧ D ∉ M ∧ DxAll (mask H3 M) ys ds := by
      rintro D xs ds H3 nD hx ⟨s3, ys, e3, ly, dx⟩
      rw [hx.length, List.take_length] at dx
      exact ⟨ys, e3, fun z => hM D z nD, dx.mono (mask_same (Same.refl _) fun _ _ _ z => List.mem_cons_of_mem _ z)⟩
    rcases sh with ⟨T, ty, k1, k2⟩ | ⟨a, xs, ds, rfl, rfl, e, hx⟩ | ⟨a, xs, ds, rfl, rfl, e, hx⟩
    · refine ⟨_, rfl, _, _, _, _, false, rfl, .ty _, ty, kit_ty k1, _, rfl, iteF ?_⟩
      refine ⟨_, rfl, _, _, _, _, false, rfl, .ty _, ty, kit_ty k2, _, rfl, iteF ?_⟩
      exact ⟨_, rfl, q _ _ (Same.refl _) hd⟩
    · refine ⟨_, rfl, _, _, _, _, true, rfl, .ty _, .base (.lst e), kit_ty (by decide +kernel), _, rfl, iteT ?_⟩
      refine ⟨_, rfl, a, rfl, ⟨_, SqL.of e⟩, fun D nD => ?_⟩
      refine lc_it (walk_list (K := K) (a := a) (xs := xs)) (fun i H3 => Same H H3 ∧ ∃ ys, H3 D = some (.lst ys) ∧ ys.length = i ∧ DxAll (mask H3 (D :: M)) ys (ds.take i))
        ⟨same_new nD, [], upd_same, rfl, .nil⟩ (fun i H3 _ p => SqL.of (p.1 _ _ e)) (fun i x H3 H4 hi p y => ?_) (fun H3 p => ?_)
      · exact ⟨rfl, _, rfl, turn D xs ds nD hx hs.1 hs.2 i x H3 H4 hi p y⟩
      · obtain ⟨ys, e3, nM, dx⟩ := done D xs ds H3 nD hx p
        exact q _ _ p.1 (.lst (mask_of e3 nM) dx)
    · refine ⟨_, rfl, _, _, _, _, false, rfl, .ty _, .base (.tup e), kit_ty (by decide +kernel), _, rfl, iteF ?_⟩
      refine ⟨_, rfl, _, _, _, _, true, rfl, .ty _, .base (.tup e), kit_ty (by decide +kernel), _, rfl, iteT ?_⟩
      refine ⟨_, rfl, a, rfl, ⟨_, SqT.of e⟩, fun D nD => ?_⟩
      refine lc_it (walk_tup (K := K) (a := a) (xs := xs)) (fun i H3 => Same H H3 ∧ ∃ ys, H3 D = some (.lst ys) ∧ ys.length = i ∧ DxAll (mask H3 (D :: M)) ys (ds.take i))
        ⟨same_new nD, [], upd_same, rfl, .nil⟩ (fun i H3 _ p => SqT.of (p.1 _ _ e)) (fun i x H3 H4 hi p y => ?_) (fun H3 p => ?_)
      · exact ⟨rfl, _, rfl, turn D xs ds nD hx hs.1 hs.2 i x H3 H4 hi p y⟩
      · obtain ⟨ys, e3, nM, dx⟩ := done D xs ds H3 nD hx p
        refine .inl ⟨D, ys, rfl, SqL.of e3, fun t nt => ?_⟩
        have ntM : t ∉ M := fun z => hM t z (p.1.free nt)
        exact q _ _ (p.1.trans (same_new nt)) (.tup (mask_of upd_same ntM) (dx.mono (mask_same (same_new nt) fun _ _ _ z => z)))
end
end K00
set_option Elab.async false
set_option linter.all false
set_option maxRecDepth 100000
set_option maxHeartbeats 4000000
namespace K00
open PySem PySem.Spec PyProof.Rows L2
abbrev mroV : List Value := [.type "ValueError", .type "Exception", .type "BaseException", .type "object"]
abbrev mroL : List Value := [.type "LookupError", .type "Exception", .type "BaseException", .type "object"]
abbrev mroR : List Value := [.type "RuntimeError", .type "Exception", .type "BaseException", .type "object"]
theorem tyV : typeOf (.type "ValueError") = pure (.type "type") := by kernel_rfl
theorem tyL : typeOf (.type "LookupError") = pure (.type "type") := by kernel_rfl
theorem tyR : typeOf (.type "RuntimeError") = pure (.type "type") := by kernel_rfl
/-- a number or a word that an error is made with -/
def Said (y : V) : Prop := (∃ i : Int, y = .int i ∧ i.natAbs.log2 < 900) ∨ ∃ z : Str, y = .str z ∧ z.length ≤ 1000
theorem said_fmt {y : V} (h : Said y) : ∃ m : Str, m.length ≤ 1000 ∧ ∀ (σ : L2.St) (j : Nat) (H : Hp) (Q : VK), σ[j]? = some (some y) → Q (.str m) H → tFmt (tVar j) σ H Q := by
  rcases h with ⟨i, rfl, hi⟩ | ⟨z, rfl, hz⟩
  · refine ⟨toString i, ?_, fun σ j H Q e q => ⟨_, e, .inr ⟨i, rfl, by omega, q⟩⟩⟩
    have e := int_text_length_le (k := 900) (by decide) hi
    rw [PySem.ofString_length]
    omega
  · exact ⟨z, hz, fun σ j H Q e q => ⟨_, e, .inl ⟨z, rfl, Nat.le_trans hz (by decide), q⟩⟩⟩
theorem len_add {a b : Str} {n m k : Nat} (ha : a.length ≤ n) (hb : b.length ≤ m) (h : n + m ≤ k) : (a ++ b).length ≤ k := by
  rw [strLen_append]
  omega
/-- an error without values; with one, kept as it is; with one, copied -/
def spInit0 (C : Addr) : Sp := fun vs H Q _ => ∃ a : Addr, vs = [.ref a] ∧ H a = some (exo a C none) ∧ Q .non H
def spInit (C : Addr) (f : Str) : Sp := fun vs H Q _ => ∃ (a : Addr) (y : V), vs = [.ref a, y] ∧ H a = some (exo a C none) ∧ Said y ∧
  ∀ dx, H dx = none → dx ≠ a → Q .non (upd (upd H dx (exd dx [(f, y)])) a (exo a C (some dx)))
def spInitC (K : PySem.W.Frag) (C : Addr) (f : Str) : Sp := fun vs H Q _ => ∃ (a t : Addr) (xs : List V) (d : PyData), vs = [.ref a, .ref t] ∧ H a = some (exo a C none) ∧ H t = some (.tup xs) ∧ xs.length ≤ 5 ∧ (∀ y ∈ xs, Showy K H y) ∧ Dx H (.ref t) d ∧ Sh 3 d ∧
  ∀ (y : V) (H1 : Hp) (dx : Addr), Same H H1 → Dx H1 y d → H1 dx = none → dx ≠ a → Q .non (upd (upd H1 dx (exd dx [(f, y)])) a (exo a C (some dx)))
theorem sz0 : (Str.empty : Str).length ≤ 0 := by decide +kernel
theorem small_line {n : Nat} (h : n ≤ 100000) : n ≤ sizeLine := Nat.le_trans h (by decide)
section
variable {P : Program} {w : World} {K : PySem.W.Frag} {mg : Str → Option Value} {base : Heap} {C fI fC : Addr} {fd fdC : FuncData}
theorem scBadText : FnScope ["self"] ["self"] (defScope (inClass (topS 2) 0)) := ⟨rfl, rfl, rfl, by decide +kernel, rfl, by decide +kernel, by decide +kernel⟩
theorem ok_BadText (F : Fun K "__init__" "BadText.__init__" (inClass (topS 2) 0) fI fd) (T : ExK K C fI mroV "ValueError.__new__") (mB : mg "ValueError" = none)
    (fc : PySem.W.findCls K (.type "ValueError") (.type "type") "__init__" = some (.val (.builtin "ValueError.__init__"))) : FnOk P w K mg base CX0 1 fI fd ["self"] (spInit0 C) := by
  refine F.ok scBadText (fun vs H Q E h => ?_) (fun cdv A outer s H vs Q E hr h => ?_)
  · obtain ⟨a, rfl, _⟩ := h
    rfl
  · obtain ⟨a, rfl, ea, q⟩ := h
    refine ⟨_, pss_one (ps_expr (pe_xin PySem.F.excBase_ValueError T (by rfl) mB (by decide +kernel) tyV (by decide +kernel) fc (pa_cons (pv 0) (pa_cons pe_str pa_nil)))), ?_⟩
    exact ⟨_, rfl, a, _, rfl, (show 1 ≤ 1000 by decide), ea, q⟩
theorem scBadLine : FnScope ["self", "number"] ["self", "number"] (defScope (inClass (topS 3) 0)) := ⟨rfl, rfl, rfl, by decide +kernel, rfl, by decide +kernel, by decide +kernel⟩
theorem ok_BadLine (F : Fun K "__init__" "BadLine.__init__" (inClass (topS 3) 0) fI fd) (T : ExK K C fI mroV "ValueError.__new__") (hno : PySem.W.findIn K (.ref C) "number" = some none) (mB : mg "ValueError" = none)
    (fc : PySem.W.findCls K (.type "ValueError") (.type "type") "__init__" = some (.val (.builtin "ValueError.__init__"))) : FnOk P w K mg base CX0 1 fI fd ["self", "number"] (spInit C "number") := by
  refine F.ok scBadLine (fun vs H Q E h => ?_) (fun cdv A outer s H vs Q E hr h => ?_)
  · obtain ⟨a, y, rfl, _⟩ := h
    rfl
  · obtain ⟨a, y, rfl, ea, sy, q⟩ := h
    obtain ⟨m, hm, fm⟩ := said_fmt sy
    refine ⟨_, pss_cons (ps_expr (pe_xin PySem.F.excBase_ValueError T (by rfl) mB (by decide +kernel) tyV (by decide +kernel) fc (pa_cons (pv 0) (pa_cons (pe_joined (PJ.cons pe_str (PJ.cons (pe_fmt (pv 1)) (PJ.cons pe_str PJ.nil)))) pa_nil))))
      (pss_one (ps_xst PySem.F.store_ValueError T hno (pv 0) (pv 1))), ?_⟩
    refine ⟨_, rfl, _, rfl, small_line (len_add sz0 (by decide +kernel : _ ≤ 100) (by decide : 0 + 100 ≤ 100000)), ?_⟩
    show tFmt (tVar 1) _ _ _
    refine fm _ 1 _ _ rfl ?_
    have l2 := len_add (k := 10000) (len_add (k := 100) (b := (("line " : String) : Str)) sz0 (by decide +kernel : _ ≤ 100) (Nat.le_refl _)) hm (by decide)
    refine ⟨_, rfl, small_line (Nat.le_trans l2 (by decide)), _, rfl, small_line (len_add l2 (by decide +kernel : _ ≤ 100) (by decide : 10000 + 100 ≤ 100000)), ?_⟩
    refine ⟨a, _, rfl, (show 1 ≤ 1000 by decide), ea, ?_⟩
    exact ⟨_, rfl, _, rfl, a, rfl, ea, q⟩
theorem scNoOrder : FnScope ["self"] ["self"] (defScope (inClass (topS 4) 0)) := ⟨rfl, rfl, rfl, by decide +kernel, rfl, by decide +kernel, by decide +kernel⟩
theorem ok_NoOrder (F : Fun K "__init__" "NoOrder.__init__" (inClass (topS 4) 0) fI fd) (T : ExK K C fI mroV "ValueError.__new__") (mB : mg "ValueError" = none)
    (fc : PySem.W.findCls K (.type "ValueError") (.type "type") "__init__" = some (.val (.builtin "ValueError.__init__"))) : FnOk P w K mg base CX0 1 fI fd ["self"] (spInit0 C) := by
  refine F.ok scNoOrder (fun vs H Q E h => ?_) (fun cdv A outer s H vs Q E hr h => ?_)
  · obtain ⟨a, rfl, _⟩ := h
    rfl
  · obtain ⟨a, rfl, ea, q⟩ := h
    refine ⟨_, pss_one (ps_expr (pe_xin PySem.F.excBase_ValueError T (by rfl) mB (by decide +kernel) tyV (by decide +kernel) fc (pa_cons (pv 0) (pa_cons pe_str pa_nil)))), ?_⟩
    exact ⟨_, rfl, a, _, rfl, (show 1 ≤ 1000 by decide), ea, q⟩
theorem scOutside : FnScope ["self", "what"] ["self", "what"] (defScope (inClass (topS 5) 0)) := ⟨rfl, rfl, rfl, by decide +kernel, rfl, by decide +kernel, by decide +kernel⟩
theorem ok_Outside (F : Fun K "__init__" "Outside.__init__" (inClass (topS 5) 0) fI fd) (T : ExK K C fI mroV "ValueError.__new__") (hno : PySem.W.findIn K (.ref C) "what" = some none) (mB : mg "ValueError" = none)
    (fc : PySem.W.findCls K (.type "ValueError") (.type "type") "__init__" = some (.val (.builtin "ValueError.__init__")))
    (G : FnOk P w K mg base CX0 3 fC fdC ["value"] (spCopied 3)) (bG : Binds K fdC ["value"] []) (kG : PySem.W.keepIn K (.ref fC) = true) (mG : mg "copied" = some (.ref fC)) : FnOk P w K mg base CX0 4 fI fd ["self", "what"] (spInitC K C "what") := by
  refine F.ok scOutside (fun vs H Q E h => ?_) (fun cdv A outer s H vs Q E hr h => ?_)
  · obtain ⟨a, t, xs, d, rfl, _⟩ := h
    rfl
  · obtain ⟨a, t, xs, d, rfl, ea, et, hl, hs, hd, hsh, q⟩ := h
    refine ⟨_, pss_cons (ps_expr (pe_xin PySem.F.excBase_ValueError T (by rfl) mB (by decide +kernel) tyV (by decide +kernel) fc (pa_cons (pv 0) (pa_cons (pe_joined (PJ.cons pe_str (PJ.cons (pe_fmtX hr (pv 1)) (PJ.cons pe_str PJ.nil)))) pa_nil))))
      (pss_one (ps_xst PySem.F.store_ValueError T hno (pv 0) (pe_call G hr rfl mG kG bG .nil pass0 (pa_cons (pv 1) pa_nil)))), ?_⟩
    refine ⟨_, rfl, _, rfl, small_line (len_add sz0 (by decide +kernel : _ ≤ 100) (by decide : 0 + 100 ≤ 100000)), _, rfl, t, xs, rfl, SqT.of et, hl, hs, fun m hm => ?_⟩
    have l2 := len_add (k := 10000) (len_add (k := 100) (b := (("the tree shares " : String) : Str)) sz0 (by decide +kernel : _ ≤ 100) (Nat.le_refl _)) hm (by decide)
    refine ⟨_, rfl, small_line (Nat.le_trans l2 (by decide)), _, rfl, small_line (len_add l2 (by decide +kernel : _ ≤ 100) (by decide : 10000 + 100 ≤ 100000)), ?_⟩
    refine ⟨a, _, rfl, (show 1 ≤ 1000 by decide), ea, ?_⟩
    refine ⟨_, rfl, .ref t, d, [], rfl, by rw [mask_nil]; exact hd, (fun b hb => absurd hb List.not_mem_nil), hsh, fun y H1 s1 d1 => ?_⟩
    rw [mask_nil] at d1
    exact ⟨_, rfl, a, rfl, s1 _ _ ea, fun dx n1 n2 => q y H1 dx s1 d1 n1 n2⟩
theorem scNoProcess : FnScope ["self", "number"] ["self", "number"] (defScope (inClass (topS 6) 0)) := ⟨rfl, rfl, rfl, by decide +kernel, rfl, by decide +kernel, by decide +kernel⟩
theorem ok_NoProcess (F : Fun K "__init__" "NoProcess.__init__" (inClass (topS 6) 0) fI fd) (T : ExK K C fI mroL "LookupError.__new__") (hno : PySem.W.findIn K (.ref C) "number" = some none) (mB : mg "LookupError" = none)
    (fc : PySem.W.findCls K (.type "LookupError") (.type "type") "__init__" = some (.val (.builtin "LookupError.__init__"))) : FnOk P w K mg base CX0 1 fI fd ["self", "number"] (spInit C "number") := by
  refine F.ok scNoProcess (fun vs H Q E h => ?_) (fun cdv A outer s H vs Q E hr h => ?_)
  · obtain ⟨a, y, rfl, _⟩ := h
    rfl
  · obtain ⟨a, y, rfl, ea, sy, q⟩ := h
    obtain ⟨m, hm, fm⟩ := said_fmt sy
    refine ⟨_, pss_cons (ps_expr (pe_xin PySem.F.excBase_LookupError T (by rfl) mB (by decide +kernel) tyL (by decide +kernel) fc (pa_cons (pv 0) (pa_cons (pe_joined (PJ.cons pe_str (PJ.cons (pe_fmt (pv 1)) (PJ.cons pe_str PJ.nil)))) pa_nil))))
      (pss_one (ps_xst PySem.F.store_LookupError T hno (pv 0) (pv 1))), ?_⟩
    refine ⟨_, rfl, _, rfl, small_line (len_add sz0 (by decide +kernel : _ ≤ 100) (by decide : 0 + 100 ≤ 100000)), ?_⟩
    show tFmt (tVar 1) _ _ _
    refine fm _ 1 _ _ rfl ?_
    have l2 := len_add (k := 10000) (len_add (k := 100) (b := (("there is no process " : String) : Str)) sz0 (by decide +kernel : _ ≤ 100) (Nat.le_refl _)) hm (by decide)
    refine ⟨_, rfl, small_line (Nat.le_trans l2 (by decide)), _, rfl, small_line (len_add l2 (by decide +kernel : _ ≤ 100) (by decide : 10000 + 100 ≤ 100000)), ?_⟩
    refine ⟨a, _, rfl, (show 1 ≤ 1000 by decide), ea, ?_⟩
    exact ⟨_, rfl, _, rfl, a, rfl, ea, q⟩
theorem scBadStep : FnScope ["self", "index"] ["self", "index"] (defScope (inClass (topS 7) 0)) := ⟨rfl, rfl, rfl, by decide +kernel, rfl, by decide +kernel, by decide +kernel⟩
theorem ok_BadStep (F : Fun K "__init__" "BadStep.__init__" (inClass (topS 7) 0) fI fd) (T : ExK K C fI mroL "LookupError.__new__") (hno : PySem.W.findIn K (.ref C) "index" = some none) (mB : mg "LookupError" = none)
    (fc : PySem.W.findCls K (.type "LookupError") (.type "type") "__init__" = some (.val (.builtin "LookupError.__init__"))) : FnOk P w K mg base CX0 1 fI fd ["self", "index"] (spInit C "index") := by
  refine F.ok scBadStep (fun vs H Q E h => ?_) (fun cdv A outer s H vs Q E hr h => ?_)
  · obtain ⟨a, y, rfl, _⟩ := h
    rfl
  · obtain ⟨a, y, rfl, ea, sy, q⟩ := h
    obtain ⟨m, hm, fm⟩ := said_fmt sy
    refine ⟨_, pss_cons (ps_expr (pe_xin PySem.F.excBase_LookupError T (by rfl) mB (by decide +kernel) tyL (by decide +kernel) fc (pa_cons (pv 0) (pa_cons (pe_joined (PJ.cons pe_str (PJ.cons (pe_fmt (pv 1)) (PJ.cons pe_str PJ.nil)))) pa_nil))))
      (pss_one (ps_xst PySem.F.store_LookupError T hno (pv 0) (pv 1))), ?_⟩
    refine ⟨_, rfl, _, rfl, small_line (len_add sz0 (by decide +kernel : _ ≤ 100) (by decide : 0 + 100 ≤ 100000)), ?_⟩
    show tFmt (tVar 1) _ _ _
    refine fm _ 1 _ _ rfl ?_
    have l2 := len_add (k := 10000) (len_add (k := 100) (b := (("step " : String) : Str)) sz0 (by decide +kernel : _ ≤ 100) (Nat.le_refl _)) hm (by decide)
    refine ⟨_, rfl, small_line (Nat.le_trans l2 (by decide)), _, rfl, small_line (len_add l2 (by decide +kernel : _ ≤ 100) (by decide : 10000 + 100 ≤ 100000)), ?_⟩
    refine ⟨a, _, rfl, (show 1 ≤ 1000 by decide), ea, ?_⟩
    exact ⟨_, rfl, _, rfl, a, rfl, ea, q⟩
theorem scNotRunning : FnScope ["self", "number"] ["self", "number"] (defScope (inClass (topS 8) 0)) := ⟨rfl, rfl, rfl, by decide +kernel, rfl, by decide +kernel, by decide +kernel⟩
theorem ok_NotRunning (F : Fun K "__init__" "NotRunning.__init__" (inClass (topS 8) 0) fI fd) (T : ExK K C fI mroR "RuntimeError.__new__") (hno : PySem.W.findIn K (.ref C) "number" = some none) (mB : mg "RuntimeError" = none)
    (fc : PySem.W.findCls K (.type "RuntimeError") (.type "type") "__init__" = some (.val (.builtin "RuntimeError.__init__"))) : FnOk P w K mg base CX0 1 fI fd ["self", "number"] (spInit C "number") := by
  refine F.ok scNotRunning (fun vs H Q E h => ?_) (fun cdv A outer s H vs Q E hr h => ?_)
  · obtain ⟨a, y, rfl, _⟩ := h
    rfl
  · obtain ⟨a, y, rfl, ea, sy, q⟩ := h
    obtain ⟨m, hm, fm⟩ := said_fmt sy
    refine ⟨_, pss_cons (ps_expr (pe_xin PySem.F.excBase_RuntimeError T (by rfl) mB (by decide +kernel) tyR (by decide +kernel) fc (pa_cons (pv 0) (pa_cons (pe_joined (PJ.cons pe_str (PJ.cons (pe_fmt (pv 1)) (PJ.cons pe_str PJ.nil)))) pa_nil))))
      (pss_one (ps_xst PySem.F.store_RuntimeError T hno (pv 0) (pv 1))), ?_⟩
    refine ⟨_, rfl, _, rfl, small_line (len_add sz0 (by decide +kernel : _ ≤ 100) (by decide : 0 + 100 ≤ 100000)), ?_⟩
    show tFmt (tVar 1) _ _ _
    refine fm _ 1 _ _ rfl ?_
    have l2 := len_add (k := 10000) (len_add (k := 100) (b := (("process " : String) : Str)) sz0 (by decide +kernel : _ ≤ 100) (Nat.le_refl _)) hm (by decide)
    refine ⟨_, rfl, small_line (Nat.le_trans l2 (by decide)), _, rfl, small_line (len_add l2 (by decide +kernel : _ ≤ 100) (by decide : 10000 + 100 ≤ 100000)), ?_⟩
    refine ⟨a, _, rfl, (show 1 ≤ 1000 by decide), ea, ?_⟩
    exact ⟨_, rfl, _, rfl, a, rfl, ea, q⟩
theorem scBarred : FnScope ["self", "reason"] ["self", "reason"] (defScope (inClass (topS 9) 0)) := ⟨rfl, rfl, rfl, by decide +kernel, rfl, by decide +kernel, by decide +kernel⟩
theorem ok_Barred (F : Fun K "__init__" "Barred.__init__" (inClass (topS 9) 0) fI fd) (T : ExK K C fI mroR "RuntimeError.__new__") (hno : PySem.W.findIn K (.ref C) "reason" = some none) (mB : mg "RuntimeError" = none)
    (fc : PySem.W.findCls K (.type "RuntimeError") (.type "type") "__init__" = some (.val (.builtin "RuntimeError.__init__")))
    (G : FnOk P w K mg base CX0 3 fC fdC ["value"] (spCopied 3)) (bG : Binds K fdC ["value"] []) (kG : PySem.W.keepIn K (.ref fC) = true) (mG : mg "copied" = some (.ref fC)) : FnOk P w K mg base CX0 4 fI fd ["self", "reason"] (spInitC K C "reason") := by
  refine F.ok scBarred (fun vs H Q E h => ?_) (fun cdv A outer s H vs Q E hr h => ?_)
  · obtain ⟨a, t, xs, d, rfl, _⟩ := h
    rfl
  · obtain ⟨a, t, xs, d, rfl, ea, et, hl, hs, hd, hsh, q⟩ := h
    refine ⟨_, pss_cons (ps_expr (pe_xin PySem.F.excBase_RuntimeError T (by rfl) mB (by decide +kernel) tyR (by decide +kernel) fc (pa_cons (pv 0) (pa_cons (pe_joined (PJ.cons pe_str (PJ.cons (pe_fmtX hr (pv 1)) PJ.nil))) pa_nil))))
      (pss_one (ps_xst PySem.F.store_RuntimeError T hno (pv 0) (pe_call G hr rfl mG kG bG .nil pass0 (pa_cons (pv 1) pa_nil)))), ?_⟩
    refine ⟨_, rfl, _, rfl, small_line (len_add sz0 (by decide +kernel : _ ≤ 100) (by decide : 0 + 100 ≤ 100000)), _, rfl, t, xs, rfl, SqT.of et, hl, hs, fun m hm => ?_⟩
    have l2 := len_add (k := 10000) (len_add (k := 100) (b := (("the image cannot be built: " : String) : Str)) sz0 (by decide +kernel : _ ≤ 100) (Nat.le_refl _)) hm (by decide)
    refine ⟨_, rfl, small_line (Nat.le_trans l2 (by decide)), ?_⟩
    refine ⟨a, _, rfl, (show 1 ≤ 1000 by decide), ea, ?_⟩
    refine ⟨_, rfl, .ref t, d, [], rfl, by rw [mask_nil]; exact hd, (fun b hb => absurd hb List.not_mem_nil), hsh, fun y H1 s1 d1 => ?_⟩
    rw [mask_nil] at d1
    exact ⟨_, rfl, a, rfl, s1 _ _ ea, fun dx n1 n2 => q y H1 dx s1 d1 n1 n2⟩
theorem scNotNow : FnScope ["self", "word"] ["self", "word"] (defScope (inClass (topS 10) 0)) := ⟨rfl, rfl, rfl, by decide +kernel, rfl, by decide +kernel, by decide +kernel⟩
theorem ok_NotNow (F : Fun K "__init__" "NotNow.__init__" (inClass (topS 10) 0) fI fd) (T : ExK K C fI mroR "RuntimeError.__new__") (hno : PySem.W.findIn K (.ref C) "word" = some none) (mB : mg "RuntimeError" = none)
    (fc : PySem.W.findCls K (.type "RuntimeError") (.type "type") "__init__" = some (.val (.builtin "RuntimeError.__init__"))) : FnOk P w K mg base CX0 1 fI fd ["self", "word"] (spInit C "word") := by
  refine F.ok scNotNow (fun vs H Q E h => ?_) (fun cdv A outer s H vs Q E hr h => ?_)
  · obtain ⟨a, y, rfl, _⟩ := h
    rfl
  · obtain ⟨a, y, rfl, ea, sy, q⟩ := h
    obtain ⟨m, hm, fm⟩ := said_fmt sy
    refine ⟨_, pss_cons (ps_expr (pe_xin PySem.F.excBase_RuntimeError T (by rfl) mB (by decide +kernel) tyR (by decide +kernel) fc (pa_cons (pv 0) (pa_cons (pe_joined (PJ.cons pe_str (PJ.cons (pe_fmt (pv 1)) PJ.nil))) pa_nil))))
      (pss_one (ps_xst PySem.F.store_RuntimeError T hno (pv 0) (pv 1))), ?_⟩
    refine ⟨_, rfl, _, rfl, small_line (len_add sz0 (by decide +kernel : _ ≤ 100) (by decide : 0 + 100 ≤ 100000)), ?_⟩
    show tFmt (tVar 1) _ _ _
    refine fm _ 1 _ _ rfl ?_
    have l2 := len_add (k := 10000) (len_add (k := 100) (b := (("the giver is in the phase " : String) : Str)) sz0 (by decide +kernel : _ ≤ 100) (Nat.le_refl _)) hm (by decide)
    refine ⟨_, rfl, small_line (Nat.le_trans l2 (by decide)), ?_⟩
    refine ⟨a, _, rfl, (show 1 ≤ 1000 by decide), ea, ?_⟩
    exact ⟨_, rfl, _, rfl, a, rfl, ea, q⟩
end
end K00
set_option Elab.async false
set_option linter.all false
set_option maxRecDepth 100000
set_option maxHeartbeats 4000000
namespace K00
open PySem PySem.Spec PyProof.Rows L2
abbrev sSame : Stmt := topS 20
abbrev nSame : List Str := ["_law_found", "_law_due", "_law_mine", "_law_its"]
theorem scSame : FnScope nSame ["_law_found", "_law_due"] (defScope sSame) := ⟨rfl, rfl, rfl, by decide +kernel, rfl, by decide +kernel, by decide +kernel⟩
/-- equal data: True -/
def spSame (n : Nat) : Sp := fun vs H Q _ => ∃ (x y : V) (d : PyData), vs = [x, y] ∧ Dx H x d ∧ Dx H y d ∧ Sh n d ∧ ∀ H', Same H H' → Q (.bl true) H'
theorem kit2 {K : PySem.W.Frag} {T a b : String} {r1 r2 : Bool} (h1 : kitB T a = some r1) (h2 : kitB T b = some r2) : PySem.W.kitAny K (.type T) [.type a, .type b] = some (r1 || r2) := by
  refine kitAny_cons (kit_ty h1) (fun e => ?_) (fun e => by rw [e]; rfl)
  rw [e]
  refine kitAny_cons (kit_ty h2) (fun e2 => by rw [e2]; exact kitAny_nil) (fun e2 => by rw [e2]; rfl)
theorem walk_zipT2 {K : PySem.W.Frag} {a b : Addr} {xs ys : List V} (hl : xs.length = ys.length) : Walk (RZ.ItzT K a b) xs.length (fun H => SqT K H a xs ∧ SqT K H b ys) (YPair (fun i => xs[i]?) (fun i => ys[i]?)) := by
  refine ⟨fun i _ hi q => ?_, fun _ q => ⟨xs, ys, q.1, q.2, .inl (Nat.le_refl _)⟩, fun i H v H' _ q y => ?_⟩
  · have h2 : i < ys.length := by omega
    exact ⟨xs, ys, xs[i], ys[i], q.1, q.2, List.getElem?_eq_getElem hi, List.getElem?_eq_getElem h2⟩
  · obtain ⟨T, x, z, h1, h2, h3, h4, h5⟩ := y
    exact ⟨T, x, z, h1, h2, h3, h4 xs q.1, h5 ys q.2⟩
section
variable {P : Program} {w : World} {K : PySem.W.Frag} {mg : Str → Option Value} {base : Heap} {f : Addr} {fd : FuncData}
theorem no_same : FnOk P w K mg base CX0 0 f fd ["_law_found", "_law_due"] (spSame 0) :=
  ⟨fun vs H Q E ⟨_, _, _, _, _, _, h, _⟩ => h.elim, fun _ _ _ _ _ _ _ _ _ _ _ _ _ ⟨_, _, _, _, _, _, h, _⟩ => h.elim⟩
theorem ok_same {n : Nat} (F : Fun K "_law_same" "_law_same" sSame f fd) (G : FnOk P w K mg base CX0 n f fd ["_law_found", "_law_due"] (spSame n)) (bG : Binds K fd ["_law_found", "_law_due"] []) (mG : mg "_law_same" = some (.ref f))
    (mI : mg "isinstance" = none) (mL : mg "list" = none) (mT : mg "tuple" = none) (mN : mg "len" = none) (mA : mg "all" = none) (mZ : mg "zip" = none) (mB : mg "bool" = none) (mS : mg "str" = none) (mi : mg "int" = none) :
    FnOk P w K mg base CX0 (n + 1) f fd ["_law_found", "_law_due"] (spSame (n + 1)) := by
  refine F.ok scSame (fun vs H Q E h => ?_) (fun cdv A outer s H vs Q E hr h => ?_)
  · obtain ⟨x, y, d, rfl, _⟩ := h
    rfl
  · obtain ⟨x, y, d, rfl, hx, hy, hs, q⟩ := h
    refine ⟨_, pss_cons (ps_if (pt_val (pe_callB call_isiT (by rfl) mI (by decide +kernel) (pa_cons (pv 1) (pa_cons (pe_tup (pa_cons (pe_bltn (v := .ty "list") (by rfl) mL (by decide +kernel) rfl) (pa_cons (pe_bltn (v := .ty "tuple") (by rfl) mT (by decide +kernel) rfl) pa_nil))) pa_nil))))
        (pss_cons (ps_if (PW.pt (pw_or (pt_cmpR op_ne (pe_callB call_isi (by rfl) mI (by decide +kernel) (pa_cons (pv 0) (pa_cons (pe_bltn (v := .ty "list") (by rfl) mL (by decide +kernel) rfl) pa_nil))) (pe_callB call_isi (by rfl) mI (by decide +kernel) (pa_cons (pv 1) (pa_cons (pe_bltn (v := .ty "list") (by rfl) mL (by decide +kernel) rfl) pa_nil))) (nomark _)) (pw_or1 (pt_cmpR op_ne (pe_callB call_isi (by rfl) mI (by decide +kernel) (pa_cons (pv 0) (pa_cons (pe_bltn (v := .ty "tuple") (by rfl) mT (by decide +kernel) rfl) pa_nil))) (pe_callB call_isi (by rfl) mI (by decide +kernel) (pa_cons (pv 1) (pa_cons (pe_bltn (v := .ty "tuple") (by rfl) mT (by decide +kernel) rfl) pa_nil))) (nomark _)))))
          (pss_one (ps_ret pe_bl)) pss_nil)
        (pss_one (ps_ret (pe_and (pe_cmpR op_eq (pe_callB call_len_seq (by rfl) mN PySem.boot_len (pa_cons (pv 0) pa_nil)) (pe_callB call_len_seq (by rfl) mN PySem.boot_len (pa_cons (pv 1) pa_nil)) (nomark _)) (pe_one (pe_callB (cr_all rfl) (by rfl) mA (by decide +kernel) (pa_cons
          (pe_lc (own := [("_law_mine", 2), ("_law_its", 3)]) (g := gTup _ 2 (gCons (gName 2) (gCons (gName 3) gNil))) (tt := tYes) rfl scSame.nd (RZ.pi_zipA (by rfl) mZ (pa_cons (pv 0) (pa_cons (pv 1) pa_nil))) (blkOk_by (N := nSame) (sc := defScope sSame) (by decide +kernel))
            (fun _ _ _ _ _ => pg_tup rfl (pgs_cons (pg_name (i := 2) scSame.nd rfl (Or.inl rfl)) (pgs_cons (pg_name (i := 3) scSame.nd rfl (Or.inl rfl)) pgs_nil))) (fun _ _ _ _ _ => pts_nil) (fun _ _ _ _ _ => pe_call G hr rfl mG F.kp bG .nil pass0 (pa_cons (pv 2) (pa_cons (pv 3) pa_nil)))) pa_nil))))))) pss_nil)
      (pss_cons (ps_if (PW.pt (pw_or (pt_cmp (pc_isN (pv 1))) (pw_or1 (pt_val (pe_callB call_isiT (by rfl) mI (by decide +kernel) (pa_cons (pv 1) (pa_cons (pe_tup (pa_cons (pe_bltn (v := .ty "bool") (by rfl) mB (by decide +kernel) rfl) (pa_cons (pe_bltn (v := .ty "str") (by rfl) mS (by decide +kernel) rfl) pa_nil))) pa_nil)))))))
        (pss_one (ps_ret (pe_and (pe_cmpR op_eq (pv 0) (pv 1) (nomark _)) (pe_and (pe_cmpR op_eq (pe_callB call_isi (by rfl) mI (by decide +kernel) (pa_cons (pv 0) (pa_cons (pe_bltn (v := .ty "bool") (by rfl) mB (by decide +kernel) rfl) pa_nil))) (pe_callB call_isi (by rfl) mI (by decide +kernel) (pa_cons (pv 1) (pa_cons (pe_bltn (v := .ty "bool") (by rfl) mB (by decide +kernel) rfl) pa_nil))) (nomark _)) (pe_one (pe_cmpR op_eq (pe_cmp (pc_isN (pv 0))) (pe_cmp (pc_isN (pv 1))) (nomark _)))))))  pss_nil)
      (pss_one (ps_ret (pe_and (pe_callB call_isi (by rfl) mI (by decide +kernel) (pa_cons (pv 0) (pa_cons (pe_bltn (v := .ty "int") (by rfl) mi (by decide +kernel) rfl) pa_nil))) (pe_and (pe_not (pe_callB call_isi (by rfl) mI (by decide +kernel) (pa_cons (pv 0) (pa_cons (pe_bltn (v := .ty "bool") (by rfl) mB (by decide +kernel) rfl) pa_nil)))) (pe_one (pe_cmpR op_eq (pv 0) (pv 1) (nomark _)))))))), ?_⟩
    cases hx with
    | non =>
      cases hy
      refine ⟨_, rfl, by show 2 ≤ sizeLine; decide, fun t1 n1 => ⟨_, t1, _, _, _, false, rfl, upd_same, .cons (.ty _) (.cons (.ty _) .nil), .base .non, kit2 (T := "NoneType") (a := "list") (b := "tuple") (r1 := false) (r2 := false) (by decide +kernel) (by decide +kernel), _, rfl, iteF ?_⟩⟩
      have s1 := same_new (o := HO.tup [.ty "list", .ty "tuple"]) n1
      refine ⟨_, rfl, _, rfl, iteT (iteT ?_)⟩
      refine ⟨_, rfl, _, rfl, rfl, _, rfl, iteT ?_⟩
      refine ⟨_, rfl, _, _, _, _, false, rfl, .ty _, .base .non, kit_ty (by decide +kernel), _, rfl, _, _, _, _, false, rfl, .ty _, .base .non, kit_ty (by decide +kernel), rfl, _, rfl, iteT ?_⟩
      exact ⟨_, rfl, _, rfl, rfl, q _ s1⟩
    | bl b =>
      cases hy
      refine ⟨_, rfl, by show 2 ≤ sizeLine; decide, fun t1 n1 => ⟨_, t1, _, _, _, false, rfl, upd_same, .cons (.ty _) (.cons (.ty _) .nil), .base (.bl b), kit2 (T := "bool") (a := "list") (b := "tuple") (r1 := false) (r2 := false) (by decide +kernel) (by decide +kernel), _, rfl, iteF ?_⟩⟩
      have s1 := same_new (o := HO.tup [.ty "list", .ty "tuple"]) n1
      refine ⟨_, rfl, _, rfl, iteF ?_⟩
      refine ⟨_, rfl, by show 2 ≤ sizeLine; decide, fun t2 n2 => ⟨_, t2, _, _, _, true, rfl, upd_same, .cons (.ty _) (.cons (.ty _) .nil), .base (.bl b), kit2 (T := "bool") (a := "bool") (b := "str") (r1 := true) (r2 := false) (by decide +kernel) (by decide +kernel), _, rfl, iteT ?_⟩⟩
      have s2 := s1.trans (same_new (o := HO.tup [.ty "bool", .ty "str"]) n2)
      refine ⟨_, rfl, _, rfl, rfl, _, rfl, ?_⟩
      rw [decide_eq_true (rfl : (V.bl b) = V.bl b)]
      refine iteT ⟨_, rfl, _, _, _, _, true, rfl, .ty _, .base (.bl b), kit_ty (by decide +kernel), _, rfl, _, _, _, _, true, rfl, .ty _, .base (.bl b), kit_ty (by decide +kernel), rfl, _, rfl, iteT ?_⟩
      exact ⟨_, rfl, _, rfl, rfl, q _ s2⟩
    | str z =>
      cases hy
      refine ⟨_, rfl, by show 2 ≤ sizeLine; decide, fun t1 n1 => ⟨_, t1, _, _, _, false, rfl, upd_same, .cons (.ty _) (.cons (.ty _) .nil), .base (.str z), kit2 (T := "str") (a := "list") (b := "tuple") (r1 := false) (r2 := false) (by decide +kernel) (by decide +kernel), _, rfl, iteF ?_⟩⟩
      have s1 := same_new (o := HO.tup [.ty "list", .ty "tuple"]) n1
      refine ⟨_, rfl, _, rfl, iteF ?_⟩
      refine ⟨_, rfl, by show 2 ≤ sizeLine; decide, fun t2 n2 => ⟨_, t2, _, _, _, true, rfl, upd_same, .cons (.ty _) (.cons (.ty _) .nil), .base (.str z), kit2 (T := "str") (a := "bool") (b := "str") (r1 := false) (r2 := true) (by decide +kernel) (by decide +kernel), _, rfl, iteT ?_⟩⟩
      have s2 := s1.trans (same_new (o := HO.tup [.ty "bool", .ty "str"]) n2)
      refine ⟨_, rfl, _, rfl, rfl, _, rfl, ?_⟩
      rw [decide_eq_true (rfl : (V.str z) = V.str z)]
      refine iteT ⟨_, rfl, _, _, _, _, false, rfl, .ty _, .base (.str z), kit_ty (by decide +kernel), _, rfl, _, _, _, _, false, rfl, .ty _, .base (.str z), kit_ty (by decide +kernel), rfl, _, rfl, iteT ?_⟩
      exact ⟨_, rfl, _, rfl, rfl, q _ s2⟩
    | int i =>
      cases hy
      refine ⟨_, rfl, by show 2 ≤ sizeLine; decide, fun t1 n1 => ⟨_, t1, _, _, _, false, rfl, upd_same, .cons (.ty _) (.cons (.ty _) .nil), .base (.int i), kit2 (T := "int") (a := "list") (b := "tuple") (r1 := false) (r2 := false) (by decide +kernel) (by decide +kernel), _, rfl, iteF ?_⟩⟩
      have s1 := same_new (o := HO.tup [.ty "list", .ty "tuple"]) n1
      refine ⟨_, rfl, _, rfl, iteF ?_⟩
      refine ⟨_, rfl, by show 2 ≤ sizeLine; decide, fun t2 n2 => ⟨_, t2, _, _, _, false, rfl, upd_same, .cons (.ty _) (.cons (.ty _) .nil), .base (.int i), kit2 (T := "int") (a := "bool") (b := "str") (r1 := false) (r2 := false) (by decide +kernel) (by decide +kernel), _, rfl, iteF ?_⟩⟩
      have s2 := s1.trans (same_new (o := HO.tup [.ty "bool", .ty "str"]) n2)
      refine ⟨_, rfl, _, _, _, _, true, rfl, .ty _, .base (.int i), kit_ty (by decide +kernel), _, rfl, iteT ?_⟩
      refine ⟨_, rfl, _, _, _, _, false, rfl, .ty _, .base (.int i), kit_ty (by decide +kernel), _, rfl, _, rfl, iteT ?_⟩
      refine ⟨_, rfl, _, rfl, rfl, ?_⟩
      rw [decide_eq_true (rfl : (V.int i) = V.int i)]
      exact q _ s2
    | @lst a xs ds ea hxs =>
      cases hy with
      | @lst b ys _ eb hys =>
        have hlen : xs.length = ys.length := hxs.length.trans hys.length.symm
        refine ⟨_, rfl, by show 2 ≤ sizeLine; decide, fun t1 n1 => ?_⟩
        have s1 := same_new (o := HO.tup [.ty "list", .ty "tuple"]) n1
        refine ⟨_, t1, _, _, _, true, rfl, upd_same, .cons (.ty _) (.cons (.ty _) .nil), .base (.lst (s1 _ _ eb)), kit2 (T := "list") (a := "list") (b := "tuple") (r1 := true) (r2 := false) (by decide +kernel) (by decide +kernel), _, rfl, iteT ?_⟩
        refine ⟨_, rfl, _, _, _, _, true, rfl, .ty _, .base (.lst (s1 _ _ ea)), kit_ty (by decide +kernel), _, rfl, _, _, _, _, true, rfl, .ty _, .base (.lst (s1 _ _ eb)), kit_ty (by decide +kernel), rfl, _, rfl, iteF ?_⟩
        refine ⟨_, rfl, _, _, _, _, false, rfl, .ty _, .base (.lst (s1 _ _ ea)), kit_ty (by decide +kernel), _, rfl, _, _, _, _, false, rfl, .ty _, .base (.lst (s1 _ _ eb)), kit_ty (by decide +kernel), rfl, _, rfl, iteF ?_⟩
        refine ⟨_, rfl, a, xs, rfl, .inl (SqL.of (s1 _ _ ea)), _, rfl, b, ys, rfl, .inl (SqL.of (s1 _ _ eb)), rfl, _, rfl, ?_⟩
        rw [hlen, decide_eq_true (rfl : (V.int (ys.length : Int)) = V.int (ys.length : Int))]
        refine iteT ?_
        refine ⟨_, rfl, _, rfl, a, b, xs, ys, rfl, .inl ⟨SqL.of (s1 _ _ ea), SqL.of (s1 _ _ eb), fun D nD => ?_⟩⟩
        have nDH : H D = none := s1.free nD
        refine lc_it (walk_zip (n := xs.length) (by omega)) (fun i H3 => Same H H3 ∧ H3 D = some (.lst ((List.replicate i true).map V.bl)))
          ⟨s1.trans (same_new nD), upd_same⟩ (fun i H3 _ p => ⟨SqL.of (p.1 _ _ ea), SqL.of (p.1 _ _ eb)⟩) ?_ ?_
        · rintro i x H3 H4 hi ⟨s3, eD⟩ ⟨t, x1, x2, rfl, nt, rfl, f1, f2⟩
          have f1' : xs[i]? = some x1 := f1
          have f2' : ys[i]? = some x2 := f2
          obtain ⟨d1, e1, g1⟩ := hxs.get f1'
          obtain ⟨d2, e2, g2⟩ := hys.get f2'
          obtain rfl : d1 = d2 := Option.some.inj (e1.symm.trans e2)
          have s4 := s3.trans (same_new (o := HO.tup [x1, x2]) nt)
          refine ⟨t, _, rfl, .inl (.inl upd_same), rfl, _, _, rfl, _, _, rfl, rfl, rfl, _, rfl, _, rfl, x1, x2, d1, rfl, g1.mono s4, g2.mono s4, hs.2 d1 (List.mem_of_getElem? e1), fun H5 s5 => ?_⟩
          refine ⟨_, s5 _ _ ((upd_ne (ne_of_none eD nt)).trans eD), ?_, same_mut (s4.trans s5) nDH, ?_⟩
          · rw [List.length_map, List.length_replicate]
            have z := hs.1
            have z2 := hxs.length
            exact Nat.lt_of_le_of_lt (show i ≤ 1000 by omega) (by decide)
          · rw [upd_same, List.replicate_succ', List.map_append]
            rfl
        · rintro H3 ⟨s3, eD⟩
          refine ⟨D, _, rfl, SqL.of eD, ?_⟩
          have al : (List.replicate xs.length true).all id = true := by
            rw [List.all_eq_true]
            intro z hz
            rw [List.eq_of_mem_replicate hz]
            rfl
          rw [al]
          exact q _ s3
    | @tup a xs ds ea hxs =>
      cases hy with
      | @tup b ys _ eb hys =>
        have hlen : xs.length = ys.length := hxs.length.trans hys.length.symm
        refine ⟨_, rfl, by show 2 ≤ sizeLine; decide, fun t1 n1 => ?_⟩
        have s1 := same_new (o := HO.tup [.ty "list", .ty "tuple"]) n1
        refine ⟨_, t1, _, _, _, true, rfl, upd_same, .cons (.ty _) (.cons (.ty _) .nil), .base (.tup (s1 _ _ eb)), kit2 (T := "tuple") (a := "list") (b := "tuple") (r1 := false) (r2 := true) (by decide +kernel) (by decide +kernel), _, rfl, iteT ?_⟩
        refine ⟨_, rfl, _, _, _, _, false, rfl, .ty _, .base (.tup (s1 _ _ ea)), kit_ty (by decide +kernel), _, rfl, _, _, _, _, false, rfl, .ty _, .base (.tup (s1 _ _ eb)), kit_ty (by decide +kernel), rfl, _, rfl, iteF ?_⟩
        refine ⟨_, rfl, _, _, _, _, true, rfl, .ty _, .base (.tup (s1 _ _ ea)), kit_ty (by decide +kernel), _, rfl, _, _, _, _, true, rfl, .ty _, .base (.tup (s1 _ _ eb)), kit_ty (by decide +kernel), rfl, _, rfl, iteF ?_⟩
        refine ⟨_, rfl, a, xs, rfl, .inr (SqT.of (s1 _ _ ea)), _, rfl, b, ys, rfl, .inr (SqT.of (s1 _ _ eb)), rfl, _, rfl, ?_⟩
        rw [hlen, decide_eq_true (rfl : (V.int (ys.length : Int)) = V.int (ys.length : Int))]
        refine iteT ?_
        refine ⟨_, rfl, _, rfl, a, b, xs, ys, rfl, .inr ⟨SqT.of (s1 _ _ ea), SqT.of (s1 _ _ eb), fun D nD => ?_⟩⟩
        have nDH : H D = none := s1.free nD
        refine lc_it (walk_zipT2 hlen) (fun i H3 => Same H H3 ∧ H3 D = some (.lst ((List.replicate i true).map V.bl)))
          ⟨s1.trans (same_new nD), upd_same⟩ (fun i H3 _ p => ⟨SqT.of (p.1 _ _ ea), SqT.of (p.1 _ _ eb)⟩) ?_ ?_
        · rintro i x H3 H4 hi ⟨s3, eD⟩ ⟨t, x1, x2, rfl, nt, rfl, f1, f2⟩
          have f1' : xs[i]? = some x1 := f1
          have f2' : ys[i]? = some x2 := f2
          obtain ⟨d1, e1, g1⟩ := hxs.get f1'
          obtain ⟨d2, e2, g2⟩ := hys.get f2'
          obtain rfl : d1 = d2 := Option.some.inj (e1.symm.trans e2)
          have s4 := s3.trans (same_new (o := HO.tup [x1, x2]) nt)
          refine ⟨t, _, rfl, .inl (.inl upd_same), rfl, _, _, rfl, _, _, rfl, rfl, rfl, _, rfl, _, rfl, x1, x2, d1, rfl, g1.mono s4, g2.mono s4, hs.2 d1 (List.mem_of_getElem? e1), fun H5 s5 => ?_⟩
          refine ⟨_, s5 _ _ ((upd_ne (ne_of_none eD nt)).trans eD), ?_, same_mut (s4.trans s5) nDH, ?_⟩
          · rw [List.length_map, List.length_replicate]
            have z := hs.1
            have z2 := hxs.length
            exact Nat.lt_of_le_of_lt (show i ≤ 1000 by omega) (by decide)
          · rw [upd_same, List.replicate_succ', List.map_append]
            rfl
        · rintro H3 ⟨s3, eD⟩
          refine ⟨D, _, rfl, SqL.of eD, ?_⟩
          have al : (List.replicate xs.length true).all id = true := by
            rw [List.all_eq_true]
            intro z hz
            rw [List.eq_of_mem_replicate hz]
            rfl
          rw [al]
          exact q _ s3
end
end K00
set_option Elab.async false
set_option linter.all false
set_option maxRecDepth 100000
set_option maxHeartbeats 4000000
namespace K00
open PySem PySem.Spec PyProof.Rows L2
abbrev sValues : Stmt := topS 21
theorem scValues : FnScope ["_law_source", "_law_number_so", "_law_reason_so"] ["_law_source"] (defScope sValues) :=
  ⟨rfl, rfl, rfl, by decide +kernel, rfl, by decide +kernel, by decide +kernel⟩
/-- all but p is as it was -/
def SameBut (p : Addr) (H H' : Hp) : Prop := ∀ b o, b ≠ p → H b = some o → H' b = some o
theorem SameBut.trans {p : Addr} {H H1 H2 : Hp} (a : SameBut p H H1) (b : SameBut p H1 H2) : SameBut p H H2 := fun c o n e => b c o n (a c o n e)
theorem Same.but {p : Addr} {H H' : Hp} (s : Same H H') : SameBut p H H' := fun b o _ e => s b o e
theorem but_upd {p : Addr} {H : Hp} {o : HO} : SameBut p H (upd H p o) := fun b u n e => (upd_ne n).trans e
theorem Src.same {H H' : Hp} {p : Addr} {c : Int} (S : Src H p c) (s : Same H H') : Src H' p c := by
  obtain ⟨a, b, e, r⟩ := S
  exact ⟨a, b, s _ _ e, r⟩
theorem Src.ne {H : Hp} {p q : Addr} {c : Int} (S : Src H p c) (h : H q = none) : q ≠ p := fun z => by
  obtain ⟨a, b, e, r⟩ := S
  rw [z, e] at h
  cases h
/-- a reason that an error is made with -/
structure Reason (K : PySem.W.Frag) (H : Hp) (t : Addr) (d : PyData) : Prop where
  sh : ∃ xs : List V, H t = some (.tup xs) ∧ xs.length ≤ 5 ∧ ∀ y ∈ xs, Showy K H y
  dx : Dx H (.ref t) d
  deep : Sh 3 d
def spValues (K : PySem.W.Frag) : Sp := fun vs H Q _ => ∃ (p : Addr) (c : Int), vs = [.ref p] ∧ Src H p c ∧ c + 20 < 2 ^ 60 ∧
  ∀ (l t : Addr) (n : Int) (z : Str) (d : PyData) (c' : Int) (H' : Hp), n.natAbs < 2 ^ 50 → z.length ≤ 90 → SameBut p H H' → Src H' p c' → c ≤ c' → c' ≤ c + 5 → H l = none → H' l = some (.lst [.int n, .str z, .ref t]) → Reason K H' t d → Q (.ref l) H'
section
variable {P : Program} {w : World} {K : PySem.W.Frag} {mg : Str → Option Value} {base : Heap} {f fD fP : Addr} {fd fdD fdP : FuncData}
theorem ok_values (F : Fun K "_law_values" "_law_values" sValues f fd) (G : FnOk P w K mg base CX0 2 fD fdD ["_law_source", "_law_bound"] (spDraw 2)) (bG : Binds K fdD ["_law_source", "_law_bound"] []) (kG : PySem.W.keepIn K (.ref fD) = true) (mG : mg "_law_draw" = some (.ref fD))
    (GP : FnOk P w K mg base CX0 3 fP fdP ["_law_source", "_law_some"] spPick) (bP : Binds K fdP ["_law_source", "_law_some"] []) (kP : PySem.W.keepIn K (.ref fP) = true) (mP : mg "_law_pick" = some (.ref fP)) :
    FnOk P w K mg base CX0 4 f fd ["_law_source"] (spValues K) := by
  refine F.ok scValues (fun vs H Q E h => ?_) (fun cdv A outer s H vs Q E hr h => ?_)
  · obtain ⟨p, c, rfl, _⟩ := h
    rfl
  · obtain ⟨p, c, rfl, S, hc, q⟩ := h
    refine ⟨_, pss_cons (ps_set (i := 1) scValues.nd rfl (.inl rfl) (pe_call GP hr rfl mP kP bP .nil pass0 (pa_cons (pv 0) (pa_cons (pe_lst (pa_cons pe_int (pa_cons pe_int (pa_cons (pe_un un_neg pe_int) (pa_cons pe_int (pa_cons
          (pe_call G (hr.mono (by decide)) rfl mG kG bG .nil pass0 (pa_cons (pv 0) (pa_cons (pe_op op_pow pe_int pe_int) pa_nil))) pa_nil)))))) pa_nil))))
      (pss_cons (ps_set (i := 2) scValues.nd rfl (.inl rfl) (pe_call GP hr rfl mP kP bP .nil pass0 (pa_cons (pv 0) (pa_cons (pe_lst (pa_cons (pe_tup (pa_cons pe_str (pa_cons pe_str pa_nil))) (pa_cons (pe_tup (pa_cons pe_str (pa_cons (pv 1) pa_nil)))
          (pa_cons (pe_tup (pa_cons pe_str (pa_cons (pv 1) (pa_cons pe_int pa_nil)))) (pa_cons (pe_tup (pa_cons pe_str (pa_cons (pe_lst (pa_cons pe_int (pa_cons pe_int pa_nil))) pa_nil))) pa_nil))))) pa_nil))))
      (pss_one (ps_ret (pe_lst (pa_cons (pv 1) (pa_cons (pe_call GP hr rfl mP kP bP .nil pass0 (pa_cons (pv 0) (pa_cons (pe_lst (pa_cons pe_str (pa_cons pe_str (pa_cons pe_str (pa_cons pe_str pa_nil))))) pa_nil))) (pa_cons (pv 2) pa_nil))))))), ?_⟩
    -- number
    refine ⟨_, rfl, _, rfl, _, rfl, _, _, rfl, rfl, ⟨by decide, by decide, by decide⟩, p, c, _, rfl, S, by omega, by decide, by decide, .inr ⟨by decide, by decide⟩, fun r c1 ys r0 r1 c10 c11 _ S1 => ⟨by show 5 ≤ sizeLine; decide, fun l1 n1 => ?_⟩⟩
    have b1 : SameBut p H (upd H p (.lst ys)) := but_upd
    generalize upd H p (.lst ys) = H1 at S1 n1 b1 ⊢
    have nl1 := S1.ne n1
    refine ⟨p, l1, c1, _, rfl, S1.same (same_new n1), by omega, nl1, upd_same, (show 0 < 5 by decide), (show 5 ≤ 1000 by decide), fun j v c2 zs ev c20 c21 S2 => ?_⟩
    obtain ⟨n, rfl, hn⟩ : ∃ n : Int, v = .int n ∧ n.natAbs < 2 ^ 50 := by
      have r1' : r < 1000000000000 := r1
      have m := List.mem_of_getElem? ev
      simp only [List.mem_cons, List.not_mem_nil, or_false] at m
      rcases m with rfl | rfl | rfl | rfl | rfl
      · exact ⟨0, rfl, by decide⟩
      · exact ⟨7, rfl, by decide⟩
      · exact ⟨-3, rfl, by decide⟩
      · exact ⟨199, rfl, by decide⟩
      · exact ⟨r, rfl, by omega⟩
    have b2 : SameBut p H (upd (upd H1 l1 (.lst [.int 0, .int 7, (fun i => V.int (-i)) 3, .int 199, .int r])) p (.lst zs)) := (b1.trans (Same.but (same_new n1))).trans but_upd
    generalize upd (upd H1 l1 (.lst [.int 0, .int 7, (fun i => V.int (-i)) 3, .int 199, .int r])) p (.lst zs) = H2 at S2 b2 ⊢
    -- reason
    refine ⟨_, rfl, by show 2 ≤ sizeLine; decide, fun t1 m1 => ?_⟩
    have s1 := same_new (o := HO.tup [.str "path", .str "log"]) m1
    have e1 : upd H2 t1 (.tup [.str "path", .str "log"]) t1 = _ := upd_same
    generalize upd H2 t1 (.tup [.str "path", .str "log"]) = H3 at s1 e1 ⊢
    refine ⟨_, rfl, by show 2 ≤ sizeLine; decide, fun t2 m2 => ?_⟩
    have s2 := same_new (o := HO.tup [.str "number", .int n]) m2
    have e2 : upd H3 t2 (.tup [.str "number", .int n]) t2 = _ := upd_same
    generalize upd H3 t2 (.tup [.str "number", .int n]) = H4 at s2 e2 ⊢
    refine ⟨_, rfl, by show 3 ≤ sizeLine; decide, fun t3 m3 => ?_⟩
    have s3 := same_new (o := HO.tup [.str "session", .int n, .int 5]) m3
    have e3 : upd H4 t3 (.tup [.str "session", .int n, .int 5]) t3 = _ := upd_same
    generalize upd H4 t3 (.tup [.str "session", .int n, .int 5]) = H5 at s3 e3 ⊢
    refine ⟨by show 2 ≤ sizeLine; decide, fun q4 m4 => ?_⟩
    have s4 := same_new (o := HO.lst [.int 2, .int 9]) m4
    have e4 : upd H5 q4 (.lst [.int 2, .int 9]) q4 = _ := upd_same
    generalize upd H5 q4 (.lst [.int 2, .int 9]) = H6 at s4 e4 ⊢
    refine ⟨by show 2 ≤ sizeLine; decide, fun t4 m5 => ?_⟩
    have s5 := same_new (o := HO.tup [.str "ring", .ref q4]) m5
    have e5 : upd H6 t4 (.tup [.str "ring", .ref q4]) t4 = _ := upd_same
    generalize upd H6 t4 (.tup [.str "ring", .ref q4]) = H7 at s5 e5 ⊢
    refine ⟨by show 4 ≤ sizeLine; decide, fun l2 m6 => ?_⟩
    have s37 := s4.trans s5
    have s27 := s3.trans s37
    have s17 := s2.trans s27
    have s07 := s1.trans s17
    have S7 := S2.same s07
    have nl2 := S7.ne m6
    refine ⟨p, l2, c2, _, rfl, S7.same (same_new m6), by omega, nl2, upd_same, (show 0 < 4 by decide), (show 4 ≤ 1000 by decide), fun j2 v2 c3 zs3 ev2 c30 c31 S3 => ?_⟩
    have hlog : n.natAbs.log2 < 900 := by
      have z : n.natAbs.log2 < 50 := PySem.Flt.log2_lt_of (by decide) hn
      omega
    have f7 : ∀ {b : Addr} {o : HO}, H7 b = some o → b ≠ p → upd (upd H7 l2 (.lst [.ref t1, .ref t2, .ref t3, .ref t4])) p (.lst zs3) b = some o := fun {b o} e ne => by
      rw [upd_ne ne]
      exact same_new m6 _ _ e
    have np : ∀ {b : Addr} {xs : List V}, H7 b = some (.tup xs) → b ≠ p := fun {b xs} e z => by
      obtain ⟨_, _, e0, _⟩ := S7
      rw [z, e0] at e
      cases e
    have p1 := np (s17 _ _ e1)
    have p2 := np (s27 _ _ e2)
    have p3 := np (s37 _ _ e3)
    have p4 := np e5
    have g1 := f7 (s17 _ _ e1) (np (s17 _ _ e1))
    have g2 := f7 (s27 _ _ e2) (np (s27 _ _ e2))
    have g3 := f7 (s37 _ _ e3) (np (s37 _ _ e3))
    have g4 := f7 e5 (np e5)
    have nq : q4 ≠ p := (S2.same (s1.trans (s2.trans s3))).ne m4
    have g5 := f7 (s5 _ _ e4) nq
    have b3 : SameBut p H (upd (upd H7 l2 (.lst [.ref t1, .ref t2, .ref t3, .ref t4])) p (.lst zs3)) := (b2.trans (Same.but (s07.trans (same_new m6)))).trans but_upd
    generalize upd (upd H7 l2 (.lst [.ref t1, .ref t2, .ref t3, .ref t4])) p (.lst zs3) = H8 at S3 b3 g1 g2 g3 g4 g5 ⊢
    obtain ⟨t, d, rfl, R⟩ : ∃ (t : Addr) (d : PyData), v2 = .ref t ∧ ∀ H', SameBut p H8 H' → Reason K H' t d := by
      have m := List.mem_of_getElem? ev2
      simp only [List.mem_cons, List.not_mem_nil, or_false] at m
      rcases m with rfl | rfl | rfl | rfl
      · exact ⟨t1, .tuple [.str "path", .str "log"], rfl, fun H' hb => ⟨⟨_, hb _ _ p1 g1, by decide, fun y hy => by
          simp only [List.mem_cons, List.not_mem_nil, or_false] at hy
          rcases hy with rfl | rfl
          · exact .str (by decide +kernel) (by decide +kernel)
          · exact .str (by decide +kernel) (by decide +kernel)⟩, .tup (hb _ _ p1 g1) (.cons (.str _) (.cons (.str _) .nil)), by simp [Sh]⟩⟩
      · exact ⟨t2, .tuple [.str "number", .int n], rfl, fun H' hb => ⟨⟨_, hb _ _ p2 g2, (show 2 ≤ 5 by decide), fun y hy => by
          simp only [List.mem_cons, List.not_mem_nil, or_false] at hy
          rcases hy with rfl | rfl
          · exact .str (by decide +kernel) (by decide +kernel)
          · exact .num hlog⟩, .tup (hb _ _ p2 g2) (.cons (.str _) (.cons (.int _) .nil)), by simp [Sh]⟩⟩
      · exact ⟨t3, .tuple [.str "session", .int n, .int 5], rfl, fun H' hb => ⟨⟨_, hb _ _ p3 g3, (show 3 ≤ 5 by decide), fun y hy => by
          simp only [List.mem_cons, List.not_mem_nil, or_false] at hy
          rcases hy with rfl | rfl | rfl
          · exact .str (by decide +kernel) (by decide +kernel)
          · exact .num hlog
          · exact .num (by decide)⟩, .tup (hb _ _ p3 g3) (.cons (.str _) (.cons (.int _) (.cons (.int _) .nil))), by simp [Sh]⟩⟩
      · exact ⟨t4, .tuple [.str "ring", .list [.int 2, .int 9]], rfl, fun H' hb => ⟨⟨_, hb _ _ p4 g4, (show 2 ≤ 5 by decide), fun y hy => by
          simp only [List.mem_cons, List.not_mem_nil, or_false] at hy
          rcases hy with rfl | rfl
          · exact .str (by decide +kernel) (by decide +kernel)
          · exact .two (SqL.of (hb _ _ nq g5))⟩, .tup (hb _ _ p4 g4) (.cons (.str _) (.cons (.lst (hb _ _ nq g5) (.cons (.int _) (.cons (.int _) .nil))) .nil)), by simp [Sh]⟩⟩
    -- [number, word, reason]
    refine ⟨_, rfl, _, rfl, by show 4 ≤ sizeLine; decide, fun l3 m7 => ?_⟩
    have nl3 := S3.ne m7
    refine ⟨p, l3, c3, _, rfl, S3.same (same_new m7), by omega, nl3, upd_same, (show 0 < 4 by decide), (show 4 ≤ 1000 by decide), fun j3 v3 c4 zs4 ev3 c40 c41 S4 => ?_⟩
    obtain ⟨z, rfl, hz⟩ : ∃ z : Str, v3 = .str z ∧ z.length ≤ 90 := by
      have m := List.mem_of_getElem? ev3
      simp only [List.mem_cons, List.not_mem_nil, or_false] at m
      rcases m with rfl | rfl | rfl | rfl
      · exact ⟨_, rfl, by decide +kernel⟩
      · exact ⟨_, rfl, by decide +kernel⟩
      · exact ⟨_, rfl, by decide +kernel⟩
      · exact ⟨_, rfl, by decide +kernel⟩
    refine ⟨_, rfl, by show 3 ≤ sizeLine; decide, fun l m8 => ?_⟩
    have b8 : SameBut p H8 (upd (upd (upd H8 l3 (.lst [.str "runs", .str "frozen", .str "given", .str ""])) p (.lst zs4)) l (.lst [.int n, .str z, .ref t])) := ((Same.but (same_new m7)).trans but_upd).trans (Same.but (same_new m8))
    refine q l t n z d c4 _ hn hz (b3.trans b8) (S4.same (same_new m8)) (by omega) (by omega) ?_ upd_same (R _ b8)
    have np8 := S4.ne m8
    cases e : H l with
    | none => rfl
    | some o =>
      have z1 := b3 l o np8 e
      have z2 := (same_new (o := HO.lst [.str "runs", .str "frozen", .str "given", .str ""]) m7) _ _ z1
      rw [upd_ne np8, z2] at m8
      cases m8
end
end K00
set_option Elab.async false
set_option linter.all false
set_option maxRecDepth 100000
set_option maxHeartbeats 4000000
namespace K00
open PySem PySem.Spec PyProof.Rows L2
/-- at a: an error of the class at C whose field f is y -/
def ErrAt (H : Hp) (C : Addr) (f : Str) (y : V) (a : Addr) : Prop := ∃ dx, H a = some (exo a C (some dx)) ∧ H dx = some (exd dx [(f, y)])
theorem ErrAt.mono {H H' : Hp} {C a : Addr} {f : Str} {y : V} (s : Same H H') (h : ErrAt H C f y a) : ErrAt H' C f y a := by
  obtain ⟨dx, e1, e2⟩ := h
  exact ⟨dx, s _ _ e1, s _ _ e2⟩
/-- an error of the class at C, with a field or without -/
def Has (H : Hp) (C a : Addr) : Prop := ∃ d : Option Addr, H a = some (exo a C d) ∧ ∀ dx, d = some dx → ∃ fs, H dx = some (exd dx fs)
theorem Has.mono {H H' : Hp} {C a : Addr} (s : Same H H') (h : Has H C a) : Has H' C a := by
  obtain ⟨d, e1, e2⟩ := h
  refine ⟨d, s _ _ e1, fun dx e => ?_⟩
  obtain ⟨fs, e3⟩ := e2 dx e
  exact ⟨fs, s _ _ e3⟩
theorem ErrAt.has {H : Hp} {C a : Addr} {f : Str} {y : V} (h : ErrAt H C f y a) : Has H C a := by
  obtain ⟨dx, e1, e2⟩ := h
  exact ⟨some dx, e1, fun dx' e => ⟨_, by cases e; exact e2⟩⟩
theorem made_new {H : Hp} {a dx C : Addr} {f : Str} {y : V} (na : H a = none) (nd : H dx = none) (ne : dx ≠ a) :
    Same H (upd (upd (upd H a (exo a C none)) dx (exd dx [(f, y)])) a (exo a C (some dx))) ∧ ErrAt (upd (upd (upd H a (exo a C none)) dx (exd dx [(f, y)])) a (exo a C (some dx))) C f y a := by
  refine ⟨fun b o e => ?_, dx, upd_same, ?_⟩
  · have h1 := ne_of_none e na
    have h2 := ne_of_none e nd
    rw [upd_ne h1, upd_ne h2, upd_ne h1]
    exact e
  · rw [upd_ne ne, upd_same]
theorem xmk_step {C : Addr} {f : Str} {y : V} {σ : L2.St} {j : Nat} {H : Hp} {Q : VK} (e : σ[j]? = some (some y)) (hs : Said y) (q : ∀ a H', Same H H' → ErrAt H' C f y a → Q (.ref a) H') : tXmk C (spInit C f) (tCons (tVar j) tNil) σ H Q := by
  refine ⟨y, e, (show 1 ≤ 1000 by decide), fun a na => ⟨a, y, rfl, upd_same, hs, fun dx nd ne => ⟨rfl, ?_⟩⟩⟩
  rw [upd_ne ne] at nd
  have z := made_new (C := C) (f := f) (y := y) na nd ne
  exact q a _ z.1 z.2
theorem xmkK_step {C : Addr} {f : Str} {y : V} {σ : L2.St} {j : Nat} {H : Hp} {Q : VK} (e : σ[j]? = some (some y)) (hs : Said y) (q : ∀ a H', Same H H' → ErrAt H' C f y a → Q (.ref a) H') : tXmkK C (spInit C f) (tCons (tVar j) tNil) σ H Q := by
  refine ⟨y, e, rfl, fun a na => ⟨a, y, rfl, upd_same, hs, fun dx nd ne => ⟨rfl, ?_⟩⟩⟩
  rw [upd_ne ne] at nd
  have z := made_new (C := C) (f := f) (y := y) na nd ne
  exact q a _ z.1 z.2
theorem _root_.L2.Showy.mono {K : PySem.W.Frag} {H H' : Hp} {v : V} (s : Same H H') (h : Showy K H v) : Showy K H' v := by
  cases h with
  | str a b => exact .str a b
  | num a => exact .num a
  | two h => exact .two (s.seq h)
theorem Reason.mono {K : PySem.W.Frag} {H H' : Hp} {t : Addr} {d : PyData} (s : Same H H') (h : Reason K H t d) : Reason K H' t d := by
  obtain ⟨⟨xs, e, l, sh⟩, dx, dp⟩ := h
  exact ⟨⟨xs, s _ _ e, l, fun y hy => (sh y hy).mono s⟩, dx.mono s, dp⟩
mutual
theorem Dx.monoD {H H' : Hp} (s1 : ∀ b xs, H b = some (.lst xs) → H' b = some (.lst xs)) (s2 : ∀ b xs, H b = some (.tup xs) → H' b = some (.tup xs)) : ∀ {v : V} {d : PyData}, Dx H v d → Dx H' v d
  | _, _, .non => .non
  | _, _, .bl b => .bl b
  | _, _, .int i => .int i
  | _, _, .str x => .str x
  | _, _, .lst e h => .lst (s1 _ _ e) (DxAll.monoD s1 s2 h)
  | _, _, .tup e h => .tup (s2 _ _ e) (DxAll.monoD s1 s2 h)
theorem DxAll.monoD {H H' : Hp} (s1 : ∀ b xs, H b = some (.lst xs) → H' b = some (.lst xs)) (s2 : ∀ b xs, H b = some (.tup xs) → H' b = some (.tup xs)) : ∀ {vs : List V} {ds : List PyData}, DxAll H vs ds → DxAll H' vs ds
  | _, _, .nil => .nil
  | _, _, .cons h t => .cons (Dx.monoD s1 s2 h) (DxAll.monoD s1 s2 t)
end
theorem xmkC_run {K : PySem.W.Frag} {C : Addr} {f : Str} {t : Addr} {d : PyData} {H : Hp} {Q : VK} (R : Reason K H t d) (q : ∀ (a : Addr) (y : V) (H' : Hp), Same H H' → ErrAt H' C f y a → Dx H' y d → Q (.ref a) H') (a : Addr) (na : H a = none) :
    spInitC K C f [.ref a, .ref t] (upd H a (exo a C none)) (fun v H2 => v = .non ∧ Q (.ref a) H2) E0 := by
  have s0 : Same H (upd H a (exo a C none)) := same_new na
  obtain ⟨⟨xs, e, l, sh⟩, dx, dp⟩ := R
  refine ⟨a, t, xs, d, rfl, upd_same, s0 _ _ e, l, fun y hy => (sh y hy).mono s0, dx.mono s0, dp, fun y H1 dx1 s1 d1 nd ne => ⟨rfl, ?_⟩⟩
  have ea := s1 _ _ (upd_same (H := H) (o := exo a C none))
  have s2 : Same H1 (upd H1 dx1 (exd dx1 [(f, y)])) := same_new nd
  have nad : a ≠ dx1 := fun z => ne z.symm
  have s3 : Same H (upd (upd H1 dx1 (exd dx1 [(f, y)])) a (exo a C (some dx1))) := same_mut (s0.trans (s1.trans s2)) na
  refine q a y _ s3 ⟨dx1, upd_same, by rw [upd_ne ne, upd_same]⟩ ?_
  refine d1.monoD (fun b zs e => ?_) (fun b zs e => ?_)
  · have nb : b ≠ a := fun z => by
      rw [z, ea] at e
      cases e
    rw [upd_ne nb]
    exact s2 _ _ e
  · have nb : b ≠ a := fun z => by
      rw [z, ea] at e
      cases e
    rw [upd_ne nb]
    exact s2 _ _ e
theorem xmkC_step {K : PySem.W.Frag} {C : Addr} {f : Str} {t : Addr} {d : PyData} {σ : L2.St} {j : Nat} {H : Hp} {Q : VK} (e : σ[j]? = some (some (.ref t))) (R : Reason K H t d) (q : ∀ (a : Addr) (y : V) (H' : Hp), Same H H' → ErrAt H' C f y a → Dx H' y d → Q (.ref a) H') :
    tXmk C (spInitC K C f) (tCons (tVar j) tNil) σ H Q := ⟨_, e, (show 1 ≤ 1000 by decide), fun a na => xmkC_run R q a na⟩
theorem xmkCK_step {K : PySem.W.Frag} {C : Addr} {f : Str} {t : Addr} {d : PyData} {σ : L2.St} {j : Nat} {H : Hp} {Q : VK} (e : σ[j]? = some (some (.ref t))) (R : Reason K H t d) (q : ∀ (a : Addr) (y : V) (H' : Hp), Same H H' → ErrAt H' C f y a → Dx H' y d → Q (.ref a) H') :
    tXmkK C (spInitC K C f) (tCons (tVar j) tNil) σ H Q := ⟨_, e, rfl, fun a na => xmkC_run R q a na⟩
theorem xmk0_step {C : Addr} {σ : L2.St} {H : Hp} {Q : VK} (q : ∀ (a : Addr) (H' : Hp), Same H H' → Has H' C a → Q (.ref a) H') : tXmk C (spInit0 C) tNil σ H Q :=
  ⟨(show 0 ≤ 1000 by decide), fun a na => ⟨a, rfl, upd_same, rfl, q a _ (same_new na) ⟨none, upd_same, fun _ e => nomatch e⟩⟩⟩
/-- e.f, e the i-th of a list of errors -/
theorem xget_step {K : PySem.W.Frag} {C a l : Addr} {f : Str} {y : V} {σ : L2.St} {j i : Nat} {as : List V} {H : Hp} {Q : VK} (e : σ[j]? = some (some (.ref l))) (hl : H l = some (.lst as)) (hi : as[i]? = some (.ref a)) (h : ErrAt H C f y a) (q : Q y H) :
    tXget C f (tOp (rIxL K) (tVar j) (tC (.int (i : Int)))) σ H Q := by
  obtain ⟨dx, e1, e2⟩ := h
  refine ⟨_, e, l, as, _, _, rfl, rfl, SqL.of hl, atI_nat hi, a, dx, _, y, rfl, e1, e2, ?_, q⟩
  simp [List.lookup]
end K00
set_option Elab.async false
set_option linter.all false
set_option maxRecDepth 100000
set_option maxHeartbeats 4000000
namespace K00
open PySem PySem.Spec PyProof.Rows L2
abbrev sKept : Stmt := topS 22
abbrev nKept : List Str := ["_law_values_so", "_law_number_so", "_law_word_so", "_law_reason_so", "_law_some", "_law_named", "_law_found", "_law_made"]
theorem scKept : FnScope nKept ["_law_values_so"] (defScope sKept) := ⟨rfl, rfl, rfl, by decide +kernel, rfl, by decide +kernel, by decide +kernel⟩
/-- a class of errors with one value, at C -/
structure ErrCls (P : Program) (w : World) (K : PySem.W.Frag) (mg : Str → Option Value) (base : Heap) (x f : Str) (C fI : Addr) (fd : FuncData) (mro : List Value) (newId : String) (k : Nat) (sp : Sp) : Prop where
  T : ExK K C fI mro newId
  G : FnOk P w K mg base CX0 k fI fd ["self", f] sp
  b : Binds K fd ["self", f] []
  kw : ∀ (s : Shared) (v w : Value), BindsTo s fd ⟨[v], [(f, w)]⟩ ((["self", f] : List Str).zip [v, w])
  m : mg x = some (.ref C)
  no : PySem.W.findIn K (.ref C) f = some none
structure ErrCls0 (P : Program) (w : World) (K : PySem.W.Frag) (mg : Str → Option Value) (base : Heap) (x : Str) (C fI : Addr) (fd : FuncData) : Prop where
  T : ExK K C fI mroV "ValueError.__new__"
  G : FnOk P w K mg base CX0 1 fI fd ["self"] (spInit0 C)
  b : Binds K fd ["self"] []
  m : mg x = some (.ref C)
/-- seven errors of all the classes that have a value -/
def Seven (H : Hp) (cs : List Addr) (n : Int) (z : Str) (d : PyData) (l : Addr) : Prop := ∃ (a0 a1 a2 a3 a4 a5 a6 : Addr) (y4 y5 : V) (c0 c1 c2 c3 c4 c5 c6 : Addr), cs = [c0, c1, c2, c3, c4, c5, c6] ∧ H l = some (.lst [.ref a0, .ref a1, .ref a2, .ref a3, .ref a4, .ref a5, .ref a6]) ∧
  ErrAt H c0 "number" (.int n) a0 ∧ ErrAt H c1 "number" (.int n) a1 ∧ ErrAt H c2 "index" (.int n) a2 ∧ ErrAt H c3 "number" (.int n) a3 ∧ ErrAt H c4 "what" y4 a4 ∧ Dx H y4 d ∧ ErrAt H c5 "reason" y5 a5 ∧ Dx H y5 d ∧ ErrAt H c6 "word" (.str z) a6
/-- what is found in such seven -/
def rows (n : Int) (z : Str) (d : PyData) : List PyData := [.list [.int n, .int n, .int n, .int n], .list [d, d, .str z]]
def spKept (K : PySem.W.Frag) (cs : List Addr) : Sp := fun vs H Q _ => ∃ (l t : Addr) (n : Int) (z : Str) (d : PyData), vs = [.ref l] ∧ H l = some (.lst [.int n, .str z, .ref t]) ∧ n.natAbs < 2 ^ 50 ∧ z.length ≤ 90 ∧ Reason K H t d ∧
  ∀ (T lf le : Addr) (as : List Addr) (H' : Hp), Same H H' → H' T = some (.tup [.ref lf, .ref le]) → Dx H' (.ref lf) (.list (rows n z d ++ rows n z d)) → H' le = some (.lst (as.map V.ref)) → Paired (Has H') cs as → Q (.ref T) H'
theorem ErrAt.put {H : Hp} {C a l : Addr} {f : Str} {y : V} {xs ys : List V} (h : ErrAt H C f y a) (e : H l = some (.lst xs)) : ErrAt (upd H l (.lst ys)) C f y a := by
  obtain ⟨dx, e1, e2⟩ := h
  refine ⟨dx, (upd_ne fun z => ?_).trans e1, (upd_ne fun z => ?_).trans e2⟩
  · rw [z, e] at e1
    cases e1
  · rw [z, e] at e2
    cases e2
/-- between two rows: He stands, the tuple of both lists at tp, the rows so far at lf -/
structure LoopSt (He : Hp) (tp lf : Addr) (L : List V) (H3 : Hp) (ys : List V) (ds : List PyData) : Prop where
  s : Same He H3
  t : H3 tp = some (.tup L)
  f : H3 lf = some (.lst ys)
  d : DxAll (mask H3 [lf]) ys ds
theorem mask_He {He H : Hp} {lf : Addr} (s : Same He H) (n : He lf = none) : Same He (mask H [lf]) := fun b o e =>
  mask_of (s b o e) fun z => ne_of_none e n (List.mem_singleton.mp z)
theorem LoopSt.put {He H3 : Hp} {tp lf q1 : Addr} {L ys xs : List V} {ds rs : List PyData} (S : LoopSt He tp lf L H3 ys ds) (nf : He lf = none) (nq : H3 q1 = none) (hx : DxAll (mask (upd H3 q1 (.lst xs)) [lf]) xs rs) :
    LoopSt He tp lf L (upd (upd H3 q1 (.lst xs)) lf (.lst (ys ++ [.ref q1]))) (ys ++ [.ref q1]) (ds ++ [.list rs]) := by
  have s1 : Same H3 (upd H3 q1 (.lst xs)) := same_new nq
  have nt : tp ≠ lf := fun z => by
    have e1 := S.t
    rw [z, S.f] at e1
    cases e1
  have nqf : q1 ≠ lf := fun z => by
    rw [z, S.f] at nq
    cases nq
  refine ⟨same_mut (S.s.trans s1) nf, (upd_ne nt).trans (s1 _ _ S.t), upd_same, ?_⟩
  rw [mask_upd (List.mem_singleton.mpr rfl)]
  exact (S.d.mono (mask_same s1 fun _ _ _ z => z)).snoc (.lst (mask_of upd_same fun z => nqf (List.mem_singleton.mp z)) hx)
section
variable {P : Program} {w : World} {K : PySem.W.Frag} {mg : Str → Option Value} {base : Heap} {f c0 c1 c2 c3 c4 c5 c6 c7 c8 f0 f1 f2 f3 f4 f5 f6 f7 f8 : Addr} {fd d0 d1 d2 d3 d4 d5 d6 d7 d8 : FuncData}
theorem ok_kept (F : Fun K "_law_kept" "_law_kept" sKept f fd) (E0 : ErrCls P w K mg base "BadLine" "number" c0 f0 d0 mroV "ValueError.__new__" 1 (spInit c0 "number"))
    (E1 : ErrCls P w K mg base "NoProcess" "number" c1 f1 d1 mroL "LookupError.__new__" 1 (spInit c1 "number")) (E2 : ErrCls P w K mg base "BadStep" "index" c2 f2 d2 mroL "LookupError.__new__" 1 (spInit c2 "index"))
    (E3 : ErrCls P w K mg base "NotRunning" "number" c3 f3 d3 mroR "RuntimeError.__new__" 1 (spInit c3 "number")) (E4 : ErrCls P w K mg base "Outside" "what" c4 f4 d4 mroV "ValueError.__new__" 4 (spInitC K c4 "what"))
    (E5 : ErrCls P w K mg base "Barred" "reason" c5 f5 d5 mroR "RuntimeError.__new__" 4 (spInitC K c5 "reason")) (E6 : ErrCls P w K mg base "NotNow" "word" c6 f6 d6 mroR "RuntimeError.__new__" 1 (spInit c6 "word"))
    (E7 : ErrCls0 P w K mg base "BadText" c7 f7 d7) (E8 : ErrCls0 P w K mg base "NoOrder" c8 f8 d8) :
    FnOk P w K mg base CX0 6 f fd ["_law_values_so"] (spKept K [c0, c1, c2, c3, c4, c5, c6, c0, c1, c2, c3, c4, c5, c6, c7, c8]) := by
  refine F.ok scKept (fun vs H Q E h => ?_) (fun cdv A outer s H vs Q E hr h => ?_)
  · obtain ⟨l, t, n, z, d, rfl, _⟩ := h
    rfl
  · obtain ⟨l, t, n, z, d, rfl, hl, hn, hz, R, q⟩ := h
    have h2 : Room 2 _ := hr.mono (by decide)
    refine ⟨_, pss_cons (ps_asg (pv 0) (pg_unl rfl (pgs_cons (pg_name (i := 1) scKept.nd rfl (.inl rfl)) (pgs_cons (pg_name (i := 2) scKept.nd rfl (.inl rfl)) (pgs_cons (pg_name (i := 3) scKept.nd rfl (.inl rfl)) pgs_nil)))))
      (pss_cons (ps_set (i := 4) scKept.nd rfl (.inl rfl) (pe_lst (pa_cons (pe_xmk PySem.F.excBase_ValueError E0.T E0.G h2 E0.b (by rfl) E0.m (pa_cons (pv 1) pa_nil)) (pa_cons (pe_xmk PySem.F.excBase_LookupError E1.T E1.G h2 E1.b (by rfl) E1.m (pa_cons (pv 1) pa_nil)) (pa_cons (pe_xmk PySem.F.excBase_LookupError E2.T E2.G h2 E2.b (by rfl) E2.m (pa_cons (pv 1) pa_nil)) (pa_cons (pe_xmk PySem.F.excBase_RuntimeError E3.T E3.G h2 E3.b (by rfl) E3.m (pa_cons (pv 1) pa_nil)) pa_nil))))))
      (pss_cons (ps_set (i := 4) scKept.nd rfl (.inl rfl) (pe_op op_cat (pv 4) (pe_lst (pa_cons (pe_xmk PySem.F.excBase_ValueError E4.T E4.G hr E4.b (by rfl) E4.m (pa_cons (pv 3) pa_nil)) (pa_cons (pe_xmk PySem.F.excBase_RuntimeError E5.T E5.G hr E5.b (by rfl) E5.m (pa_cons (pv 3) pa_nil)) (pa_cons (pe_xmk PySem.F.excBase_RuntimeError E6.T E6.G h2 E6.b (by rfl) E6.m (pa_cons (pv 2) pa_nil)) pa_nil))))))
      (pss_cons (ps_set (i := 5) scKept.nd rfl (.inl rfl) (pe_lst (pa_cons (pe_xmkK PySem.F.excBase_ValueError E0.T E0.G h2 E0.kw (by rfl) E0.m (pv 1)) (pa_cons (pe_xmkK PySem.F.excBase_LookupError E1.T E1.G h2 E1.kw (by rfl) E1.m (pv 1)) (pa_cons (pe_xmkK PySem.F.excBase_LookupError E2.T E2.G h2 E2.kw (by rfl) E2.m (pv 1)) pa_nil)))))
      (pss_cons (ps_set (i := 5) scKept.nd rfl (.inl rfl) (pe_op op_cat (pv 5) (pe_lst (pa_cons (pe_xmkK PySem.F.excBase_RuntimeError E3.T E3.G h2 E3.kw (by rfl) E3.m (pv 1)) (pa_cons (pe_xmkK PySem.F.excBase_ValueError E4.T E4.G hr E4.kw (by rfl) E4.m (pv 3)) (pa_cons (pe_xmkK PySem.F.excBase_RuntimeError E5.T E5.G hr E5.kw (by rfl) E5.m (pv 3)) pa_nil))))))
      (pss_cons (ps_expr (pe_bm PySem.F.plainAttrs_list PySem.F.slot_list_append PySem.F.type_list_append mt_append (pv 5) (pa_cons (pe_xmkK PySem.F.excBase_RuntimeError E6.T E6.G h2 E6.kw (by rfl) E6.m (pv 2)) pa_nil)))
      (pss_cons (ps_set (i := 6) scKept.nd rfl (.inl rfl) (pe_lst pa_nil))
      (pss_cons (ps_for PassesOwn.never rfl (pi_tup (pe_tup (pa_cons (pv 4) (pa_cons (pv 5) pa_nil)))) (pg_name (i := 7) scKept.nd rfl (.inl rfl)) (pss_cons (ps_expr (pe_bm PySem.F.plainAttrs_list PySem.F.slot_list_append PySem.F.type_list_append mt_append (pv 6) (pa_cons (pe_lst (pa_cons (pe_xget E0.T E0.no (pe_ix ix_list (pv 7) pe_int (fun _ _ => rfl))) (pa_cons (pe_xget E1.T E1.no (pe_ix ix_list (pv 7) pe_int (fun _ _ => rfl))) (pa_cons (pe_xget E2.T E2.no (pe_ix ix_list (pv 7) pe_int (fun _ _ => rfl))) (pa_cons (pe_xget E3.T E3.no (pe_ix ix_list (pv 7) pe_int (fun _ _ => rfl))) pa_nil))))) pa_nil))) (pss_one (ps_expr (pe_bm PySem.F.plainAttrs_list PySem.F.slot_list_append PySem.F.type_list_append mt_append (pv 6) (pa_cons (pe_lst (pa_cons (pe_xget E4.T E4.no (pe_ix ix_list (pv 7) pe_int (fun _ _ => rfl))) (pa_cons (pe_xget E5.T E5.no (pe_ix ix_list (pv 7) pe_int (fun _ _ => rfl))) (pa_cons (pe_xget E6.T E6.no (pe_ix ix_list (pv 7) pe_int (fun _ _ => rfl))) pa_nil)))) pa_nil))))))
      (pss_one (ps_ret (pe_tup (pa_cons (pv 6) (pa_cons (pe_op op_cat (pe_op op_cat (pv 4) (pv 5)) (pe_lst (pa_cons (pe_xmk0 PySem.F.excBase_ValueError E7.T E7.G h2 E7.b (by rfl) E7.m) (pa_cons (pe_xmk0 PySem.F.excBase_ValueError E8.T E8.G h2 E8.b (by rfl) E8.m) pa_nil)))) pa_nil)))))))))))), ?_⟩
    have sn : Said (.int n) := .inl ⟨n, rfl, by
      have e : n.natAbs.log2 < 50 := PySem.Flt.log2_lt_of (by decide) hn
      omega⟩
    have sz : Said (.str z) := .inr ⟨z, rfl, by omega⟩
    refine ⟨_, rfl, l, _, rfl, SqL.of hl, rfl, _, _, rfl, _, _, rfl, _, _, rfl, rfl, ?_⟩
    show XmkP _ _ _ _ _ _
    refine xmk_step rfl sn fun a1 H1 s1 e1 => ?_
    have t1 : Same H H1 := s1
    show XmkP _ _ _ _ _ _
    refine xmk_step rfl sn fun a2 H2 s2 e2 => ?_
    have t2 : Same H H2 := t1.trans s2
    show XmkP _ _ _ _ _ _
    refine xmk_step rfl sn fun a3 H3 s3 e3 => ?_
    have t3 : Same H H3 := t2.trans s3
    show XmkP _ _ _ _ _ _
    refine xmk_step rfl sn fun a4 H4 s4 e4 => ?_
    have t4 : Same H H4 := t3.trans s4
    refine ⟨by show 4 ≤ sizeLine; decide, fun l1 nl1 => ?_⟩
    have s5 := same_new (o := HO.lst [.ref a1, .ref a2, .ref a3, .ref a4]) nl1
    have gl1 : upd H4 l1 (.lst [.ref a1, .ref a2, .ref a3, .ref a4]) l1 = _ := upd_same
    generalize upd H4 l1 (.lst [.ref a1, .ref a2, .ref a3, .ref a4]) = H5 at s5 gl1 ⊢
    have t5 : Same H H5 := t4.trans s5
    refine ⟨_, rfl, ?_⟩
    show XmkP _ _ _ _ _ _
    refine xmkC_step rfl (R.mono t5) fun a6 y6 H6 s6 e6 x6 => ?_
    have t6 : Same H H6 := t5.trans s6
    show XmkP _ _ _ _ _ _
    refine xmkC_step rfl (R.mono t6) fun a7 y7 H7 s7 e7 x7 => ?_
    have t7 : Same H H7 := t6.trans s7
    show XmkP _ _ _ _ _ _
    refine xmk_step rfl sz fun a8 H8 s8 e8 => ?_
    have t8 : Same H H8 := t7.trans s8
    refine ⟨by show 3 ≤ sizeLine; decide, fun l2 nl2 => ?_⟩
    have s9 := same_new (o := HO.lst [.ref a6, .ref a7, .ref a8]) nl2
    have gl2 : upd H8 l2 (.lst [.ref a6, .ref a7, .ref a8]) l2 = _ := upd_same
    generalize upd H8 l2 (.lst [.ref a6, .ref a7, .ref a8]) = H9 at s9 gl2 ⊢
    have t9 : Same H H9 := t8.trans s9
    refine ⟨l1, l2, _, _, rfl, rfl, ((s6.trans (s7.trans (s8.trans s9))) _ _ gl1), gl2, by show 7 ≤ sizeLine; decide, fun l3 nl3 => ?_⟩
    have s10 := same_new (o := HO.lst ([.ref a1, .ref a2, .ref a3, .ref a4] ++ [.ref a6, .ref a7, .ref a8])) nl3
    have gl3 : upd H9 l3 (.lst ([.ref a1, .ref a2, .ref a3, .ref a4] ++ [.ref a6, .ref a7, .ref a8])) l3 = some (.lst [.ref a1, .ref a2, .ref a3, .ref a4, .ref a6, .ref a7, .ref a8]) := upd_same
    generalize upd H9 l3 (.lst ([.ref a1, .ref a2, .ref a3, .ref a4] ++ [.ref a6, .ref a7, .ref a8])) = H10 at s10 gl3 ⊢
    have t10 : Same H H10 := t9.trans s10
    show XmkKP _ _ _ _ _ _
    refine xmkK_step rfl sn fun a11 H11 s11 e11 => ?_
    have t11 : Same H H11 := t10.trans s11
    show XmkKP _ _ _ _ _ _
    refine xmkK_step rfl sn fun a12 H12 s12 e12 => ?_
    have t12 : Same H H12 := t11.trans s12
    show XmkKP _ _ _ _ _ _
    refine xmkK_step rfl sn fun a13 H13 s13 e13 => ?_
    have t13 : Same H H13 := t12.trans s13
    refine ⟨by show 3 ≤ sizeLine; decide, fun l4 nl4 => ?_⟩
    have s14 := same_new (o := HO.lst [.ref a11, .ref a12, .ref a13]) nl4
    have gl4 : upd H13 l4 (.lst [.ref a11, .ref a12, .ref a13]) l4 = _ := upd_same
    generalize upd H13 l4 (.lst [.ref a11, .ref a12, .ref a13]) = H14 at s14 gl4 ⊢
    have t14 : Same H H14 := t13.trans s14
    refine ⟨_, rfl, ?_⟩
    show XmkKP _ _ _ _ _ _
    refine xmkK_step rfl sn fun a15 H15 s15 e15 => ?_
    have t15 : Same H H15 := t14.trans s15
    show XmkKP _ _ _ _ _ _
    refine xmkCK_step rfl (R.mono t15) fun a16 y16 H16 s16 e16 x16 => ?_
    have t16 : Same H H16 := t15.trans s16
    show XmkKP _ _ _ _ _ _
    refine xmkCK_step rfl (R.mono t16) fun a17 y17 H17 s17 e17 x17 => ?_
    have t17 : Same H H17 := t16.trans s17
    refine ⟨by show 3 ≤ sizeLine; decide, fun l5 nl5 => ?_⟩
    have s18 := same_new (o := HO.lst [.ref a15, .ref a16, .ref a17]) nl5
    have gl5 : upd H17 l5 (.lst [.ref a15, .ref a16, .ref a17]) l5 = _ := upd_same
    generalize upd H17 l5 (.lst [.ref a15, .ref a16, .ref a17]) = H18 at s18 gl5 ⊢
    have t18 : Same H H18 := t17.trans s18
    refine ⟨l4, l5, _, _, rfl, rfl, ((s15.trans (s16.trans (s17.trans s18))) _ _ gl4), gl5, by show 6 ≤ sizeLine; decide, fun l6 nl6 => ?_⟩
    have s19 := same_new (o := HO.lst ([.ref a11, .ref a12, .ref a13] ++ [.ref a15, .ref a16, .ref a17])) nl6
    have gl6 : upd H18 l6 (.lst ([.ref a11, .ref a12, .ref a13] ++ [.ref a15, .ref a16, .ref a17])) l6 = some (.lst [.ref a11, .ref a12, .ref a13, .ref a15, .ref a16, .ref a17]) := upd_same
    generalize upd H18 l6 (.lst ([.ref a11, .ref a12, .ref a13] ++ [.ref a15, .ref a16, .ref a17])) = H19 at s19 gl6 ⊢
    have t19 : Same H H19 := t18.trans s19
    refine ⟨_, rfl, .inl ⟨rfl, _, .inl (.inl gl6)⟩, ?_⟩
    show XmkKP _ _ _ _ _ _
    refine xmkK_step rfl sz fun a20 H20 s20 e20 => ?_
    have t20 : Same H H20 := t19.trans s20
    have gl6' := s20 _ _ gl6
    refine ⟨l6, _, _, rfl, rfl, gl6', (by show 6 < sizeLine; decide), ?_⟩
    have sE : Same H18 (upd H20 l6 (.lst ([.ref a11, .ref a12, .ref a13, .ref a15, .ref a16, .ref a17] ++ [.ref a20]))) := same_mut ((s19.trans s20)) nl6
    have tE : Same H (upd H20 l6 (.lst ([.ref a11, .ref a12, .ref a13, .ref a15, .ref a16, .ref a17] ++ [.ref a20]))) := t18.trans sE
    have gE : upd H20 l6 (.lst ([.ref a11, .ref a12, .ref a13, .ref a15, .ref a16, .ref a17] ++ [.ref a20])) l6 = some (.lst [.ref a11, .ref a12, .ref a13, .ref a15, .ref a16, .ref a17, .ref a20]) := upd_same
    have eE := e20.put (ys := ([.ref a11, .ref a12, .ref a13, .ref a15, .ref a16, .ref a17] ++ [.ref a20])) gl6'
    generalize upd H20 l6 (.lst ([.ref a11, .ref a12, .ref a13, .ref a15, .ref a16, .ref a17] ++ [.ref a20])) = He at sE tE gE eE ⊢
    have vs : Seven He [c0, c1, c2, c3, c4, c5, c6] n z d l3 := ⟨_, _, _, _, _, _, _, _, _, _, _, _, _, _, _, _, rfl, (((s11.trans (s12.trans (s13.trans (s14.trans (s15.trans (s16.trans (s17.trans s18))))))).trans sE) _ _ gl3), (e1.mono ((s2.trans (s3.trans (s4.trans (s5.trans (s6.trans (s7.trans (s8.trans (s9.trans (s10.trans (s11.trans (s12.trans (s13.trans (s14.trans (s15.trans (s16.trans (s17.trans s18)))))))))))))))).trans sE)), (e2.mono ((s3.trans (s4.trans (s5.trans (s6.trans (s7.trans (s8.trans (s9.trans (s10.trans (s11.trans (s12.trans (s13.trans (s14.trans (s15.trans (s16.trans (s17.trans s18))))))))))))))).trans sE)), (e3.mono ((s4.trans (s5.trans (s6.trans (s7.trans (s8.trans (s9.trans (s10.trans (s11.trans (s12.trans (s13.trans (s14.trans (s15.trans (s16.trans (s17.trans s18)))))))))))))).trans sE)), (e4.mono ((s5.trans (s6.trans (s7.trans (s8.trans (s9.trans (s10.trans (s11.trans (s12.trans (s13.trans (s14.trans (s15.trans (s16.trans (s17.trans s18))))))))))))).trans sE)), (e6.mono ((s7.trans (s8.trans (s9.trans (s10.trans (s11.trans (s12.trans (s13.trans (s14.trans (s15.trans (s16.trans (s17.trans s18))))))))))).trans sE)), (x6.mono ((s7.trans (s8.trans (s9.trans (s10.trans (s11.trans (s12.trans (s13.trans (s14.trans (s15.trans (s16.trans (s17.trans s18))))))))))).trans sE)), (e7.mono ((s8.trans (s9.trans (s10.trans (s11.trans (s12.trans (s13.trans (s14.trans (s15.trans (s16.trans (s17.trans s18)))))))))).trans sE)), (x7.mono ((s8.trans (s9.trans (s10.trans (s11.trans (s12.trans (s13.trans (s14.trans (s15.trans (s16.trans (s17.trans s18)))))))))).trans sE)), (e8.mono ((s9.trans (s10.trans (s11.trans (s12.trans (s13.trans (s14.trans (s15.trans (s16.trans (s17.trans s18))))))))).trans sE))⟩
    have vn : Seven He [c0, c1, c2, c3, c4, c5, c6] n z d l6 := ⟨_, _, _, _, _, _, _, _, _, _, _, _, _, _, _, _, rfl, gE, (e11.mono ((s12.trans (s13.trans (s14.trans (s15.trans (s16.trans (s17.trans s18)))))).trans sE)), (e12.mono ((s13.trans (s14.trans (s15.trans (s16.trans (s17.trans s18))))).trans sE)), (e13.mono ((s14.trans (s15.trans (s16.trans (s17.trans s18)))).trans sE)), (e15.mono ((s16.trans (s17.trans s18)).trans sE)), (e16.mono ((s17.trans s18).trans sE)), (x16.mono ((s17.trans s18).trans sE)), (e17.mono (s18.trans sE)), (x17.mono (s18.trans sE)), eE⟩
    have gL3 := (((s11.trans (s12.trans (s13.trans (s14.trans (s15.trans (s16.trans (s17.trans s18))))))).trans sE) _ _ gl3)
    -- found, the loop over both lists
    refine ⟨Nat.zero_le _, fun lf nlf => ?_⟩
    refine ⟨_, rfl, _, rfl, by show 2 ≤ sizeLine; decide, fun tp ntp => ?_⟩
    refine ⟨tp, rfl, ⟨_, SqT.of upd_same⟩, ?_⟩
    have sf : Same He (upd He lf (.lst [])) := same_new nlf
    have st : Same (upd He lf (.lst [])) (upd (upd He lf (.lst [])) tp (.tup [.ref l3, .ref l6])) := same_new ntp
    refine for_it (walk_tup (K := K) (a := tp) (xs := [.ref l3, .ref l6])) (fun i σ H3 => ∃ y7 ys, σ = [some (.ref l), some (.int n), some (.str z), some (.ref t), some (.ref l3), some (.ref l6), some (.ref lf), y7] ∧ ys.length = 2 * i ∧ LoopSt He tp lf [.ref l3, .ref l6] H3 ys ((rows n z d ++ rows n z d).take (2 * i)))
      ⟨none, [], rfl, rfl, sf.trans st, upd_same, st _ _ upd_same, .nil⟩ (fun i σ H3 _ ⟨_, _, _, _, S⟩ => SqT.of S.t) ?_ ?_
    · rintro i x σ H3 H4 hi ⟨y7, ys, rfl, ly, S⟩ ⟨rfl, ex⟩
      have hi2 : i < 2 := hi
      obtain ⟨lx, rfl, vx⟩ : ∃ lx, x = .ref lx ∧ Seven He [c0, c1, c2, c3, c4, c5, c6] n z d lx := by
        have m := List.mem_of_getElem? ex
        simp only [List.mem_cons, List.not_mem_nil, or_false] at m
        rcases m with rfl | rfl
        · exact ⟨l3, rfl, vs⟩
        · exact ⟨l6, rfl, vn⟩
      obtain ⟨b0, b1, b2, b3, b4, b5, b6, y4, y5, _, _, _, _, _, _, _, ecs, gx, z0, z1, z2, z3, z4, w4, z5, w5, z6⟩ := vx
      cases ecs
      refine ⟨_, rfl, .inl ⟨rfl, _, .inl (.inl S.f)⟩, ?_⟩
      have gx3 := S.s _ _ gx
      show XgetP _ _ _ _ _ _
      refine xget_step (K := K) (i := 0) rfl gx3 rfl (z0.mono S.s) ?_
      show XgetP _ _ _ _ _ _
      refine xget_step (K := K) (i := 1) rfl gx3 rfl (z1.mono S.s) ?_
      show XgetP _ _ _ _ _ _
      refine xget_step (K := K) (i := 2) rfl gx3 rfl (z2.mono S.s) ?_
      show XgetP _ _ _ _ _ _
      refine xget_step (K := K) (i := 3) rfl gx3 rfl (z3.mono S.s) ?_
      refine ⟨by show 4 ≤ sizeLine; decide, fun q1 nq1 => ?_⟩
      have S1 := S.put nlf nq1 (xs := [.int n, .int n, .int n, .int n]) (.cons (.int n) (.cons (.int n) (.cons (.int n) (.cons (.int n) .nil))))
      refine ⟨lf, _, _, rfl, rfl, (same_new nq1) _ _ S.f, Nat.lt_of_le_of_lt (show ys.length ≤ 10 by omega) (by decide), ?_⟩
      generalize upd (upd H4 q1 (.lst [.int n, .int n, .int n, .int n])) lf (.lst (ys ++ [.ref q1])) = H5 at S1 ⊢
      refine ⟨_, rfl, .inl ⟨rfl, _, .inl (.inl S1.f)⟩, ?_⟩
      have gx5 := S1.s _ _ gx
      show XgetP _ _ _ _ _ _
      refine xget_step (K := K) (i := 4) rfl gx5 rfl (z4.mono S1.s) ?_
      show XgetP _ _ _ _ _ _
      refine xget_step (K := K) (i := 5) rfl gx5 rfl (z5.mono S1.s) ?_
      show XgetP _ _ _ _ _ _
      refine xget_step (K := K) (i := 6) rfl gx5 rfl (z6.mono S1.s) ?_
      refine ⟨by show 3 ≤ sizeLine; decide, fun q2 nq2 => ?_⟩
      have sm := mask_He (S1.s.trans (same_new (o := HO.lst [y4, y5, .str z]) nq2)) nlf
      have S2 := S1.put nlf nq2 (xs := [y4, y5, .str z]) (.cons (w4.mono sm) (.cons (w5.mono sm) (.cons (.str z) .nil)))
      refine ⟨lf, _, _, rfl, rfl, (same_new nq2) _ _ S1.f, Nat.lt_of_le_of_lt (show (ys ++ [V.ref q1]).length ≤ 10 by rw [List.length_append]; show ys.length + 1 ≤ 10; omega) (by decide), ?_⟩
      refine ⟨_, ys ++ [.ref q1] ++ [.ref q2], rfl, ?_, ?_⟩
      · rw [List.length_append, List.length_append, ly]
        rfl
      · have et : (rows n z d ++ rows n z d).take (2 * (i + 1)) = (rows n z d ++ rows n z d).take (2 * i) ++ [.list [.int n, .int n, .int n, .int n]] ++ [.list [d, d, .str z]] := by
          match i, hi2 with
          | 0, _ => rfl
          | 1, _ => rfl
        rw [et]
        exact S2
    · rintro σ H3 ⟨y7, ys, rfl, ly, S⟩
      have g3 := S.s _ _ gL3
      have g6 := S.s _ _ gE
      refine ⟨_, rfl, _, rfl, _, rfl, l3, l6, _, _, rfl, rfl, g3, g6, by show 14 ≤ sizeLine; decide, fun l7 nl7 => ?_⟩
      have r7 := same_new (o := HO.lst ([.ref a1, .ref a2, .ref a3, .ref a4, .ref a6, .ref a7, .ref a8] ++ [.ref a11, .ref a12, .ref a13, .ref a15, .ref a16, .ref a17, .ref a20])) nl7
      have g7 : upd H3 l7 (.lst ([.ref a1, .ref a2, .ref a3, .ref a4, .ref a6, .ref a7, .ref a8] ++ [.ref a11, .ref a12, .ref a13, .ref a15, .ref a16, .ref a17, .ref a20])) l7 = _ := upd_same
      generalize upd H3 l7 (.lst ([.ref a1, .ref a2, .ref a3, .ref a4, .ref a6, .ref a7, .ref a8] ++ [.ref a11, .ref a12, .ref a13, .ref a15, .ref a16, .ref a17, .ref a20])) = G7 at r7 g7 ⊢
      show XmkP _ _ _ _ _ _
      refine xmk0_step fun u8 G8 r8 h8 => ?_
      show XmkP _ _ _ _ _ _
      refine xmk0_step fun u9 G9 r9 h9 => ?_
      refine ⟨by show 2 ≤ sizeLine; decide, fun l8 nl8 => ?_⟩
      have r10 := same_new (o := HO.lst [.ref u8, .ref u9]) nl8
      have g10 : upd G9 l8 (.lst [.ref u8, .ref u9]) l8 = _ := upd_same
      generalize upd G9 l8 (.lst [.ref u8, .ref u9]) = G10 at r10 g10 ⊢
      refine ⟨l7, l8, _, _, rfl, rfl, (r8.trans (r9.trans r10)) _ _ g7, g10, by show 16 ≤ sizeLine; decide, fun le nle => ?_⟩
      have r11 := same_new (o := HO.lst ([.ref a1, .ref a2, .ref a3, .ref a4, .ref a6, .ref a7, .ref a8] ++ [.ref a11, .ref a12, .ref a13, .ref a15, .ref a16, .ref a17, .ref a20] ++ [.ref u8, .ref u9])) nle
      have g11 : upd G10 le (.lst ([.ref a1, .ref a2, .ref a3, .ref a4, .ref a6, .ref a7, .ref a8] ++ [.ref a11, .ref a12, .ref a13, .ref a15, .ref a16, .ref a17, .ref a20] ++ [.ref u8, .ref u9])) le = some (.lst (([a1, a2, a3, a4, a6, a7, a8, a11, a12, a13, a15, a16, a17, a20] ++ [u8, u9]).map V.ref)) := upd_same
      generalize upd G10 le (.lst ([.ref a1, .ref a2, .ref a3, .ref a4, .ref a6, .ref a7, .ref a8] ++ [.ref a11, .ref a12, .ref a13, .ref a15, .ref a16, .ref a17, .ref a20] ++ [.ref u8, .ref u9])) = G11 at r11 g11 ⊢
      refine ⟨by show 2 ≤ sizeLine; decide, fun T nT => ?_⟩
      have r12 := same_new (o := HO.tup [.ref lf, .ref le]) nT
      have sa := r7.trans (r8.trans (r9.trans (r10.trans (r11.trans r12))))
      have sb := S.s.trans sa
      have dd : DxAll (mask H3 [lf]) ys (rows n z d ++ rows n z d) := S.d
      refine q T lf le ([a1, a2, a3, a4, a6, a7, a8, a11, a12, a13, a15, a16, a17, a20] ++ [u8, u9]) _ (tE.trans sb) upd_same (.lst (sa _ _ S.f) (dd.mono fun b o e => sa _ _ (mask_at e).1)) (r12 _ _ g11) ?_
      exact (.cons (((e1.mono ((s2.trans (s3.trans (s4.trans (s5.trans (s6.trans (s7.trans (s8.trans (s9.trans (s10.trans (s11.trans (s12.trans (s13.trans (s14.trans (s15.trans (s16.trans (s17.trans s18)))))))))))))))).trans sE)).mono sb).has) (.cons (((e2.mono ((s3.trans (s4.trans (s5.trans (s6.trans (s7.trans (s8.trans (s9.trans (s10.trans (s11.trans (s12.trans (s13.trans (s14.trans (s15.trans (s16.trans (s17.trans s18))))))))))))))).trans sE)).mono sb).has) (.cons (((e3.mono ((s4.trans (s5.trans (s6.trans (s7.trans (s8.trans (s9.trans (s10.trans (s11.trans (s12.trans (s13.trans (s14.trans (s15.trans (s16.trans (s17.trans s18)))))))))))))).trans sE)).mono sb).has) (.cons (((e4.mono ((s5.trans (s6.trans (s7.trans (s8.trans (s9.trans (s10.trans (s11.trans (s12.trans (s13.trans (s14.trans (s15.trans (s16.trans (s17.trans s18))))))))))))).trans sE)).mono sb).has) (.cons (((e6.mono ((s7.trans (s8.trans (s9.trans (s10.trans (s11.trans (s12.trans (s13.trans (s14.trans (s15.trans (s16.trans (s17.trans s18))))))))))).trans sE)).mono sb).has) (.cons (((e7.mono ((s8.trans (s9.trans (s10.trans (s11.trans (s12.trans (s13.trans (s14.trans (s15.trans (s16.trans (s17.trans s18)))))))))).trans sE)).mono sb).has) (.cons (((e8.mono ((s9.trans (s10.trans (s11.trans (s12.trans (s13.trans (s14.trans (s15.trans (s16.trans (s17.trans s18))))))))).trans sE)).mono sb).has) (.cons (((e11.mono ((s12.trans (s13.trans (s14.trans (s15.trans (s16.trans (s17.trans s18)))))).trans sE)).mono sb).has) (.cons (((e12.mono ((s13.trans (s14.trans (s15.trans (s16.trans (s17.trans s18))))).trans sE)).mono sb).has) (.cons (((e13.mono ((s14.trans (s15.trans (s16.trans (s17.trans s18)))).trans sE)).mono sb).has) (.cons (((e15.mono ((s16.trans (s17.trans s18)).trans sE)).mono sb).has) (.cons (((e16.mono ((s17.trans s18).trans sE)).mono sb).has) (.cons (((e17.mono (s18.trans sE)).mono sb).has) (.cons ((eE.mono sb).has) (.cons (h8.mono (r9.trans (r10.trans (r11.trans r12)))) (.cons (h9.mono (r10.trans (r11.trans r12))) .nil))))))))))))))))
end
end K00
set_option Elab.async false
set_option linter.all false
set_option maxRecDepth 100000
set_option maxHeartbeats 4000000
namespace K00
open PySem PySem.Spec PyProof.Rows L2
abbrev sSorts : Stmt := topS 23
theorem scSorts : FnScope ["_law_error", "_law_found"] ["_law_error"] (defScope sSorts) := ⟨rfl, rfl, rfl, by decide +kernel, rfl, by decide +kernel, by decide +kernel⟩
theorem uncons {α β : Type} {R : α → β → Prop} {x : α} {xs : List α} {ys : List β} (h : Paired R (x :: xs) ys) : ∃ y zs, ys = y :: zs ∧ R x y ∧ Paired R xs zs := by
  cases h with
  | cons a b => exact ⟨_, _, rfl, a, b⟩
theorem unnil {α β : Type} {R : α → β → Prop} {ys : List β} (h : Paired R [] ys) : ys = [] := by
  cases h
  rfl
/-- what isinstance tells of an error of the class at C -/
def KitRow (K : PySem.W.Frag) (cs : List Addr) (C : Addr) (bs : List Bool) : Prop :=
  Paired (fun (u : Value) (b : Bool) => PySem.W.kitOne K (.ref C) u = some b) (.type "ValueError" :: .type "LookupError" :: .type "RuntimeError" :: cs.map Value.ref) bs
def spSorts (K : PySem.W.Frag) (cs : List Addr) : Sp := fun vs H Q _ => ∃ (a C : Addr) (bs : List Bool), vs = [.ref a] ∧ Has H C a ∧ ExcC K C ∧ KitRow K cs C bs ∧ ∀ (l : Addr) (H' : Hp), H l = none → Same H H' → H' l = some (.lst (bs.map V.bl)) → Q (.ref l) H'
section
variable {P : Program} {w : World} {K : PySem.W.Frag} {mg : Str → Option Value} {base : Heap} {f c0 c1 c2 c3 c4 c5 c6 c7 c8 : Addr} {fd : FuncData}
theorem ok_sorts (F : Fun K "_law_sorts" "_law_sorts" sSorts f fd) (m0 : mg "BadLine" = some (.ref c0)) (m1 : mg "NoProcess" = some (.ref c1)) (m2 : mg "BadStep" = some (.ref c2)) (m3 : mg "NotRunning" = some (.ref c3)) (m4 : mg "Outside" = some (.ref c4)) (m5 : mg "Barred" = some (.ref c5)) (m6 : mg "NotNow" = some (.ref c6)) (m7 : mg "BadText" = some (.ref c7)) (m8 : mg "NoOrder" = some (.ref c8)) (mI : mg "isinstance" = none) (mV : mg "ValueError" = none) (mL : mg "LookupError" = none) (mR : mg "RuntimeError" = none) :
    FnOk P w K mg base CX0 1 f fd ["_law_error"] (spSorts K [c0, c1, c2, c3, c4, c5, c6, c7, c8]) := by
  refine F.ok scSorts (fun vs H Q E h => ?_) (fun cdv A outer s H vs Q E hr h => ?_)
  · obtain ⟨a, C, bs, rfl, _⟩ := h
    rfl
  · obtain ⟨a, C, bs, rfl, ⟨d, ea, ed⟩, T, kit, q⟩ := h
    refine ⟨_, pss_cons (ps_set (i := 1) scSorts.nd rfl (.inl rfl) (pe_lst (pa_cons (pe_callB call_xis (by rfl) mI (by decide +kernel) (pa_cons (pv 0) (pa_cons (pe_bltn (v := .ty "ValueError") (by rfl) mV (by decide +kernel) rfl) pa_nil))) (pa_cons (pe_callB call_xis (by rfl) mI (by decide +kernel) (pa_cons (pv 0) (pa_cons (pe_bltn (v := .ty "LookupError") (by rfl) mL (by decide +kernel) rfl) pa_nil))) (pa_cons (pe_callB call_xis (by rfl) mI (by decide +kernel) (pa_cons (pv 0) (pa_cons (pe_bltn (v := .ty "RuntimeError") (by rfl) mR (by decide +kernel) rfl) pa_nil))) pa_nil)))))
      (pss_cons (ps_set (i := 1) scSorts.nd rfl (.inl rfl) (pe_op op_cat (pv 1) (pe_lst (pa_cons (pe_callB call_xis (by rfl) mI (by decide +kernel) (pa_cons (pv 0) (pa_cons (pe_glob (v := .ref c0) rfl m0 rfl) pa_nil))) (pa_cons (pe_callB call_xis (by rfl) mI (by decide +kernel) (pa_cons (pv 0) (pa_cons (pe_glob (v := .ref c1) rfl m1 rfl) pa_nil))) (pa_cons (pe_callB call_xis (by rfl) mI (by decide +kernel) (pa_cons (pv 0) (pa_cons (pe_glob (v := .ref c2) rfl m2 rfl) pa_nil))) pa_nil))))))
      (pss_cons (ps_set (i := 1) scSorts.nd rfl (.inl rfl) (pe_op op_cat (pv 1) (pe_lst (pa_cons (pe_callB call_xis (by rfl) mI (by decide +kernel) (pa_cons (pv 0) (pa_cons (pe_glob (v := .ref c3) rfl m3 rfl) pa_nil))) (pa_cons (pe_callB call_xis (by rfl) mI (by decide +kernel) (pa_cons (pv 0) (pa_cons (pe_glob (v := .ref c4) rfl m4 rfl) pa_nil))) (pa_cons (pe_callB call_xis (by rfl) mI (by decide +kernel) (pa_cons (pv 0) (pa_cons (pe_glob (v := .ref c5) rfl m5 rfl) pa_nil))) pa_nil))))))
      (pss_one (ps_ret (pe_op op_cat (pv 1) (pe_lst (pa_cons (pe_callB call_xis (by rfl) mI (by decide +kernel) (pa_cons (pv 0) (pa_cons (pe_glob (v := .ref c6) rfl m6 rfl) pa_nil))) (pa_cons (pe_callB call_xis (by rfl) mI (by decide +kernel) (pa_cons (pv 0) (pa_cons (pe_glob (v := .ref c7) rfl m7 rfl) pa_nil))) (pa_cons (pe_callB call_xis (by rfl) mI (by decide +kernel) (pa_cons (pv 0) (pa_cons (pe_glob (v := .ref c8) rfl m8 rfl) pa_nil))) pa_nil))))))))), ?_⟩
    obtain ⟨b0, r0, rfl, k0, kit⟩ := uncons kit
    obtain ⟨b1, r1, rfl, k1, kit⟩ := uncons kit
    obtain ⟨b2, r2, rfl, k2, kit⟩ := uncons kit
    obtain ⟨b3, r3, rfl, k3, kit⟩ := uncons kit
    obtain ⟨b4, r4, rfl, k4, kit⟩ := uncons kit
    obtain ⟨b5, r5, rfl, k5, kit⟩ := uncons kit
    obtain ⟨b6, r6, rfl, k6, kit⟩ := uncons kit
    obtain ⟨b7, r7, rfl, k7, kit⟩ := uncons kit
    obtain ⟨b8, r8, rfl, k8, kit⟩ := uncons kit
    obtain ⟨b9, r9, rfl, k9, kit⟩ := uncons kit
    obtain ⟨b10, r10, rfl, k10, kit⟩ := uncons kit
    obtain ⟨b11, r11, rfl, k11, kit⟩ := uncons kit
    obtain rfl := unnil kit
    refine ⟨_, rfl, a, C, d, _, _, b0, rfl, .ty _, ea, ed, T, k0, _, rfl, a, C, d, _, _, b1, rfl, .ty _, ea, ed, T, k1, _, rfl, a, C, d, _, _, b2, rfl, .ty _, ea, ed, T, k2, by show 3 ≤ sizeLine; decide, fun l1 n1 => ?_⟩
    have s1 := same_new (o := HO.lst [.bl b0, .bl b1, .bl b2]) n1
    have g1 : upd H l1 (.lst [.bl b0, .bl b1, .bl b2]) l1 = _ := upd_same
    generalize upd H l1 (.lst [.bl b0, .bl b1, .bl b2]) = H1 at s1 g1 ⊢
    refine ⟨_, rfl, _, rfl, a, C, d, _, _, b3, rfl, .own _, (s1 _ _ ea), (fun dx z => (ed dx z).imp fun fs e => s1 _ _ e), T, k3, _, rfl, a, C, d, _, _, b4, rfl, .own _, (s1 _ _ ea), (fun dx z => (ed dx z).imp fun fs e => s1 _ _ e), T, k4, _, rfl, a, C, d, _, _, b5, rfl, .own _, (s1 _ _ ea), (fun dx z => (ed dx z).imp fun fs e => s1 _ _ e), T, k5, by show 3 ≤ sizeLine; decide, fun m1l n1l => ?_⟩
    have u1 := same_new (o := HO.lst [.bl b3, .bl b4, .bl b5]) n1l
    have h1 : upd H1 m1l (.lst [.bl b3, .bl b4, .bl b5]) m1l = _ := upd_same
    generalize upd H1 m1l (.lst [.bl b3, .bl b4, .bl b5]) = I1 at u1 h1 ⊢
    refine ⟨l1, m1l, _, _, rfl, rfl, u1 _ _ g1, h1, by show 6 ≤ sizeLine; decide, fun k1l p1l => ?_⟩
    have v1 := same_new (o := HO.lst ([.bl b0, .bl b1, .bl b2] ++ [.bl b3, .bl b4, .bl b5])) p1l
    have g2 : upd I1 k1l (.lst ([.bl b0, .bl b1, .bl b2] ++ [.bl b3, .bl b4, .bl b5])) k1l = some (.lst [.bl b0, .bl b1, .bl b2, .bl b3, .bl b4, .bl b5]) := upd_same
    generalize upd I1 k1l (.lst ([.bl b0, .bl b1, .bl b2] ++ [.bl b3, .bl b4, .bl b5])) = J1 at v1 g2 ⊢
    have w1 := s1.trans (u1.trans v1)
    refine ⟨_, rfl, _, rfl, a, C, d, _, _, b6, rfl, .own _, (w1 _ _ ea), (fun dx z => (ed dx z).imp fun fs e => w1 _ _ e), T, k6, _, rfl, a, C, d, _, _, b7, rfl, .own _, (w1 _ _ ea), (fun dx z => (ed dx z).imp fun fs e => w1 _ _ e), T, k7, _, rfl, a, C, d, _, _, b8, rfl, .own _, (w1 _ _ ea), (fun dx z => (ed dx z).imp fun fs e => w1 _ _ e), T, k8, by show 3 ≤ sizeLine; decide, fun m2l n2l => ?_⟩
    have u2 := same_new (o := HO.lst [.bl b6, .bl b7, .bl b8]) n2l
    have h2 : upd J1 m2l (.lst [.bl b6, .bl b7, .bl b8]) m2l = _ := upd_same
    generalize upd J1 m2l (.lst [.bl b6, .bl b7, .bl b8]) = I2 at u2 h2 ⊢
    refine ⟨k1l, m2l, _, _, rfl, rfl, u2 _ _ g2, h2, by show 9 ≤ sizeLine; decide, fun k2l p2l => ?_⟩
    have v2 := same_new (o := HO.lst ([.bl b0, .bl b1, .bl b2, .bl b3, .bl b4, .bl b5] ++ [.bl b6, .bl b7, .bl b8])) p2l
    have g3 : upd I2 k2l (.lst ([.bl b0, .bl b1, .bl b2, .bl b3, .bl b4, .bl b5] ++ [.bl b6, .bl b7, .bl b8])) k2l = some (.lst [.bl b0, .bl b1, .bl b2, .bl b3, .bl b4, .bl b5, .bl b6, .bl b7, .bl b8]) := upd_same
    generalize upd I2 k2l (.lst ([.bl b0, .bl b1, .bl b2, .bl b3, .bl b4, .bl b5] ++ [.bl b6, .bl b7, .bl b8])) = J2 at v2 g3 ⊢
    have w2 := w1.trans (u2.trans v2)
    refine ⟨_, rfl, _, rfl, a, C, d, _, _, b9, rfl, .own _, (w2 _ _ ea), (fun dx z => (ed dx z).imp fun fs e => w2 _ _ e), T, k9, _, rfl, a, C, d, _, _, b10, rfl, .own _, (w2 _ _ ea), (fun dx z => (ed dx z).imp fun fs e => w2 _ _ e), T, k10, _, rfl, a, C, d, _, _, b11, rfl, .own _, (w2 _ _ ea), (fun dx z => (ed dx z).imp fun fs e => w2 _ _ e), T, k11, by show 3 ≤ sizeLine; decide, fun m3l n3l => ?_⟩
    have u3 := same_new (o := HO.lst [.bl b9, .bl b10, .bl b11]) n3l
    have h3 : upd J2 m3l (.lst [.bl b9, .bl b10, .bl b11]) m3l = _ := upd_same
    generalize upd J2 m3l (.lst [.bl b9, .bl b10, .bl b11]) = I3 at u3 h3 ⊢
    refine ⟨k2l, m3l, _, _, rfl, rfl, u3 _ _ g3, h3, by show 12 ≤ sizeLine; decide, fun k3l p3l => ?_⟩
    have v3 := same_new (o := HO.lst ([.bl b0, .bl b1, .bl b2, .bl b3, .bl b4, .bl b5, .bl b6, .bl b7, .bl b8] ++ [.bl b9, .bl b10, .bl b11])) p3l
    have g4 : upd I3 k3l (.lst ([.bl b0, .bl b1, .bl b2, .bl b3, .bl b4, .bl b5, .bl b6, .bl b7, .bl b8] ++ [.bl b9, .bl b10, .bl b11])) k3l = some (.lst [.bl b0, .bl b1, .bl b2, .bl b3, .bl b4, .bl b5, .bl b6, .bl b7, .bl b8, .bl b9, .bl b10, .bl b11]) := upd_same
    generalize upd I3 k3l (.lst ([.bl b0, .bl b1, .bl b2, .bl b3, .bl b4, .bl b5, .bl b6, .bl b7, .bl b8] ++ [.bl b9, .bl b10, .bl b11])) = J3 at v3 g4 ⊢
    have w3 := w2.trans (u3.trans v3)
    exact q k3l J3 ((w2.trans u3).free p3l) w3 g4
end
end K00
set_option Elab.async false
set_option linter.all false
set_option maxRecDepth 100000
set_option maxHeartbeats 4000000
namespace K00
open PySem PySem.Spec PyProof.Rows L2
abbrev sDue : Stmt := topS 24
abbrev nDue : List Str := ["_law_base", "_law_own", "_law_at"]
theorem scDue : FnScope nDue ["_law_base", "_law_own"] (defScope sDue) := ⟨rfl, rfl, rfl, by decide +kernel, rfl, by decide +kernel, by decide +kernel⟩
def hot (n b : Nat) : List Bool := (List.range n).map fun i => i == b
def dueBits (b o : Nat) : List Bool := hot 3 b ++ hot 9 o
theorem hot_succ (n b : Nat) : hot (n + 1) b = hot n b ++ [n == b] := by
  unfold hot
  rw [List.range_succ, List.map_append]
  rfl
theorem hot_len (n b : Nat) : (hot n b).length = n := by
  unfold hot
  rw [List.length_map, List.length_range]
theorem at_is (i b : Nat) : decide (V.int (0 + (i : Int)) = V.int (b : Int)) = (i == b) := by
  by_cases h : i = b
  · subst h
    simp
  · have h1 : ¬ V.int (0 + (i : Int)) = V.int (b : Int) := fun z => by
      have z2 := V.int.inj z
      omega
    rw [decide_eq_false h1]
    exact (beq_eq_false_iff_ne.mpr h).symm
def spDue : Sp := fun vs H Q _ => ∃ b o : Nat, vs = [.int (b : Int), .int (o : Int)] ∧ ∀ (l : Addr) (H' : Hp), H l = none → Same H H' → H' l = some (.lst ((dueBits b o).map V.bl)) → Q (.ref l) H'
section
variable {P : Program} {w : World} {K : PySem.W.Frag} {mg : Str → Option Value} {base : Heap} {f : Addr} {fd : FuncData}
theorem ok_due (F : Fun K "_law_due_sorts" "_law_due_sorts" sDue f fd) (mR : mg "range" = none) : FnOk P w K mg base CX0 1 f fd ["_law_base", "_law_own"] spDue := by
  refine F.ok scDue (fun vs H Q E h => ?_) (fun cdv A outer s H vs Q E hr h => ?_)
  · obtain ⟨b, o, rfl, _⟩ := h
    rfl
  · obtain ⟨b, o, rfl, q⟩ := h
    refine ⟨_, pss_one (ps_ret (pe_op op_cat (pe_lc (own := [("_law_at", 2)]) (g := gName 2) (tt := tYes) rfl scDue.nd (pi_range1 (by rfl) mR (pa_cons pe_int pa_nil)) (blkOk_by (N := nDue) (sc := defScope sDue) (by decide +kernel)) (fun _ _ _ _ _ => pg_name (i := 2) scDue.nd rfl (Or.inl rfl)) (fun _ _ _ _ _ => pts_nil)
          (fun _ _ _ _ _ => pe_cmpR op_eq (pv 2) (pv 0) (nomark _)))
        (pe_lc (own := [("_law_at", 2)]) (g := gName 2) (tt := tYes) rfl scDue.nd (pi_range1 (by rfl) mR (pa_cons pe_int pa_nil)) (blkOk_by (N := nDue) (sc := defScope sDue) (by decide +kernel)) (fun _ _ _ _ _ => pg_name (i := 2) scDue.nd rfl (Or.inl rfl)) (fun _ _ _ _ _ => pts_nil)
          (fun _ _ _ _ _ => pe_cmpR op_eq (pv 2) (pv 1) (nomark _))))), ?_⟩
    refine ⟨3, rfl, by decide, by decide, fun D nD => ?_⟩
    refine lc_it (walk_range (lo := 0) (n := 3)) (fun i H3 => Same H H3 ∧ H3 D = some (.lst ((hot i b).map V.bl))) ⟨same_new nD, upd_same⟩ (fun _ _ _ _ => True.intro) ?_ ?_
    · rintro i x H3 H4 hi ⟨s3, e3⟩ ⟨rfl, rfl⟩
      refine ⟨rfl, _, rfl, _, rfl, rfl, _, e3, ?_, same_mut s3 nD, ?_⟩
      · rw [List.length_map, hot_len]
        exact Nat.lt_of_le_of_lt (show i ≤ 10 by omega) (by decide)
      · rw [upd_same, at_is, hot_succ, List.map_append]
        rfl
    · rintro H3 ⟨s3, e3⟩
      refine ⟨9, rfl, by decide, by decide, fun D2 nD2 => ?_⟩
      refine lc_it (walk_range (lo := 0) (n := 9)) (fun i H4 => Same H3 H4 ∧ H4 D2 = some (.lst ((hot i o).map V.bl))) ⟨same_new nD2, upd_same⟩ (fun _ _ _ _ => True.intro) ?_ ?_
      · rintro i x H4 H5 hi ⟨s4, e4⟩ ⟨rfl, rfl⟩
        refine ⟨rfl, _, rfl, _, rfl, rfl, _, e4, ?_, same_mut s4 nD2, ?_⟩
        · rw [List.length_map, hot_len]
          exact Nat.lt_of_le_of_lt (show i ≤ 10 by omega) (by decide)
        · rw [upd_same, at_is, hot_succ, List.map_append]
          rfl
      · rintro H4 ⟨s4, e4⟩
        refine ⟨D, D2, _, _, rfl, rfl, s4 _ _ e3, e4, ?_, fun l nl => ?_⟩
        · rw [List.length_map, List.length_map, hot_len, hot_len]
          decide
        · refine q l _ ((s3.trans s4).free nl) ((s3.trans s4).trans (same_new nl)) ?_
          rw [upd_same, ← List.map_append]
          rfl
end
end K00
set_option Elab.async false
set_option linter.all false
set_option maxRecDepth 100000
set_option maxHeartbeats 4000000
namespace K00
open PySem PySem.Spec PyProof.Rows L2
abbrev sRight : Stmt := topS 25
abbrev nRight : List Str := ["_law_source", "_law_values_so", "_law_found", "_law_errors_so", "_law_number_so", "_law_word_so", "_law_reason_so", "_law_bases", "_law_due", "_law_narrow", "_law_own", "_law_base", "_law_error"]
theorem scRight : FnScope nRight ["_law_source"] (defScope sRight) := ⟨rfl, rfl, rfl, by decide +kernel, rfl, by decide +kernel, by decide +kernel⟩
/-- a list under way at D, made of data -/
structure Bld (H0 : Hp) (D : Addr) (H3 : Hp) (ys : List V) (ds : List PyData) : Prop where
  s : Same H0 H3
  f : H3 D = some (.lst ys)
  d : DxAll (mask H3 [D]) ys ds
theorem Bld.new {H0 : Hp} {D : Addr} (n : H0 D = none) : Bld H0 D (upd H0 D (.lst [])) [] [] := ⟨same_new n, upd_same, .nil⟩
theorem Bld.put {H0 H3 H5 : Hp} {D : Addr} {ys : List V} {ds : List PyData} {y : V} {d : PyData} (B : Bld H0 D H3 ys ds) (n : H0 D = none) (s5 : Same H3 H5) (hd : Dx (mask H5 [D]) y d) : Bld H0 D (upd H5 D (.lst (ys ++ [y]))) (ys ++ [y]) (ds ++ [d]) := by
  refine ⟨same_mut (B.s.trans s5) n, upd_same, ?_⟩
  rw [mask_upd (List.mem_singleton.mpr rfl)]
  exact (B.d.mono (mask_same s5 fun _ _ _ z => z)).snoc hd
theorem Bld.all {H0 H3 : Hp} {D : Addr} {ys : List V} {ds : List PyData} (B : Bld H0 D H3 ys ds) : DxAll H3 ys ds := B.d.mono fun _ _ e => (mask_at e).1
theorem Bld.len {H0 H3 : Hp} {D : Addr} {ys : List V} {ds : List PyData} (B : Bld H0 D H3 ys ds) : ys.length = ds.length := B.d.length
theorem bits_dx {H : Hp} : ∀ bs : List Bool, DxAll H (bs.map V.bl) (bs.map PyData.bool)
  | [] => .nil
  | b :: bs => .cons (.bl b) (bits_dx bs)
theorem DxAll.app {H : Hp} : ∀ {xs ys : List V} {ds es : List PyData}, DxAll H xs ds → DxAll H ys es → DxAll H (xs ++ ys) (ds ++ es)
  | _, _, _, _, .nil, h => h
  | _, _, _, _, .cons a t, h => .cons a (DxAll.app t h)
def bitsD (b o : Nat) : PyData := .list ((dueBits b o).map PyData.bool)
theorem bits_at {H H' : Hp} {D l : Addr} {b o : Nat} (f : H D ≠ none) (n : H l = none) (s : Same H H') (e : H' l = some (.lst ((dueBits b o).map V.bl))) : Dx (mask H' [D]) (.ref l) (bitsD b o) := by
  refine .lst (mask_of e fun z => ?_) (bits_dx _)
  rw [List.mem_singleton.mp z] at n
  exact f n
def kinds7 : List (Nat × Nat) := [(0, 0), (1, 1), (1, 2), (2, 3), (0, 4), (2, 5), (2, 6)]
def kinds : List (Nat × Nat) := kinds7 ++ kinds7 ++ [(0, 7), (0, 8)]
/-- what must be known of a class whose base is the b-th of three and which is the o-th of nine -/
def ClsOk (K : PySem.W.Frag) (cs : List Addr) (C : Addr) (k : Nat × Nat) : Prop :=
  ExcC K C ∧ KitRow K cs C (dueBits k.1 k.2) ∧ PySem.W.kitAny K (.ref C) [.type "KeyError", .type "IndexError"] = some false
def spRight : Sp := fun vs H Q _ => ∃ (p : Addr) (c : Int), vs = [.ref p] ∧ Src H p c ∧ c + 20 < 2 ^ 60 ∧ ∀ (c' : Int) (H' : Hp), SameBut p H H' → Src H' p c' → c ≤ c' → c' ≤ c + 5 → Q (.bl true) H'
theorem Paired.at {α β : Type} {R : α → β → Prop} : ∀ {xs : List α} {ys : List β} {i : Nat} {y : β}, Paired R xs ys → ys[i]? = some y → ∃ x, xs[i]? = some x ∧ R x y
  | _, _, _, _, .nil, e => by simp at e
  | _, _, 0, _, .cons h _, e => by
    simp at e
    subst e
    exact ⟨_, rfl, h⟩
  | _, _, i + 1, y, .cons _ t, e => by
    obtain ⟨x, h1, h2⟩ := Paired.at (i := i) (y := y) t (by simpa using e)
    exact ⟨x, by simpa using h1, h2⟩
theorem Paired.at2 {α β : Type} {R : α → β → Prop} : ∀ {xs : List α} {ys : List β} {i : Nat} {x : α}, Paired R xs ys → xs[i]? = some x → ∃ y, ys[i]? = some y ∧ R x y
  | _, _, _, _, .nil, e => by simp at e
  | _, _, 0, _, .cons h _, e => by
    simp at e
    subst e
    exact ⟨_, rfl, h⟩
  | _, _, i + 1, x, .cons _ t, e => by
    obtain ⟨y, h1, h2⟩ := Paired.at2 (i := i) (x := x) t (by simpa using e)
    exact ⟨y, by simpa using h1, h2⟩
section
variable {P : Program} {w : World} {K : PySem.W.Frag} {mg : Str → Option Value} {base : Heap} {f fV fK fS fD fO : Addr} {fd dV dK dS dD dO : FuncData} {cs cs16 : List Addr}
theorem ok_right (F : Fun K "_law_right" "_law_right" sRight f fd)
    (GV : FnOk P w K mg base CX0 4 fV dV ["_law_source"] (spValues K)) (bV : Binds K dV ["_law_source"] []) (kV : PySem.W.keepIn K (.ref fV) = true) (mV : mg "_law_values" = some (.ref fV))
    (GK : FnOk P w K mg base CX0 6 fK dK ["_law_values_so"] (spKept K cs16)) (bK : Binds K dK ["_law_values_so"] []) (kK : PySem.W.keepIn K (.ref fK) = true) (mK : mg "_law_kept" = some (.ref fK))
    (GS : FnOk P w K mg base CX0 5 fS dS ["_law_found", "_law_due"] (spSame 5)) (bS : Binds K dS ["_law_found", "_law_due"] []) (kS : PySem.W.keepIn K (.ref fS) = true) (mS : mg "_law_same" = some (.ref fS))
    (GD : FnOk P w K mg base CX0 1 fD dD ["_law_base", "_law_own"] spDue) (bD : Binds K dD ["_law_base", "_law_own"] []) (kD : PySem.W.keepIn K (.ref fD) = true) (mD : mg "_law_due_sorts" = some (.ref fD))
    (GO : FnOk P w K mg base CX0 1 fO dO ["_law_error"] (spSorts K cs)) (bO : Binds K dO ["_law_error"] []) (kO : PySem.W.keepIn K (.ref fO) = true) (mO : mg "_law_sorts" = some (.ref fO))
    (hcs : Paired (ClsOk K cs) cs16 kinds) (mI : mg "isinstance" = none) (mE : mg "enumerate" = none) (mA : mg "any" = none) (mKE : mg "KeyError" = none) (mIE : mg "IndexError" = none)
    {tkM tkR tkL tkC : Tok} (mM : mg "MOST" = some (.int 199 tkM)) (mR : mg "ROOM" = some (.int 8 tkR)) (mL : mg "LETTERS" = some (.int 4 tkL)) (mC : mg "CELLS" = some (.int 4 tkC)) :
    FnOk P w K mg base CX0 7 f fd ["_law_source"] spRight := by
  refine F.ok scRight (fun vs H Q E h => ?_) (fun cdv A outer s H vs Q E hr h => ?_)
  · obtain ⟨p, c, rfl, _⟩ := h
    rfl
  · obtain ⟨p, c, rfl, S, hc, q⟩ := h
    have h1 : Room 1 _ := hr.mono (by decide)
    have h4 : Room 4 _ := hr.mono (by decide)
    have h5 : Room 5 _ := hr.mono (by decide)
    refine ⟨_, pss_cons (ps_set (i := 1) scRight.nd rfl (.inl rfl) (pe_call GV h4 rfl mV kV bV .nil pass0 (pa_cons (pv 0) pa_nil)))
      (pss_cons (ps_asg (pe_call GK hr rfl mK kK bK .nil pass0 (pa_cons (pv 1) pa_nil)) (pg_tup rfl (pgs_cons (pg_name (i := 2) scRight.nd rfl (.inl rfl)) (pgs_cons (pg_name (i := 3) scRight.nd rfl (.inl rfl)) pgs_nil))))
      (pss_cons (ps_asg (pv 1) (pg_unl rfl (pgs_cons (pg_name (i := 4) scRight.nd rfl (.inl rfl)) (pgs_cons (pg_name (i := 5) scRight.nd rfl (.inl rfl)) (pgs_cons (pg_name (i := 6) scRight.nd rfl (.inl rfl)) pgs_nil)))))
      (pss_cons (ps_if (pt_not (pt_val (pe_call GS h5 rfl mS kS bS .nil pass0 (pa_cons (pv 2) (pa_cons (pe_op op_rep (pe_lst (pa_cons (pe_op op_rep (pe_lst (pa_cons (pv 4) pa_nil)) pe_int) (pa_cons (pe_lst (pa_cons (pv 6) (pa_cons (pv 6) (pa_cons (pv 5) pa_nil)))) pa_nil))) pe_int) pa_nil))))) (pss_one (ps_ret pe_bl)) pss_nil)
      (pss_cons (ps_set (i := 7) scRight.nd rfl (.inl rfl) (pe_lst (pa_cons pe_int (pa_cons pe_int (pa_cons pe_int (pa_cons pe_int (pa_cons pe_int (pa_cons pe_int (pa_cons pe_int pa_nil)))))))))
      (pss_cons (ps_setLc (i := 8) (own := [("_law_own", 10), ("_law_base", 11)]) (g := gTup _ 2 (gCons (gName 10) (gCons (gName 11) gNil))) (tt := tYes) rfl scRight.nd rfl rfl (sw_true rfl rfl rfl (by decide +kernel)) (pi_enum (by rfl) mE (pa_cons (pv 7) pa_nil)) (blkOk_by (N := nRight) (sc := defScope sRight) (by decide +kernel))
          (fun _ _ _ _ _ => pg_tup rfl (pgs_cons (pg_name (i := 10) scRight.nd rfl (Or.inl rfl)) (pgs_cons (pg_name (i := 11) scRight.nd rfl (Or.inl rfl)) pgs_nil))) (fun _ _ _ _ _ => pts_nil) (fun _ _ _ _ _ => pe_call GD h1 rfl mD kD bD .nil pass0 (pa_cons (pv 11) (pa_cons (pv 10) pa_nil))))
      (pss_cons (ps_set (i := 8) scRight.nd rfl (.inl rfl) (pe_op op_cat (pe_op op_cat (pv 8) (pv 8)) (pe_lst (pa_cons (pe_call GD h1 rfl mD kD bD .nil pass0 (pa_cons pe_int (pa_cons pe_int pa_nil))) (pa_cons (pe_call GD h1 rfl mD kD bD .nil pass0 (pa_cons pe_int (pa_cons pe_int pa_nil))) pa_nil)))))
      (pss_cons (ps_if (pt_not (pt_val (pe_call GS h5 rfl mS kS bS .nil pass0 (pa_cons (pe_lc (own := [("_law_error", 12)]) (g := gName 12) (tt := tYes) rfl scRight.nd (pi_list (pv 3)) (blkOk_by (N := nRight) (sc := defScope sRight) (by decide +kernel)) (fun _ _ _ _ _ => pg_name (i := 12) scRight.nd rfl (Or.inl rfl)) (fun _ _ _ _ _ => pts_nil)
          (fun _ _ _ _ _ => pe_call GO h1 rfl mO kO bO .nil pass0 (pa_cons (pv 12) pa_nil))) (pa_cons (pv 8) pa_nil))))) (pss_one (ps_ret pe_bl)) pss_nil)
      (pss_cons (ps_setLc (i := 9) (own := [("_law_error", 12)]) (g := gName 12) (tt := tYes) (te := tCB (rXisT K) (tCons (tVar 12) (tCons (tTup (tCons (tC (.ty "KeyError")) (tCons (tC (.ty "IndexError")) tNil))) tNil))) rfl scRight.nd rfl rfl (sw_true rfl rfl rfl (by decide +kernel)) (pi_list (pv 3)) (blkOk_by (N := nRight) (sc := defScope sRight) (by decide +kernel)) (fun _ _ _ _ _ => pg_name (i := 12) scRight.nd rfl (Or.inl rfl)) (fun _ _ _ _ _ => pts_nil)
          (fun _ _ _ _ _ => pe_callB (id := "isinstance") (r := rXisT K) call_xisT (by rfl) mI (by decide +kernel) (pa_cons (pv 12) (pa_cons (pe_tup (pa_cons (pe_bltn (v := .ty "KeyError") (by rfl) mKE (by decide +kernel) rfl) (pa_cons (pe_bltn (v := .ty "IndexError") (by rfl) mIE (by decide +kernel) rfl) pa_nil))) pa_nil))))
      (pss_one (ps_ret (pe_and (pe_not (pe_callB (cr_any rfl) (by rfl) mA (by decide +kernel) (pa_cons (pv 9) pa_nil))) (pe_one (pe_call GS h5 rfl mS kS bS .nil pass0 (pa_cons (pe_lst (pa_cons (pe_glob (v := .int 199) rfl mM ⟨_, rfl⟩) (pa_cons (pe_glob (v := .int 8) rfl mR ⟨_, rfl⟩) (pa_cons (pe_glob (v := .int 4) rfl mL ⟨_, rfl⟩) (pa_cons (pe_glob (v := .int 4) rfl mC ⟨_, rfl⟩) pa_nil)))))
          (pa_cons (pe_lst (pa_cons pe_int (pa_cons pe_int (pa_cons pe_int (pa_cons pe_int pa_nil))))) pa_nil))))))))))))))), ?_⟩
    -- values
    refine ⟨_, rfl, p, c, rfl, S, hc, fun l t n z d c1 H1 hn hz b1 S1 c10 c11 nl gl R => ?_⟩
    -- kept
    refine ⟨_, rfl, l, t, n, z, d, rfl, gl, hn, hz, R, fun T lf le as H2 s2 gT dF gE has => ?_⟩
    refine ⟨T, _, rfl, SqT.of gT, rfl, _, _, rfl, _, _, rfl, rfl, ?_⟩
    refine ⟨_, rfl, l, _, rfl, SqL.of (s2 _ _ gl), rfl, _, _, rfl, _, _, rfl, _, _, rfl, rfl, ?_⟩
    -- the fields
    refine ⟨_, rfl, _, rfl, by show 1 ≤ sizeLine; decide, fun k1 n1 => ?_⟩
    have s3 := same_new (o := HO.lst [.int n]) n1
    have g3 : upd H2 k1 (.lst [.int n]) k1 = _ := upd_same
    generalize upd H2 k1 (.lst [.int n]) = H3 at s3 g3 ⊢
    refine ⟨k1, 4, _, rfl, rfl, g3, by decide, by decide, by show 1 * 4 ≤ sizeLine; decide, fun k2 n2 => ?_⟩
    have s4 := same_new (o := HO.lst (List.replicate (4 : Int).toNat [V.int n]).flatten) n2
    have g4 : upd H3 k2 (.lst (List.replicate (4 : Int).toNat [V.int n]).flatten) k2 = some (.lst [.int n, .int n, .int n, .int n]) := upd_same
    generalize upd H3 k2 (.lst (List.replicate (4 : Int).toNat [V.int n]).flatten) = H4 at s4 g4 ⊢
    refine ⟨_, rfl, _, rfl, _, rfl, by show 3 ≤ sizeLine; decide, fun k3 n3 => ?_⟩
    have s5 := same_new (o := HO.lst [.ref t, .ref t, .str z]) n3
    have g5 : upd H4 k3 (.lst [.ref t, .ref t, .str z]) k3 = _ := upd_same
    generalize upd H4 k3 (.lst [.ref t, .ref t, .str z]) = H5 at s5 g5 ⊢
    refine ⟨by show 2 ≤ sizeLine; decide, fun k4 n4 => ?_⟩
    have s6 := same_new (o := HO.lst [.ref k2, .ref k3]) n4
    have g6 : upd H5 k4 (.lst [.ref k2, .ref k3]) k4 = _ := upd_same
    generalize upd H5 k4 (.lst [.ref k2, .ref k3]) = H6 at s6 g6 ⊢
    refine ⟨k4, 2, _, rfl, rfl, g6, by decide, by decide, by show 2 * 2 ≤ sizeLine; decide, fun k5 n5 => ?_⟩
    have s7 := same_new (o := HO.lst (List.replicate (2 : Int).toNat [V.ref k2, .ref k3]).flatten) n5
    have g7 : upd H6 k5 (.lst (List.replicate (2 : Int).toNat [V.ref k2, .ref k3]).flatten) k5 = some (.lst [.ref k2, .ref k3, .ref k2, .ref k3]) := upd_same
    generalize upd H6 k5 (.lst (List.replicate (2 : Int).toNat [V.ref k2, .ref k3]).flatten) = H7 at s7 g7 ⊢
    have s47 := s5.trans (s6.trans s7)
    have s27 := s3.trans (s4.trans s47)
    have dT : Dx H7 (.ref t) d := (R.dx.mono s2).mono s27
    have r1 : Dx H7 (.ref k2) (.list [.int n, .int n, .int n, .int n]) := .lst (s47 _ _ g4) (.cons (.int n) (.cons (.int n) (.cons (.int n) (.cons (.int n) .nil))))
    have r2 : Dx H7 (.ref k3) (.list [d, d, .str z]) := .lst ((s6.trans s7) _ _ g5) (.cons dT (.cons dT (.cons (.str z) .nil)))
    have dsh : Sh 5 (.list (rows n z d ++ rows n z d)) := by
      refine ⟨by show 4 ≤ 1000; decide, fun e he => ?_⟩
      have he2 : e ∈ rows n z d := by
        rcases List.mem_append.mp he with h | h <;> exact h
      simp only [rows, List.mem_cons, List.not_mem_nil, or_false] at he2
      rcases he2 with rfl | rfl
      · refine ⟨by show 4 ≤ 1000; decide, fun e2 h2 => ?_⟩
        simp only [List.mem_cons, List.not_mem_nil, or_false, or_self] at h2
        subst h2
        exact True.intro
      · refine ⟨by show 3 ≤ 1000; decide, fun e2 h2 => ?_⟩
        simp only [List.mem_cons, List.not_mem_nil, or_false] at h2
        rcases h2 with rfl | rfl | rfl
        · exact R.deep
        · exact R.deep
        · exact True.intro
    refine ⟨.ref lf, .ref k5, _, rfl, dF.mono s27, .lst g7 (.cons r1 (.cons r2 (.cons r1 (.cons r2 .nil)))), dsh, fun H8 s8 => ⟨_, rfl, iteF ?_⟩⟩
    -- bases
    refine ⟨by show 7 ≤ sizeLine; decide, fun k6 n6 => ?_⟩
    have s9 := same_new (o := HO.lst [.int 0, .int 1, .int 1, .int 2, .int 0, .int 2, .int 2]) n6
    have g9 : upd H8 k6 (.lst [.int 0, .int 1, .int 1, .int 2, .int 0, .int 2, .int 2]) k6 = _ := upd_same
    generalize upd H8 k6 (.lst [.int 0, .int 1, .int 1, .int 2, .int 0, .int 2, .int 2]) = H9 at s9 g9 ⊢
    have s29 := s27.trans (s8.trans s9)
    -- due, of seven
    refine ⟨_, rfl, k6, _, rfl, SqL.of g9, fun D nD => ?_⟩
    refine lc_it (walk_enum (K := K) (a := k6) (xs := [.int 0, .int 1, .int 1, .int 2, .int 0, .int 2, .int 2])) (fun i H3 => ∃ ys, Bld H9 D H3 ys ((kinds7.map fun k => bitsD k.1 k.2).take i))
      ⟨[], Bld.new nD⟩ (fun i H3 _ ⟨_, B⟩ => SqL.of (B.s _ _ g9)) ?_ ?_
    · rintro i x G3 G4 hi ⟨ys, B⟩ ⟨u, x1, x2, rfl, nu, rfl, f1, f2⟩
      have hi7 : i < 7 := hi
      obtain rfl : V.int ((i : Nat) : Int) = x1 := Option.some.inj f1
      obtain ⟨b, rfl, et⟩ : ∃ b : Nat, x2 = .int (b : Int) ∧ (kinds7.map fun k => bitsD k.1 k.2).take (i + 1) = (kinds7.map fun k => bitsD k.1 k.2).take i ++ [bitsD b i] := by
        match i, hi7, f2 with
        | 0, _, f2 => exact ⟨0, (Option.some.inj f2).symm, rfl⟩
        | 1, _, f2 => exact ⟨1, (Option.some.inj f2).symm, rfl⟩
        | 2, _, f2 => exact ⟨1, (Option.some.inj f2).symm, rfl⟩
        | 3, _, f2 => exact ⟨2, (Option.some.inj f2).symm, rfl⟩
        | 4, _, f2 => exact ⟨0, (Option.some.inj f2).symm, rfl⟩
        | 5, _, f2 => exact ⟨2, (Option.some.inj f2).symm, rfl⟩
        | 6, _, f2 => exact ⟨2, (Option.some.inj f2).symm, rfl⟩
      have su := same_new (o := HO.tup [.int (i : Int), .int (b : Int)]) nu
      refine ⟨u, _, rfl, .inl (.inl upd_same), rfl, _, _, rfl, _, _, rfl, rfl, rfl, _, rfl, _, rfl, b, i, rfl, fun v G5 nv s5 ev => ?_⟩
      have fD := su _ _ B.f
      refine ⟨ys, s5 _ _ fD, ?_, ys ++ [.ref v], ?_⟩
      · have z := B.len
        rw [List.length_take] at z
        exact Nat.lt_of_le_of_lt (show ys.length ≤ 10 by omega) (by decide)
      · rw [et]
        exact B.put nD (su.trans s5) (bits_at (by rw [fD]; exact fun z => nomatch z) nv s5 ev)
    · rintro G3 ⟨ys, B⟩
      have B7 : Bld H9 D G3 ys (kinds7.map fun k => bitsD k.1 k.2) := B
      have ly : ys.length = 7 := B7.len
      have dy := B7.all
      -- due + due + ..
      refine ⟨_, rfl, _, rfl, D, D, _, _, rfl, rfl, B7.f, B7.f, by rw [ly]; decide, fun k7 n7 => ?_⟩
      have s10 := same_new (o := HO.lst (ys ++ ys)) n7
      have g10 : upd G3 k7 (.lst (ys ++ ys)) k7 = _ := upd_same
      generalize upd G3 k7 (.lst (ys ++ ys)) = G4 at s10 g10 ⊢
      refine ⟨0, 7, rfl, fun v7 G5 _ s11 g11 => ?_⟩
      refine ⟨0, 8, rfl, fun v8 G6 _ s12 g12 => ⟨by show 2 ≤ sizeLine; decide, fun k8 n8 => ?_⟩⟩
      have s13 := same_new (o := HO.lst [.ref v7, .ref v8]) n8
      have g13 : upd G6 k8 (.lst [.ref v7, .ref v8]) k8 = _ := upd_same
      generalize upd G6 k8 (.lst [.ref v7, .ref v8]) = G7 at s13 g13 ⊢
      refine ⟨k7, k8, _, _, rfl, rfl, (s11.trans (s12.trans s13)) _ _ g10, g13, by rw [List.length_append, ly]; show 7 + 7 + 2 ≤ sizeLine; decide, fun k9 n9 => ?_⟩
      have s14 := same_new (o := HO.lst (ys ++ ys ++ [.ref v7, .ref v8])) n9
      have g14 : upd G7 k9 (.lst (ys ++ ys ++ [.ref v7, .ref v8])) k9 = _ := upd_same
      generalize upd G7 k9 (.lst (ys ++ ys ++ [.ref v7, .ref v8])) = G8 at s14 g14 ⊢
      have s38 := s10.trans (s11.trans (s12.trans (s13.trans s14)))
      have due : Dx G8 (.ref k9) (.list (kinds.map fun k => bitsD k.1 k.2)) := by
        refine .lst g14 ?_
        have dy8 := dy.mono s38
        have d7 : Dx G8 (.ref v7) (bitsD 0 7) := .lst ((s12.trans (s13.trans s14)) _ _ g11) (bits_dx _)
        have d8 : Dx G8 (.ref v8) (bitsD 0 8) := .lst ((s13.trans s14) _ _ g12) (bits_dx _)
        exact (dy8.app dy8).app (.cons d7 (.cons d8 .nil))
      have s28 : Same H2 G8 := s29.trans (B7.s.trans s38)
      have la : (as.map V.ref).length = 16 := by
        have e1 := Paired.length has
        have e2 := Paired.length hcs
        rw [List.length_map, ← e1, e2]
        rfl
      -- what is known of the i-th error
      have err : ∀ (i : Nat) (x : V) (G : Hp), Same H2 G → (as.map V.ref)[i]? = some x → ∃ (a C : Addr) (k : Nat × Nat), x = .ref a ∧ Has G C a ∧ ClsOk K cs C k ∧ kinds[i]? = some k := by
        intro i x G sG ex
        rw [List.getElem?_map] at ex
        obtain ⟨a, ea, rfl⟩ := Option.map_eq_some_iff.mp ex
        obtain ⟨C, eC, hC⟩ := Paired.at has ea
        obtain ⟨k, ek, hk⟩ := Paired.at2 hcs eC
        exact ⟨a, C, k, rfl, hC.mono sG, hk, ek⟩
      -- sorts
      refine ⟨_, rfl, le, rfl, ⟨_, SqL.of (s28 _ _ gE)⟩, fun D2 nD2 => ?_⟩
      refine lc_it (walk_list (K := K) (a := le) (xs := as.map V.ref)) (fun i H3 => ∃ ys, Bld G8 D2 H3 ys ((kinds.map fun k => bitsD k.1 k.2).take i))
        ⟨[], Bld.new nD2⟩ (fun i H3 _ ⟨_, B⟩ => SqL.of (B.s _ _ (s28 _ _ gE))) ?_ ?_
      · rintro i x I3 I4 hi ⟨ys2, B⟩ ⟨rfl, ex⟩
        obtain ⟨a, C, k, rfl, hC, ⟨xc, kr, _⟩, ek⟩ := err i x _ (s28.trans B.s) ex
        refine ⟨rfl, _, rfl, a, C, _, rfl, hC, xc, kr, fun v I5 nv s5 ev => ?_⟩
        refine ⟨ys2, s5 _ _ B.f, ?_, ys2 ++ [.ref v], ?_⟩
        · have z := B.len
          rw [List.length_take] at z
          exact Nat.lt_of_le_of_lt (show ys2.length ≤ 100 by omega) (by decide)
        · rw [List.take_add_one, List.getElem?_map, ek]
          exact B.put nD2 s5 (bits_at (by rw [B.f]; exact fun z => nomatch z) nv s5 ev)
      · rintro I3 ⟨ys2, B⟩
        rw [la] at B
        have B2 : Bld G8 D2 I3 ys2 (kinds.map fun k => bitsD k.1 k.2) := B
        have dsh2 : Sh 5 (.list (kinds.map fun k => bitsD k.1 k.2)) := by
          refine ⟨by show 16 ≤ 1000; decide, fun e he => ?_⟩
          obtain ⟨k, _, rfl⟩ := List.mem_map.mp he
          refine ⟨?_, fun e2 h2 => ?_⟩
          · rw [List.length_map]
            unfold dueBits
            rw [List.length_append, hot_len, hot_len]
            decide
          · obtain ⟨b, _, rfl⟩ := List.mem_map.mp h2
            exact True.intro
        refine ⟨_, rfl, .ref D2, .ref k9, _, rfl, .lst B2.f B2.all, due.mono B2.s, dsh2, fun I4 s15 => ⟨_, rfl, iteF ?_⟩⟩
        have s24 : Same H2 I4 := s28.trans (B2.s.trans s15)
        -- narrow
        refine ⟨_, rfl, le, rfl, ⟨_, SqL.of (s24 _ _ gE)⟩, fun D3 nD3 => ?_⟩
        refine lc_it (walk_list (K := K) (a := le) (xs := as.map V.ref)) (fun i H3 => Same I4 H3 ∧ H3 D3 = some (.lst ((List.replicate i false).map V.bl)))
          ⟨same_new nD3, upd_same⟩ (fun i H3 _ p => SqL.of (p.1 _ _ (s24 _ _ gE))) ?_ ?_
        · rintro i x J3 J4 hi ⟨sJ, eJ⟩ ⟨rfl, ex⟩
          rw [la] at hi
          obtain ⟨a, C, k, rfl, ⟨dd, ea, ed⟩, ⟨xc, _, ka⟩, ek⟩ := err i x _ (s24.trans sJ) ex
          refine ⟨rfl, _, rfl, by show 2 ≤ sizeLine; decide, fun tp ntp => ?_⟩
          have st := same_new (o := HO.tup [.ty "KeyError", .ty "IndexError"]) ntp
          refine ⟨a, C, dd, tp, _, _, false, rfl, upd_same, .cons (.ty _) (.cons (.ty _) .nil), st _ _ ea, (fun dx z => (ed dx z).imp fun fs e => st _ _ e), xc, ka, _, st _ _ eJ, ?_, same_mut (sJ.trans st) nD3, ?_⟩
          · rw [List.length_map, List.length_replicate]
            exact Nat.lt_of_le_of_lt (show i ≤ 100 by omega) (by decide)
          · rw [upd_same, List.replicate_succ', List.map_append]
            rfl
        · rintro J3 ⟨sJ, eJ⟩
          have none : (List.replicate (as.map V.ref).length false).any id = false := by
            rw [List.any_eq_false]
            intro z hz
            rw [List.eq_of_mem_replicate hz]
            exact Bool.false_ne_true
          refine ⟨_, rfl, D3, _, rfl, SqL.of eJ, _, rfl, _, rfl, ?_⟩
          rw [none]
          refine iteT ⟨by show 4 ≤ sizeLine; decide, fun m1 nm1 => ⟨by show 4 ≤ sizeLine; decide, fun m2 nm2 => ?_⟩⟩
          have t1 := same_new (o := HO.lst [.int 199, .int 8, .int 4, .int 4]) nm1
          have t2 := same_new (o := HO.lst [.int 199, .int 8, .int 4, .int 4]) nm2
          refine ⟨.ref m1, .ref m2, .list [.int 199, .int 8, .int 4, .int 4], rfl, .lst (t2 _ _ upd_same) (.cons (.int _) (.cons (.int _) (.cons (.int _) (.cons (.int _) .nil)))), .lst upd_same (.cons (.int _) (.cons (.int _) (.cons (.int _) (.cons (.int _) .nil)))), by simp [Sh], fun J9 s9' => ?_⟩
          have sAll : Same H1 J9 := s2.trans (s24.trans (sJ.trans (t1.trans (t2.trans s9'))))
          exact q c1 J9 (b1.trans (Same.but sAll)) (S1.same sAll) c10 c11
end
end K00
set_option Elab.async false
set_option linter.all false
set_option maxRecDepth 100000
set_option maxHeartbeats 4000000
namespace K00
open PySem PySem.Spec PyProof.Rows L2
abbrev sLaw : Stmt := topS 26
abbrev nLaw : List Str := ["_law_script", "_law_cells", "_law_k", "_law_source", "_law_turn"]
theorem scLaw : FnScope nLaw ["_law_script"] (defScope sLaw) := ⟨rfl, rfl, rfl, by decide +kernel, rfl, by decide +kernel, by decide +kernel⟩
def spLaw (K : PySem.W.Frag) : Sp := fun vs H Q _ => ∃ (a : Addr) (ns : List Int), vs = [.ref a] ∧ SqL K H a (ns.map V.int) ∧ ns.length ≤ 63 ∧ ∀ H', Q (.bl true) H'
section
variable {P : Program} {w : World} {K : PySem.W.Frag} {mg : Str → Option Value} {base : Heap} {f fF fS fR : Addr} {fd dF dS dR : FuncData}
theorem ok_law (F : Fun K "law" "law" sLaw f fd)
    (GF : FnOk P w K mg base CX0 1 fF dF ["_law_script", "_law_most"] (spFolded K)) (bF : Binds K dF ["_law_script", "_law_most"] []) (kF : PySem.W.keepIn K (.ref fF) = true) (mF : mg "_law_folded" = some (.ref fF))
    (GS : FnOk P w K mg base CX0 1 fS dS ["_law_script", "_law_k"] (spStream K)) (bS : Binds K dS ["_law_script", "_law_k"] []) (kS : PySem.W.keepIn K (.ref fS) = true) (mS : mg "_law_stream" = some (.ref fS))
    (GR : FnOk P w K mg base CX0 7 fR dR ["_law_source"] spRight) (bR : Binds K dR ["_law_source"] []) (kR : PySem.W.keepIn K (.ref fR) = true) (mR : mg "_law_right" = some (.ref fR))
    (mr : mg "range" = none) (ml : mg "len" = none) (ma : mg "all" = none) : FnOk P w K mg base CX0 8 f fd ["_law_script"] (spLaw K) := by
  refine F.ok scLaw (fun vs H Q E h => ?_) (fun cdv A outer s H vs Q E hr h => ?_)
  · obtain ⟨a, ns, rfl, _⟩ := h
    rfl
  · obtain ⟨a, ns, rfl, hS, hn, q⟩ := h
    have h1 : Room 1 _ := hr.mono (by decide)
    refine ⟨_, pss_cons (ps_set (i := 1) scLaw.nd rfl (.inl rfl) (pe_call GF h1 rfl mF kF bF .nil pass0 (pa_cons (pv 0) (pa_cons pe_int pa_nil))))
      (pss_cons (ps_for PassesOwn.never rfl (pi_range1 (by rfl) mr (pa_cons (pe_callB call_len_seq (by rfl) ml PySem.boot_len (pa_cons (pv 1) pa_nil)) pa_nil)) (pg_name (i := 2) scLaw.nd rfl (.inl rfl))
        (pss_cons (ps_set (i := 3) scLaw.nd rfl (.inr rfl) (pe_call GS h1 rfl mS kS bS .nil pass0 (pa_cons (pv 1) (pa_cons (pv 2) pa_nil))))
        (pss_one (ps_if (pt_not (pt_val (pe_callB (cr_all rfl) (by rfl) ma (by decide +kernel) (pa_cons (pe_lc (own := [("_law_turn", 4)]) (g := gName 4) (tt := tYes) rfl scLaw.nd (pi_range1 (by rfl) mr (pa_cons pe_int pa_nil)) (blkOk_by (N := nLaw) (sc := defScope sLaw) (by decide +kernel)) (fun _ _ _ _ _ => pg_name (i := 4) scLaw.nd rfl (Or.inl rfl)) (fun _ _ _ _ _ => pts_nil)
          (fun _ _ _ _ _ => pe_call GR hr rfl mR kR bR .nil pass0 (pa_cons (pv 3) pa_nil))) pa_nil)))) (pss_one (ps_ret pe_bl)) pss_nil))))
      (pss_one (ps_ret pe_bl))), ?_⟩
    refine ⟨_, rfl, a, ns, 3, rfl, hS, hn, by decide, by decide, fun p ms H1 np s1 gp hm0 hm1 => ?_⟩
    refine ⟨_, rfl, p, _, rfl, .inl (SqL.of gp), ?_⟩
    rw [List.length_map]
    refine ⟨_, rfl, by omega, by omega, ?_⟩
    rw [Int.toNat_natCast]
    refine for_it (walk_range (lo := 0) (n := ms.length)) (fun i σ H3 => ∃ y2 y3 : Option V, σ = [some (.ref a), some (.ref p), y2, y3, none] ∧ H3 p = some (.lst (ms.map V.int))) ⟨none, none, rfl, gp⟩ (fun _ _ _ _ _ => True.intro) ?_ ?_
    · rintro i x σ H3 H4 hi ⟨y2, y3, rfl, g3⟩ ⟨rfl, rfl⟩
      refine ⟨_, rfl, _, rfl, p, ms, i, by simp, SqL.of g3, by omega, fun src u v nsrc hu hv hv2 => ?_⟩
      have sq := same_new (o := HO.lst [.int u, .int v, .int 0]) nsrc
      have S0 : Src (upd H4 src (.lst [.int u, .int v, .int 0])) src 0 := ⟨u, v, upd_same, hu, hv, hv2, Int.le_refl 0⟩
      generalize upd H4 src (.lst [.int u, .int v, .int 0]) = H5 at sq S0 ⊢
      refine ⟨2, rfl, by decide, by decide, fun D nD => ?_⟩
      have nDs := S0.ne nD
      refine lc_it (walk_range (lo := 0) (n := 2)) (fun j G => (∃ c : Int, Src G src c ∧ c ≤ 5 * (j : Int)) ∧ G p = some (.lst (ms.map V.int)) ∧ G D = some (.lst ((List.replicate j true).map V.bl)))
        ⟨⟨0, S0.same (same_new nD), by omega⟩, (sq.trans (same_new nD)) _ _ g3, upd_same⟩ (fun _ _ _ _ => True.intro) ?_ ?_
      · rintro j x G G2 hj ⟨⟨c, Sc, hc⟩, gp2, gD⟩ ⟨rfl, rfl⟩
        refine ⟨rfl, _, rfl, src, c, rfl, Sc, by omega, fun c' G3 b3 S3 c0 c1 => ?_⟩
        have npsrc : p ≠ src := fun z => by
          rw [← z, g3] at nsrc
          cases nsrc
        have npD : p ≠ D := fun z => by
          rw [← z, sq _ _ g3] at nD
          cases nD
        refine ⟨_, b3 _ _ nDs gD, ?_, ⟨c', ?_, by omega⟩, ?_, ?_⟩
        · rw [List.length_map, List.length_replicate]
          exact Nat.lt_of_le_of_lt (show j ≤ 10 by omega) (by decide)
        · obtain ⟨x1, x2, e, r⟩ := S3
          exact ⟨x1, x2, (upd_ne nDs.symm).trans e, r⟩
        · rw [upd_ne npD]
          exact b3 _ _ npsrc gp2
        · rw [upd_same, List.replicate_succ', List.map_append]
          rfl
      · rintro G ⟨_, gp2, gD⟩
        refine ⟨D, _, rfl, SqL.of gD, _, rfl, ?_⟩
        exact iteF ⟨_, _, rfl, gp2⟩
    · rintro σ H3 ⟨y2, y3, rfl, g3⟩
      exact q _
end
end K00
set_option Elab.async false
set_option linter.all false
set_option maxRecDepth 100000
set_option maxHeartbeats 4000000
namespace K00
open PySem PySem.Spec PyProof.Rows L2
section
variable {K : PySem.W.Frag} {C fI : Addr} {nm q : Str} {N : Addr} {bs : List Value} {sn : List Str} {sub : List Value} {ab : Bool} {col : Option Bool} {dd : Option Addr} {k0 k1 k2 k3 k5 : Option Value} {newId : String} {bm : List Value}
theorem cls_of (xL : K.lookup C = some (excClassObj nm q C N bs bm true sn sub ab col dd k0 k1 k2 k3 k5 newId)) : ∃ cd : ClassData, PySem.W.clsIn K C = some cd ∧ cd.mro = .ref C :: bm ∧ cd.hasDict = true := by
  refine ⟨{ mro := .ref C :: bm, name := nm, qualname := q, bases := bs, ns := N, hasDict := true, subclasses := sub, slotNames := sn, collection := col, abstract := ab, hasDel := false }, ?_, rfl, rfl⟩
  unfold PySem.W.clsIn
  rw [xL] <;> rfl
theorem kit_ty1 {T : String} (xL : K.lookup C = some (excClassObj nm q C N bs bm true sn sub ab col dd k0 k1 k2 k3 k5 newId)) (hm : PySem.W.kitMeta T = true) {r : Bool} (hr : bm.contains (.type T) = r) : PySem.W.kitOne K (.ref C) (.type T) = some r := by
  obtain ⟨cd, e1, e2, e3⟩ := cls_of xL
  have hne : (Value.ref C == Value.type T) = false := rfl
  unfold PySem.W.kitOne PySem.W.kitCls PySem.W.subIn PySem.W.mroIn
  rw [hne, if_neg Bool.false_ne_true]
  show (if PySem.W.kitMeta T = true then _ else _) = _
  rw [if_pos hm]
  show (PySem.W.clsIn K C).bind _ = _
  have hne2 : (Value.type T == Value.ref C) = false := rfl
  rw [e1, Option.bind_some, e2, if_neg (by simp), List.contains_cons, hne2, Bool.false_or, hr]
theorem kit_own {D : Addr} (xL : K.lookup C = some (excClassObj nm q C N bs bm true sn sub ab col dd k0 k1 k2 k3 k5 newId)) (hD : (PySem.W.clsIn K D).isSome = true) (tD : PySem.W.typeIn K (.ref D) = some (.type "type")) (hb : bm.contains (.ref D) = false)
    {r : Bool} (hr : (C == D) = r) : PySem.W.kitOne K (.ref C) (.ref D) = some r := by
  obtain ⟨cd, e1, e2, e3⟩ := cls_of xL
  have hne : (Value.ref C == Value.ref D) = (C == D) := by
    by_cases h : C = D
    · subst h
      rw [beq_self_eq_true, beq_self_eq_true]
    · rw [beq_eq_false_iff_ne.mpr h]
      exact beq_eq_false_iff_ne.mpr fun e => h (Value.ref.inj e)
  unfold PySem.W.kitOne PySem.W.kitCls PySem.W.subIn PySem.W.mroIn
  rw [hne, hr]
  cases r with
  | true => rw [if_pos rfl]
  | false =>
    rw [if_neg Bool.false_ne_true]
    show (if ((PySem.W.clsIn K D).isSome && PySem.W.typeIn K (.ref D) == some (.type "type")) = true then _ else _) = _
    rw [if_pos (by rw [hD, tD]; rfl)]
    show (PySem.W.clsIn K C).bind _ = _
    rw [e1, Option.bind_some, e2, if_neg (by simp), List.contains_cons, hb, Bool.or_false]
    have : (Value.ref D == Value.ref C) = false := by
      have z : C ≠ D := beq_eq_false_iff_ne.mp hr
      exact beq_eq_false_iff_ne.mpr fun e => z (Value.ref.inj e).symm
    rw [this]
theorem cls_is (xL : K.lookup C = some (excClassObj nm q C N bs bm true sn sub ab col dd k0 k1 k2 k3 k5 newId)) : (PySem.W.clsIn K C).isSome = true ∧ PySem.W.typeIn K (.ref C) = some (.type "type") := by
  obtain ⟨cd, e1, _, _⟩ := cls_of xL
  refine ⟨by rw [e1]; rfl, ?_⟩
  show (K.lookup C).map (·.cls) = _
  rw [xL]
  rfl
/-- all that is asked of a class, from what stands at its address -/
theorem exk_of (xL : K.lookup C = some (excClassObj nm q C N bs bm true sn sub ab col dd k0 k1 k2 k3 k5 newId)) (hbm : PySem.W.excTail bm bm = true) (hB : bm.contains (.type "BaseException") = true) (hO : bm.contains (.type "object") = true)
    (sa : PySem.W.findIn K (.ref C) "__setattr__" = some (some (.builtin "object.__setattr__"))) (own : PySem.W.findIn K (.ref C) "__init__" = some (some (.ref fI))) (ft : PySem.W.typeIn K (.ref fI) = some (.type "function")) (kep : PySem.W.keepIn K (.ref C) = true)
    (ga : PySem.W.findIn K (.ref C) "__getattribute__" = some (some (.builtin "BaseException.__getattribute__"))) (gg : PySem.W.findIn K (.ref C) "__getattr__" = some none) (ca : PySem.W.findIn K (.ref C) "__class__" = some (some (.builtin "object.__class__")))
    (hn : PySem.W.specialIn K (.builtin "object.__class__") "__get__" = some (some (.builtin "getset_descriptor.__get__"))) (ht : PySem.W.takesIn K (.builtin "object.__class__") = some true) : ExK K C fI bm newId := by
  obtain ⟨cd, e1, e2, e3⟩ := cls_of xL
  have mro : ∀ {T : String}, bm.contains (.type T) = true → PySem.W.mroIn K C (.type T) = some true := fun {T} h => by
    unfold PySem.W.mroIn
    rw [e1, Option.bind_some, e2, if_neg (by simp), List.contains_cons, h, Bool.or_true]
  refine ⟨?_, ?_, sa, own, ft, kep, ⟨ga, gg, mro hB, ?_, ca, hn, ht, mro hO⟩⟩
  · unfold PySem.W.excInitIn
    rw [xL]
    simp [excClassObj, hbm]
  · unfold PySem.W.excOver
    rw [e1, Option.any_some, e2]
    simp [hbm]
  · unfold PySem.W.hasDictIn
    rw [e1, Option.any_some, e3]
end
end K00
set_option Elab.async false
set_option linter.all false
set_option maxRecDepth 100000
set_option maxHeartbeats 4000000
namespace K00
open PySem PySem.Spec PyProof.Rows L2
theorem all_mk {l : PySem.W.OpenLaw} {w : World} {K : PySem.W.Frag} {h : Heap} {mg : Str → Option Value} {fa : Addr} (X : K.In h) (G : h.Ns mainGlobals mg) (hfa : mg "law" = some (.ref fa))
    {f0 : Addr} {oc0 kV0 dc0 pm0 cd0 ct0 : Value} {od0 an0 : Option Addr} {sl0 : Array (Option Value)}
    {f1 : Addr} {oc1 kV1 dc1 pm1 cd1 ct1 : Value} {od1 an1 : Option Addr} {sl1 : Array (Option Value)}
    {f2 : Addr} {oc2 kV2 dc2 pm2 cd2 ct2 : Value} {od2 an2 : Option Addr} {sl2 : Array (Option Value)}
    {f3 : Addr} {oc3 kV3 dc3 pm3 cd3 ct3 : Value} {od3 an3 : Option Addr} {sl3 : Array (Option Value)}
    {f4 : Addr} {oc4 kV4 dc4 pm4 cd4 ct4 : Value} {od4 an4 : Option Addr} {sl4 : Array (Option Value)}
    {f5 : Addr} {oc5 kV5 dc5 pm5 cd5 ct5 : Value} {od5 an5 : Option Addr} {sl5 : Array (Option Value)}
    {f6 : Addr} {oc6 kV6 dc6 pm6 cd6 ct6 : Value} {od6 an6 : Option Addr} {sl6 : Array (Option Value)}
    {f7 : Addr} {oc7 kV7 dc7 pm7 cd7 ct7 : Value} {od7 an7 : Option Addr} {sl7 : Array (Option Value)}
    {f8 : Addr} {oc8 kV8 dc8 pm8 cd8 ct8 : Value} {od8 an8 : Option Addr} {sl8 : Array (Option Value)}
    {f9 : Addr} {oc9 kV9 dc9 pm9 cd9 ct9 : Value} {od9 an9 : Option Addr} {sl9 : Array (Option Value)}
    {f10 : Addr} {oc10 kV10 dc10 pm10 cd10 ct10 : Value} {od10 an10 : Option Addr} {sl10 : Array (Option Value)}
    {f11 : Addr} {oc11 kV11 dc11 pm11 cd11 ct11 : Value} {od11 an11 : Option Addr} {sl11 : Array (Option Value)}
    {C0 I0 N0 : Addr} {nm0 q0 : Str} {bs0 : List Value} {sn0 : List Str} {sub0 : List Value} {ab0 : Bool} {col0 : Option Bool} {dd0 : Option Addr} {ka0 kb0 kc0 kd0 ke0 : Option Value} {ioc0 ikV0 idc0 ipm0 icd0 ict0 : Value} {iod0 ian0 : Option Addr} {isl0 : Array (Option Value)}
    {C1 I1 N1 : Addr} {nm1 q1 : Str} {bs1 : List Value} {sn1 : List Str} {sub1 : List Value} {ab1 : Bool} {col1 : Option Bool} {dd1 : Option Addr} {ka1 kb1 kc1 kd1 ke1 : Option Value} {ioc1 ikV1 idc1 ipm1 icd1 ict1 : Value} {iod1 ian1 : Option Addr} {isl1 : Array (Option Value)}
    {C2 I2 N2 : Addr} {nm2 q2 : Str} {bs2 : List Value} {sn2 : List Str} {sub2 : List Value} {ab2 : Bool} {col2 : Option Bool} {dd2 : Option Addr} {ka2 kb2 kc2 kd2 ke2 : Option Value} {ioc2 ikV2 idc2 ipm2 icd2 ict2 : Value} {iod2 ian2 : Option Addr} {isl2 : Array (Option Value)}
    {C3 I3 N3 : Addr} {nm3 q3 : Str} {bs3 : List Value} {sn3 : List Str} {sub3 : List Value} {ab3 : Bool} {col3 : Option Bool} {dd3 : Option Addr} {ka3 kb3 kc3 kd3 ke3 : Option Value} {ioc3 ikV3 idc3 ipm3 icd3 ict3 : Value} {iod3 ian3 : Option Addr} {isl3 : Array (Option Value)}
    {C4 I4 N4 : Addr} {nm4 q4 : Str} {bs4 : List Value} {sn4 : List Str} {sub4 : List Value} {ab4 : Bool} {col4 : Option Bool} {dd4 : Option Addr} {ka4 kb4 kc4 kd4 ke4 : Option Value} {ioc4 ikV4 idc4 ipm4 icd4 ict4 : Value} {iod4 ian4 : Option Addr} {isl4 : Array (Option Value)}
    {C5 I5 N5 : Addr} {nm5 q5 : Str} {bs5 : List Value} {sn5 : List Str} {sub5 : List Value} {ab5 : Bool} {col5 : Option Bool} {dd5 : Option Addr} {ka5 kb5 kc5 kd5 ke5 : Option Value} {ioc5 ikV5 idc5 ipm5 icd5 ict5 : Value} {iod5 ian5 : Option Addr} {isl5 : Array (Option Value)}
    {C6 I6 N6 : Addr} {nm6 q6 : Str} {bs6 : List Value} {sn6 : List Str} {sub6 : List Value} {ab6 : Bool} {col6 : Option Bool} {dd6 : Option Addr} {ka6 kb6 kc6 kd6 ke6 : Option Value} {ioc6 ikV6 idc6 ipm6 icd6 ict6 : Value} {iod6 ian6 : Option Addr} {isl6 : Array (Option Value)}
    {C7 I7 N7 : Addr} {nm7 q7 : Str} {bs7 : List Value} {sn7 : List Str} {sub7 : List Value} {ab7 : Bool} {col7 : Option Bool} {dd7 : Option Addr} {ka7 kb7 kc7 kd7 ke7 : Option Value} {ioc7 ikV7 idc7 ipm7 icd7 ict7 : Value} {iod7 ian7 : Option Addr} {isl7 : Array (Option Value)}
    {C8 I8 N8 : Addr} {nm8 q8 : Str} {bs8 : List Value} {sn8 : List Str} {sub8 : List Value} {ab8 : Bool} {col8 : Option Bool} {dd8 : Option Addr} {ka8 kb8 kc8 kd8 ke8 : Option Value} {ioc8 ikV8 idc8 ipm8 icd8 ict8 : Value} {iod8 ian8 : Option Addr} {isl8 : Array (Option Value)}
    {tkMOST : Tok}
    {tkROOM : Tok}
    {tkLETTERS : Tok}
    {tkCELLS : Tok}
    (a0 : PySem.W.nsIn K mainGlobals "copied" = some (some (.ref f0)))
    (l0 : K.lookup f0 = some ⟨oc0, od0, .func (PySem.W.fnOf "copied" "copied" (defArgs (topS 1)) (defBody (topS 1)) (defScope (topS 1)) .none kV0 dc0 pm0 an0 cd0 ct0), sl0⟩)
    (c0 : PySem.W.codeIn K cd0 "copied" = true)
    (k0 : PySem.W.keepIn K (.ref f0) = true)
    (a1 : PySem.W.nsIn K mainGlobals "_law_stream" = some (some (.ref f1)))
    (l1 : K.lookup f1 = some ⟨oc1, od1, .func (PySem.W.fnOf "_law_stream" "_law_stream" (defArgs (topS 16)) (defBody (topS 16)) (defScope (topS 16)) .none kV1 dc1 pm1 an1 cd1 ct1), sl1⟩)
    (c1 : PySem.W.codeIn K cd1 "_law_stream" = true)
    (k1 : PySem.W.keepIn K (.ref f1) = true)
    (a2 : PySem.W.nsIn K mainGlobals "_law_draw" = some (some (.ref f2)))
    (l2 : K.lookup f2 = some ⟨oc2, od2, .func (PySem.W.fnOf "_law_draw" "_law_draw" (defArgs (topS 17)) (defBody (topS 17)) (defScope (topS 17)) .none kV2 dc2 pm2 an2 cd2 ct2), sl2⟩)
    (c2 : PySem.W.codeIn K cd2 "_law_draw" = true)
    (k2 : PySem.W.keepIn K (.ref f2) = true)
    (a3 : PySem.W.nsIn K mainGlobals "_law_folded" = some (some (.ref f3)))
    (l3 : K.lookup f3 = some ⟨oc3, od3, .func (PySem.W.fnOf "_law_folded" "_law_folded" (defArgs (topS 18)) (defBody (topS 18)) (defScope (topS 18)) .none kV3 dc3 pm3 an3 cd3 ct3), sl3⟩)
    (c3 : PySem.W.codeIn K cd3 "_law_folded" = true)
    (k3 : PySem.W.keepIn K (.ref f3) = true)
    (a4 : PySem.W.nsIn K mainGlobals "_law_pick" = some (some (.ref f4)))
    (l4 : K.lookup f4 = some ⟨oc4, od4, .func (PySem.W.fnOf "_law_pick" "_law_pick" (defArgs (topS 19)) (defBody (topS 19)) (defScope (topS 19)) .none kV4 dc4 pm4 an4 cd4 ct4), sl4⟩)
    (c4 : PySem.W.codeIn K cd4 "_law_pick" = true)
    (k4 : PySem.W.keepIn K (.ref f4) = true)
    (a5 : PySem.W.nsIn K mainGlobals "_law_same" = some (some (.ref f5)))
    (l5 : K.lookup f5 = some ⟨oc5, od5, .func (PySem.W.fnOf "_law_same" "_law_same" (defArgs (topS 20)) (defBody (topS 20)) (defScope (topS 20)) .none kV5 dc5 pm5 an5 cd5 ct5), sl5⟩)
    (c5 : PySem.W.codeIn K cd5 "_law_same" = true)
    (k5 : PySem.W.keepIn K (.ref f5) = true)
    (a6 : PySem.W.nsIn K mainGlobals "_law_values" = some (some (.ref f6)))
    (l6 : K.lookup f6 = some ⟨oc6, od6, .func (PySem.W.fnOf "_law_values" "_law_values" (defArgs (topS 21)) (defBody (topS 21)) (defScope (topS 21)) .none kV6 dc6 pm6 an6 cd6 ct6), sl6⟩)
    (c6 : PySem.W.codeIn K cd6 "_law_values" = true)
    (k6 : PySem.W.keepIn K (.ref f6) = true)
    (a7 : PySem.W.nsIn K mainGlobals "_law_kept" = some (some (.ref f7)))
    (l7 : K.lookup f7 = some ⟨oc7, od7, .func (PySem.W.fnOf "_law_kept" "_law_kept" (defArgs (topS 22)) (defBody (topS 22)) (defScope (topS 22)) .none kV7 dc7 pm7 an7 cd7 ct7), sl7⟩)
    (c7 : PySem.W.codeIn K cd7 "_law_kept" = true)
    (k7 : PySem.W.keepIn K (.ref f7) = true)
    (a8 : PySem.W.nsIn K mainGlobals "_law_sorts" = some (some (.ref f8)))
    (l8 : K.lookup f8 = some ⟨oc8, od8, .func (PySem.W.fnOf "_law_sorts" "_law_sorts" (defArgs (topS 23)) (defBody (topS 23)) (defScope (topS 23)) .none kV8 dc8 pm8 an8 cd8 ct8), sl8⟩)
    (c8 : PySem.W.codeIn K cd8 "_law_sorts" = true)
    (k8 : PySem.W.keepIn K (.ref f8) = true)
    (a9 : PySem.W.nsIn K mainGlobals "_law_due_sorts" = some (some (.ref f9)))
    (l9 : K.lookup f9 = some ⟨oc9, od9, .func (PySem.W.fnOf "_law_due_sorts" "_law_due_sorts" (defArgs (topS 24)) (defBody (topS 24)) (defScope (topS 24)) .none kV9 dc9 pm9 an9 cd9 ct9), sl9⟩)
    (c9 : PySem.W.codeIn K cd9 "_law_due_sorts" = true)
    (k9 : PySem.W.keepIn K (.ref f9) = true)
    (a10 : PySem.W.nsIn K mainGlobals "_law_right" = some (some (.ref f10)))
    (l10 : K.lookup f10 = some ⟨oc10, od10, .func (PySem.W.fnOf "_law_right" "_law_right" (defArgs (topS 25)) (defBody (topS 25)) (defScope (topS 25)) .none kV10 dc10 pm10 an10 cd10 ct10), sl10⟩)
    (c10 : PySem.W.codeIn K cd10 "_law_right" = true)
    (k10 : PySem.W.keepIn K (.ref f10) = true)
    (a11 : PySem.W.nsIn K mainGlobals "law" = some (some (.ref f11)))
    (l11 : K.lookup f11 = some ⟨oc11, od11, .func (PySem.W.fnOf "law" "law" (defArgs (topS 26)) (defBody (topS 26)) (defScope (topS 26)) .none kV11 dc11 pm11 an11 cd11 ct11), sl11⟩)
    (c11 : PySem.W.codeIn K cd11 "law" = true)
    (k11 : PySem.W.keepIn K (.ref f11) = true)
    (gC0 : PySem.W.nsIn K mainGlobals "BadLine" = some (some (.ref C0)))
    (xL0 : K.lookup C0 = some (excClassObj nm0 q0 C0 N0 bs0 mroV true sn0 sub0 ab0 col0 dd0 ka0 kb0 kc0 kd0 ke0 "ValueError.__new__"))
    (sa0 : PySem.W.findIn K (.ref C0) "__setattr__" = some (some (.builtin "object.__setattr__")))
    (ow0 : PySem.W.findIn K (.ref C0) "__init__" = some (some (.ref I0)))
    (ft0 : PySem.W.typeIn K (.ref I0) = some (.type "function"))
    (lI0 : K.lookup I0 = some ⟨ioc0, iod0, .func (PySem.W.fnOf "__init__" "BadLine.__init__" (defArgs (inClass (topS 3) 0)) (defBody (inClass (topS 3) 0)) (defScope (inClass (topS 3) 0)) .none ikV0 idc0 ipm0 ian0 icd0 ict0), isl0⟩)
    (cI0 : PySem.W.codeIn K icd0 "BadLine.__init__" = true)
    (kI0 : PySem.W.keepIn K (.ref I0) = true)
    (kC0 : PySem.W.keepIn K (.ref C0) = true)
    (ga0 : PySem.W.findIn K (.ref C0) "__getattribute__" = some (some (.builtin "BaseException.__getattribute__")))
    (gg0 : PySem.W.findIn K (.ref C0) "__getattr__" = some none)
    (ca0 : PySem.W.findIn K (.ref C0) "__class__" = some (some (.builtin "object.__class__")))
    (no0 : PySem.W.findIn K (.ref C0) "number" = some none)
    (gC1 : PySem.W.nsIn K mainGlobals "NoProcess" = some (some (.ref C1)))
    (xL1 : K.lookup C1 = some (excClassObj nm1 q1 C1 N1 bs1 mroL true sn1 sub1 ab1 col1 dd1 ka1 kb1 kc1 kd1 ke1 "LookupError.__new__"))
    (sa1 : PySem.W.findIn K (.ref C1) "__setattr__" = some (some (.builtin "object.__setattr__")))
    (ow1 : PySem.W.findIn K (.ref C1) "__init__" = some (some (.ref I1)))
    (ft1 : PySem.W.typeIn K (.ref I1) = some (.type "function"))
    (lI1 : K.lookup I1 = some ⟨ioc1, iod1, .func (PySem.W.fnOf "__init__" "NoProcess.__init__" (defArgs (inClass (topS 6) 0)) (defBody (inClass (topS 6) 0)) (defScope (inClass (topS 6) 0)) .none ikV1 idc1 ipm1 ian1 icd1 ict1), isl1⟩)
    (cI1 : PySem.W.codeIn K icd1 "NoProcess.__init__" = true)
    (kI1 : PySem.W.keepIn K (.ref I1) = true)
    (kC1 : PySem.W.keepIn K (.ref C1) = true)
    (ga1 : PySem.W.findIn K (.ref C1) "__getattribute__" = some (some (.builtin "BaseException.__getattribute__")))
    (gg1 : PySem.W.findIn K (.ref C1) "__getattr__" = some none)
    (ca1 : PySem.W.findIn K (.ref C1) "__class__" = some (some (.builtin "object.__class__")))
    (no1 : PySem.W.findIn K (.ref C1) "number" = some none)
    (gC2 : PySem.W.nsIn K mainGlobals "BadStep" = some (some (.ref C2)))
    (xL2 : K.lookup C2 = some (excClassObj nm2 q2 C2 N2 bs2 mroL true sn2 sub2 ab2 col2 dd2 ka2 kb2 kc2 kd2 ke2 "LookupError.__new__"))
    (sa2 : PySem.W.findIn K (.ref C2) "__setattr__" = some (some (.builtin "object.__setattr__")))
    (ow2 : PySem.W.findIn K (.ref C2) "__init__" = some (some (.ref I2)))
    (ft2 : PySem.W.typeIn K (.ref I2) = some (.type "function"))
    (lI2 : K.lookup I2 = some ⟨ioc2, iod2, .func (PySem.W.fnOf "__init__" "BadStep.__init__" (defArgs (inClass (topS 7) 0)) (defBody (inClass (topS 7) 0)) (defScope (inClass (topS 7) 0)) .none ikV2 idc2 ipm2 ian2 icd2 ict2), isl2⟩)
    (cI2 : PySem.W.codeIn K icd2 "BadStep.__init__" = true)
    (kI2 : PySem.W.keepIn K (.ref I2) = true)
    (kC2 : PySem.W.keepIn K (.ref C2) = true)
    (ga2 : PySem.W.findIn K (.ref C2) "__getattribute__" = some (some (.builtin "BaseException.__getattribute__")))
    (gg2 : PySem.W.findIn K (.ref C2) "__getattr__" = some none)
    (ca2 : PySem.W.findIn K (.ref C2) "__class__" = some (some (.builtin "object.__class__")))
    (no2 : PySem.W.findIn K (.ref C2) "index" = some none)
    (gC3 : PySem.W.nsIn K mainGlobals "NotRunning" = some (some (.ref C3)))
    (xL3 : K.lookup C3 = some (excClassObj nm3 q3 C3 N3 bs3 mroR true sn3 sub3 ab3 col3 dd3 ka3 kb3 kc3 kd3 ke3 "RuntimeError.__new__"))
    (sa3 : PySem.W.findIn K (.ref C3) "__setattr__" = some (some (.builtin "object.__setattr__")))
    (ow3 : PySem.W.findIn K (.ref C3) "__init__" = some (some (.ref I3)))
    (ft3 : PySem.W.typeIn K (.ref I3) = some (.type "function"))
    (lI3 : K.lookup I3 = some ⟨ioc3, iod3, .func (PySem.W.fnOf "__init__" "NotRunning.__init__" (defArgs (inClass (topS 8) 0)) (defBody (inClass (topS 8) 0)) (defScope (inClass (topS 8) 0)) .none ikV3 idc3 ipm3 ian3 icd3 ict3), isl3⟩)
    (cI3 : PySem.W.codeIn K icd3 "NotRunning.__init__" = true)
    (kI3 : PySem.W.keepIn K (.ref I3) = true)
    (kC3 : PySem.W.keepIn K (.ref C3) = true)
    (ga3 : PySem.W.findIn K (.ref C3) "__getattribute__" = some (some (.builtin "BaseException.__getattribute__")))
    (gg3 : PySem.W.findIn K (.ref C3) "__getattr__" = some none)
    (ca3 : PySem.W.findIn K (.ref C3) "__class__" = some (some (.builtin "object.__class__")))
    (no3 : PySem.W.findIn K (.ref C3) "number" = some none)
    (gC4 : PySem.W.nsIn K mainGlobals "Outside" = some (some (.ref C4)))
    (xL4 : K.lookup C4 = some (excClassObj nm4 q4 C4 N4 bs4 mroV true sn4 sub4 ab4 col4 dd4 ka4 kb4 kc4 kd4 ke4 "ValueError.__new__"))
    (sa4 : PySem.W.findIn K (.ref C4) "__setattr__" = some (some (.builtin "object.__setattr__")))
    (ow4 : PySem.W.findIn K (.ref C4) "__init__" = some (some (.ref I4)))
    (ft4 : PySem.W.typeIn K (.ref I4) = some (.type "function"))
    (lI4 : K.lookup I4 = some ⟨ioc4, iod4, .func (PySem.W.fnOf "__init__" "Outside.__init__" (defArgs (inClass (topS 5) 0)) (defBody (inClass (topS 5) 0)) (defScope (inClass (topS 5) 0)) .none ikV4 idc4 ipm4 ian4 icd4 ict4), isl4⟩)
    (cI4 : PySem.W.codeIn K icd4 "Outside.__init__" = true)
    (kI4 : PySem.W.keepIn K (.ref I4) = true)
    (kC4 : PySem.W.keepIn K (.ref C4) = true)
    (ga4 : PySem.W.findIn K (.ref C4) "__getattribute__" = some (some (.builtin "BaseException.__getattribute__")))
    (gg4 : PySem.W.findIn K (.ref C4) "__getattr__" = some none)
    (ca4 : PySem.W.findIn K (.ref C4) "__class__" = some (some (.builtin "object.__class__")))
    (no4 : PySem.W.findIn K (.ref C4) "what" = some none)
    (gC5 : PySem.W.nsIn K mainGlobals "Barred" = some (some (.ref C5)))
    (xL5 : K.lookup C5 = some (excClassObj nm5 q5 C5 N5 bs5 mroR true sn5 sub5 ab5 col5 dd5 ka5 kb5 kc5 kd5 ke5 "RuntimeError.__new__"))
    (sa5 : PySem.W.findIn K (.ref C5) "__setattr__" = some (some (.builtin "object.__setattr__")))
    (ow5 : PySem.W.findIn K (.ref C5) "__init__" = some (some (.ref I5)))
    (ft5 : PySem.W.typeIn K (.ref I5) = some (.type "function"))
    (lI5 : K.lookup I5 = some ⟨ioc5, iod5, .func (PySem.W.fnOf "__init__" "Barred.__init__" (defArgs (inClass (topS 9) 0)) (defBody (inClass (topS 9) 0)) (defScope (inClass (topS 9) 0)) .none ikV5 idc5 ipm5 ian5 icd5 ict5), isl5⟩)
    (cI5 : PySem.W.codeIn K icd5 "Barred.__init__" = true)
    (kI5 : PySem.W.keepIn K (.ref I5) = true)
    (kC5 : PySem.W.keepIn K (.ref C5) = true)
    (ga5 : PySem.W.findIn K (.ref C5) "__getattribute__" = some (some (.builtin "BaseException.__getattribute__")))
    (gg5 : PySem.W.findIn K (.ref C5) "__getattr__" = some none)
    (ca5 : PySem.W.findIn K (.ref C5) "__class__" = some (some (.builtin "object.__class__")))
    (no5 : PySem.W.findIn K (.ref C5) "reason" = some none)
    (gC6 : PySem.W.nsIn K mainGlobals "NotNow" = some (some (.ref C6)))
    (xL6 : K.lookup C6 = some (excClassObj nm6 q6 C6 N6 bs6 mroR true sn6 sub6 ab6 col6 dd6 ka6 kb6 kc6 kd6 ke6 "RuntimeError.__new__"))
    (sa6 : PySem.W.findIn K (.ref C6) "__setattr__" = some (some (.builtin "object.__setattr__")))
    (ow6 : PySem.W.findIn K (.ref C6) "__init__" = some (some (.ref I6)))
    (ft6 : PySem.W.typeIn K (.ref I6) = some (.type "function"))
    (lI6 : K.lookup I6 = some ⟨ioc6, iod6, .func (PySem.W.fnOf "__init__" "NotNow.__init__" (defArgs (inClass (topS 10) 0)) (defBody (inClass (topS 10) 0)) (defScope (inClass (topS 10) 0)) .none ikV6 idc6 ipm6 ian6 icd6 ict6), isl6⟩)
    (cI6 : PySem.W.codeIn K icd6 "NotNow.__init__" = true)
    (kI6 : PySem.W.keepIn K (.ref I6) = true)
    (kC6 : PySem.W.keepIn K (.ref C6) = true)
    (ga6 : PySem.W.findIn K (.ref C6) "__getattribute__" = some (some (.builtin "BaseException.__getattribute__")))
    (gg6 : PySem.W.findIn K (.ref C6) "__getattr__" = some none)
    (ca6 : PySem.W.findIn K (.ref C6) "__class__" = some (some (.builtin "object.__class__")))
    (no6 : PySem.W.findIn K (.ref C6) "word" = some none)
    (gC7 : PySem.W.nsIn K mainGlobals "BadText" = some (some (.ref C7)))
    (xL7 : K.lookup C7 = some (excClassObj nm7 q7 C7 N7 bs7 mroV true sn7 sub7 ab7 col7 dd7 ka7 kb7 kc7 kd7 ke7 "ValueError.__new__"))
    (sa7 : PySem.W.findIn K (.ref C7) "__setattr__" = some (some (.builtin "object.__setattr__")))
    (ow7 : PySem.W.findIn K (.ref C7) "__init__" = some (some (.ref I7)))
    (ft7 : PySem.W.typeIn K (.ref I7) = some (.type "function"))
    (lI7 : K.lookup I7 = some ⟨ioc7, iod7, .func (PySem.W.fnOf "__init__" "BadText.__init__" (defArgs (inClass (topS 2) 0)) (defBody (inClass (topS 2) 0)) (defScope (inClass (topS 2) 0)) .none ikV7 idc7 ipm7 ian7 icd7 ict7), isl7⟩)
    (cI7 : PySem.W.codeIn K icd7 "BadText.__init__" = true)
    (kI7 : PySem.W.keepIn K (.ref I7) = true)
    (kC7 : PySem.W.keepIn K (.ref C7) = true)
    (ga7 : PySem.W.findIn K (.ref C7) "__getattribute__" = some (some (.builtin "BaseException.__getattribute__")))
    (gg7 : PySem.W.findIn K (.ref C7) "__getattr__" = some none)
    (ca7 : PySem.W.findIn K (.ref C7) "__class__" = some (some (.builtin "object.__class__")))
    (gC8 : PySem.W.nsIn K mainGlobals "NoOrder" = some (some (.ref C8)))
    (xL8 : K.lookup C8 = some (excClassObj nm8 q8 C8 N8 bs8 mroV true sn8 sub8 ab8 col8 dd8 ka8 kb8 kc8 kd8 ke8 "ValueError.__new__"))
    (sa8 : PySem.W.findIn K (.ref C8) "__setattr__" = some (some (.builtin "object.__setattr__")))
    (ow8 : PySem.W.findIn K (.ref C8) "__init__" = some (some (.ref I8)))
    (ft8 : PySem.W.typeIn K (.ref I8) = some (.type "function"))
    (lI8 : K.lookup I8 = some ⟨ioc8, iod8, .func (PySem.W.fnOf "__init__" "NoOrder.__init__" (defArgs (inClass (topS 4) 0)) (defBody (inClass (topS 4) 0)) (defScope (inClass (topS 4) 0)) .none ikV8 idc8 ipm8 ian8 icd8 ict8), isl8⟩)
    (cI8 : PySem.W.codeIn K icd8 "NoOrder.__init__" = true)
    (kI8 : PySem.W.keepIn K (.ref I8) = true)
    (kC8 : PySem.W.keepIn K (.ref C8) = true)
    (ga8 : PySem.W.findIn K (.ref C8) "__getattribute__" = some (some (.builtin "BaseException.__getattribute__")))
    (gg8 : PySem.W.findIn K (.ref C8) "__getattr__" = some none)
    (ca8 : PySem.W.findIn K (.ref C8) "__class__" = some (some (.builtin "object.__class__")))
    (z0 : PySem.W.nsIn K mainGlobals "isinstance" = some none)
    (z1 : PySem.W.nsIn K mainGlobals "list" = some none)
    (z2 : PySem.W.nsIn K mainGlobals "tuple" = some none)
    (z3 : PySem.W.nsIn K mainGlobals "len" = some none)
    (z4 : PySem.W.nsIn K mainGlobals "abs" = some none)
    (z5 : PySem.W.nsIn K mainGlobals "int" = some none)
    (z6 : PySem.W.nsIn K mainGlobals "enumerate" = some none)
    (z7 : PySem.W.nsIn K mainGlobals "all" = some none)
    (z8 : PySem.W.nsIn K mainGlobals "any" = some none)
    (z9 : PySem.W.nsIn K mainGlobals "zip" = some none)
    (z10 : PySem.W.nsIn K mainGlobals "bool" = some none)
    (z11 : PySem.W.nsIn K mainGlobals "str" = some none)
    (z12 : PySem.W.nsIn K mainGlobals "range" = some none)
    (z13 : PySem.W.nsIn K mainGlobals "KeyError" = some none)
    (z14 : PySem.W.nsIn K mainGlobals "IndexError" = some none)
    (z15 : PySem.W.nsIn K mainGlobals "ValueError" = some none)
    (z16 : PySem.W.nsIn K mainGlobals "LookupError" = some none)
    (z17 : PySem.W.nsIn K mainGlobals "RuntimeError" = some none)
    (wMOST : PySem.W.nsIn K mainGlobals "MOST" = some (some (.int 199 tkMOST)))
    (wROOM : PySem.W.nsIn K mainGlobals "ROOM" = some (some (.int 8 tkROOM)))
    (wLETTERS : PySem.W.nsIn K mainGlobals "LETTERS" = some (some (.int 4 tkLETTERS)))
    (wCELLS : PySem.W.nsIn K mainGlobals "CELLS" = some (some (.int 4 tkCELLS)))
    (hgn : PySem.W.specialIn K (.builtin "object.__class__") "__get__" = some (some (.builtin "getset_descriptor.__get__")))
    (htk : PySem.W.takesIn K (.builtin "object.__class__") = some true)
    (fcV : PySem.W.findCls K (.type "ValueError") (.type "type") "__init__" = some (.val (.builtin "ValueError.__init__")))
    (fcL : PySem.W.findCls K (.type "LookupError") (.type "type") "__init__" = some (.val (.builtin "LookupError.__init__")))
    (fcR : PySem.W.findCls K (.type "RuntimeError") (.type "type") "__init__" = some (.val (.builtin "RuntimeError.__init__")))
    (hN : [C0, C1, C2, C3, C4, C5, C6, C7, C8].Nodup) :
    ∃ fd : FuncData, (∀ (s : Shared) (v : Value), BindsTo s fd ⟨[v], []⟩ [("_law_script", v)]) ∧ ∀ base : Heap, K.In base → base.Ns mainGlobals mg → FnOk l.prog w K mg base CX0 8 fa fd ["_law_script"] (spLaw K) := by
  have e := hfa.symm.trans (PySem.W.mg_of X G a11)
  cases e
  have F0 := fun_mk (st := topS 1) l0 c0 k0
  have b0 := F0.binds (ps := ["value"]) fun _ _ _ _ _ _ us hl => match us, hl with | [_], _ => rfl
  have F1 := fun_mk (st := topS 16) l1 c1 k1
  have b1 := F1.binds (ps := ["_law_script", "_law_k"]) fun _ _ _ _ _ _ us hl => match us, hl with | [_, _], _ => rfl
  have F2 := fun_mk (st := topS 17) l2 c2 k2
  have b2 := F2.binds (ps := ["_law_source", "_law_bound"]) fun _ _ _ _ _ _ us hl => match us, hl with | [_, _], _ => rfl
  have F3 := fun_mk (st := topS 18) l3 c3 k3
  have b3 := F3.binds (ps := ["_law_script", "_law_most"]) fun _ _ _ _ _ _ us hl => match us, hl with | [_, _], _ => rfl
  have F4 := fun_mk (st := topS 19) l4 c4 k4
  have b4 := F4.binds (ps := ["_law_source", "_law_some"]) fun _ _ _ _ _ _ us hl => match us, hl with | [_, _], _ => rfl
  have F5 := fun_mk (st := topS 20) l5 c5 k5
  have b5 := F5.binds (ps := ["_law_found", "_law_due"]) fun _ _ _ _ _ _ us hl => match us, hl with | [_, _], _ => rfl
  have F6 := fun_mk (st := topS 21) l6 c6 k6
  have b6 := F6.binds (ps := ["_law_source"]) fun _ _ _ _ _ _ us hl => match us, hl with | [_], _ => rfl
  have F7 := fun_mk (st := topS 22) l7 c7 k7
  have b7 := F7.binds (ps := ["_law_values_so"]) fun _ _ _ _ _ _ us hl => match us, hl with | [_], _ => rfl
  have F8 := fun_mk (st := topS 23) l8 c8 k8
  have b8 := F8.binds (ps := ["_law_error"]) fun _ _ _ _ _ _ us hl => match us, hl with | [_], _ => rfl
  have F9 := fun_mk (st := topS 24) l9 c9 k9
  have b9 := F9.binds (ps := ["_law_base", "_law_own"]) fun _ _ _ _ _ _ us hl => match us, hl with | [_, _], _ => rfl
  have F10 := fun_mk (st := topS 25) l10 c10 k10
  have b10 := F10.binds (ps := ["_law_source"]) fun _ _ _ _ _ _ us hl => match us, hl with | [_], _ => rfl
  have F11 := fun_mk (st := topS 26) l11 c11 k11
  have D0 := fun_mk (st := (inClass (topS 3) 0)) lI0 cI0 kI0
  have e0 := D0.binds (ps := ["self", "number"]) fun _ _ _ _ _ _ us hl => match us, hl with | [_, _], _ => rfl
  have T0 := exk_of xL0 (by decide +kernel) (by decide +kernel) (by decide +kernel) sa0 ow0 ft0 kC0 ga0 gg0 ca0 hgn htk
  have D1 := fun_mk (st := (inClass (topS 6) 0)) lI1 cI1 kI1
  have e1 := D1.binds (ps := ["self", "number"]) fun _ _ _ _ _ _ us hl => match us, hl with | [_, _], _ => rfl
  have T1 := exk_of xL1 (by decide +kernel) (by decide +kernel) (by decide +kernel) sa1 ow1 ft1 kC1 ga1 gg1 ca1 hgn htk
  have D2 := fun_mk (st := (inClass (topS 7) 0)) lI2 cI2 kI2
  have e2 := D2.binds (ps := ["self", "index"]) fun _ _ _ _ _ _ us hl => match us, hl with | [_, _], _ => rfl
  have T2 := exk_of xL2 (by decide +kernel) (by decide +kernel) (by decide +kernel) sa2 ow2 ft2 kC2 ga2 gg2 ca2 hgn htk
  have D3 := fun_mk (st := (inClass (topS 8) 0)) lI3 cI3 kI3
  have e3 := D3.binds (ps := ["self", "number"]) fun _ _ _ _ _ _ us hl => match us, hl with | [_, _], _ => rfl
  have T3 := exk_of xL3 (by decide +kernel) (by decide +kernel) (by decide +kernel) sa3 ow3 ft3 kC3 ga3 gg3 ca3 hgn htk
  have D4 := fun_mk (st := (inClass (topS 5) 0)) lI4 cI4 kI4
  have e4 := D4.binds (ps := ["self", "what"]) fun _ _ _ _ _ _ us hl => match us, hl with | [_, _], _ => rfl
  have T4 := exk_of xL4 (by decide +kernel) (by decide +kernel) (by decide +kernel) sa4 ow4 ft4 kC4 ga4 gg4 ca4 hgn htk
  have D5 := fun_mk (st := (inClass (topS 9) 0)) lI5 cI5 kI5
  have e5 := D5.binds (ps := ["self", "reason"]) fun _ _ _ _ _ _ us hl => match us, hl with | [_, _], _ => rfl
  have T5 := exk_of xL5 (by decide +kernel) (by decide +kernel) (by decide +kernel) sa5 ow5 ft5 kC5 ga5 gg5 ca5 hgn htk
  have D6 := fun_mk (st := (inClass (topS 10) 0)) lI6 cI6 kI6
  have e6 := D6.binds (ps := ["self", "word"]) fun _ _ _ _ _ _ us hl => match us, hl with | [_, _], _ => rfl
  have T6 := exk_of xL6 (by decide +kernel) (by decide +kernel) (by decide +kernel) sa6 ow6 ft6 kC6 ga6 gg6 ca6 hgn htk
  have D7 := fun_mk (st := (inClass (topS 2) 0)) lI7 cI7 kI7
  have e7 := D7.binds (ps := ["self"]) fun _ _ _ _ _ _ us hl => match us, hl with | [_], _ => rfl
  have T7 := exk_of xL7 (by decide +kernel) (by decide +kernel) (by decide +kernel) sa7 ow7 ft7 kC7 ga7 gg7 ca7 hgn htk
  have D8 := fun_mk (st := (inClass (topS 4) 0)) lI8 cI8 kI8
  have e8 := D8.binds (ps := ["self"]) fun _ _ _ _ _ _ us hl => match us, hl with | [_], _ => rfl
  have T8 := exk_of xL8 (by decide +kernel) (by decide +kernel) (by decide +kernel) sa8 ow8 ft8 kC8 ga8 gg8 ca8 hgn htk
  simp only [List.nodup_cons, List.mem_cons, List.not_mem_nil, not_or, or_false, not_false_eq_true, and_true, List.nodup_nil] at hN
  obtain ⟨⟨h01, h02, h03, h04, h05, h06, h07, h08⟩, ⟨h12, h13, h14, h15, h16, h17, h18⟩, ⟨h23, h24, h25, h26, h27, h28⟩, ⟨h34, h35, h36, h37, h38⟩, ⟨h45, h46, h47, h48⟩, ⟨h56, h57, h58⟩, ⟨h67, h68⟩, h78⟩ := hN
  have R0 : KitRow K [C0, C1, C2, C3, C4, C5, C6, C7, C8] C0 (dueBits 0 0) := (.cons (kit_ty1 (T := "ValueError") (r := true) xL0 (by decide +kernel) (by decide +kernel)) (.cons (kit_ty1 (T := "LookupError") (r := false) xL0 (by decide +kernel) (by decide +kernel)) (.cons (kit_ty1 (T := "RuntimeError") (r := false) xL0 (by decide +kernel) (by decide +kernel)) (.cons (kit_own (r := true) xL0 (cls_is xL0).1 (cls_is xL0).2 rfl (beq_self_eq_true _)) (.cons (kit_own (r := false) xL0 (cls_is xL1).1 (cls_is xL1).2 rfl (beq_eq_false_iff_ne.mpr h01)) (.cons (kit_own (r := false) xL0 (cls_is xL2).1 (cls_is xL2).2 rfl (beq_eq_false_iff_ne.mpr h02)) (.cons (kit_own (r := false) xL0 (cls_is xL3).1 (cls_is xL3).2 rfl (beq_eq_false_iff_ne.mpr h03)) (.cons (kit_own (r := false) xL0 (cls_is xL4).1 (cls_is xL4).2 rfl (beq_eq_false_iff_ne.mpr h04)) (.cons (kit_own (r := false) xL0 (cls_is xL5).1 (cls_is xL5).2 rfl (beq_eq_false_iff_ne.mpr h05)) (.cons (kit_own (r := false) xL0 (cls_is xL6).1 (cls_is xL6).2 rfl (beq_eq_false_iff_ne.mpr h06)) (.cons (kit_own (r := false) xL0 (cls_is xL7).1 (cls_is xL7).2 rfl (beq_eq_false_iff_ne.mpr h07)) (.cons (kit_own (r := false) xL0 (cls_is xL8).1 (cls_is xL8).2 rfl (beq_eq_false_iff_ne.mpr h08)) .nil))))))))))))
  have O0 : ClsOk K [C0, C1, C2, C3, C4, C5, C6, C7, C8] C0 (0, 0) := ⟨T0.isc, R0, kitAny_cons (kit_ty1 (T := "KeyError") (r := false) xL0 (by decide +kernel) (by decide +kernel)) (fun _ => kitAny_cons (kit_ty1 (T := "IndexError") (r := false) xL0 (by decide +kernel) (by decide +kernel)) (fun _ => kitAny_nil) (fun z => nomatch z)) (fun z => nomatch z)⟩
  have R1 : KitRow K [C0, C1, C2, C3, C4, C5, C6, C7, C8] C1 (dueBits 1 1) := (.cons (kit_ty1 (T := "ValueError") (r := false) xL1 (by decide +kernel) (by decide +kernel)) (.cons (kit_ty1 (T := "LookupError") (r := true) xL1 (by decide +kernel) (by decide +kernel)) (.cons (kit_ty1 (T := "RuntimeError") (r := false) xL1 (by decide +kernel) (by decide +kernel)) (.cons (kit_own (r := false) xL1 (cls_is xL0).1 (cls_is xL0).2 rfl (beq_eq_false_iff_ne.mpr fun z => h01 z.symm)) (.cons (kit_own (r := true) xL1 (cls_is xL1).1 (cls_is xL1).2 rfl (beq_self_eq_true _)) (.cons (kit_own (r := false) xL1 (cls_is xL2).1 (cls_is xL2).2 rfl (beq_eq_false_iff_ne.mpr h12)) (.cons (kit_own (r := false) xL1 (cls_is xL3).1 (cls_is xL3).2 rfl (beq_eq_false_iff_ne.mpr h13)) (.cons (kit_own (r := false) xL1 (cls_is xL4).1 (cls_is xL4).2 rfl (beq_eq_false_iff_ne.mpr h14)) (.cons (kit_own (r := false) xL1 (cls_is xL5).1 (cls_is xL5).2 rfl (beq_eq_false_iff_ne.mpr h15)) (.cons (kit_own (r := false) xL1 (cls_is xL6).1 (cls_is xL6).2 rfl (beq_eq_false_iff_ne.mpr h16)) (.cons (kit_own (r := false) xL1 (cls_is xL7).1 (cls_is xL7).2 rfl (beq_eq_false_iff_ne.mpr h17)) (.cons (kit_own (r := false) xL1 (cls_is xL8).1 (cls_is xL8).2 rfl (beq_eq_false_iff_ne.mpr h18)) .nil))))))))))))
  have O1 : ClsOk K [C0, C1, C2, C3, C4, C5, C6, C7, C8] C1 (1, 1) := ⟨T1.isc, R1, kitAny_cons (kit_ty1 (T := "KeyError") (r := false) xL1 (by decide +kernel) (by decide +kernel)) (fun _ => kitAny_cons (kit_ty1 (T := "IndexError") (r := false) xL1 (by decide +kernel) (by decide +kernel)) (fun _ => kitAny_nil) (fun z => nomatch z)) (fun z => nomatch z)⟩
  have R2 : KitRow K [C0, C1, C2, C3, C4, C5, C6, C7, C8] C2 (dueBits 1 2) := (.cons (kit_ty1 (T := "ValueError") (r := false) xL2 (by decide +kernel) (by decide +kernel)) (.cons (kit_ty1 (T := "LookupError") (r := true) xL2 (by decide +kernel) (by decide +kernel)) (.cons (kit_ty1 (T := "RuntimeError") (r := false) xL2 (by decide +kernel) (by decide +kernel)) (.cons (kit_own (r := false) xL2 (cls_is xL0).1 (cls_is xL0).2 rfl (beq_eq_false_iff_ne.mpr fun z => h02 z.symm)) (.cons (kit_own (r := false) xL2 (cls_is xL1).1 (cls_is xL1).2 rfl (beq_eq_false_iff_ne.mpr fun z => h12 z.symm)) (.cons (kit_own (r := true) xL2 (cls_is xL2).1 (cls_is xL2).2 rfl (beq_self_eq_true _)) (.cons (kit_own (r := false) xL2 (cls_is xL3).1 (cls_is xL3).2 rfl (beq_eq_false_iff_ne.mpr h23)) (.cons (kit_own (r := false) xL2 (cls_is xL4).1 (cls_is xL4).2 rfl (beq_eq_false_iff_ne.mpr h24)) (.cons (kit_own (r := false) xL2 (cls_is xL5).1 (cls_is xL5).2 rfl (beq_eq_false_iff_ne.mpr h25)) (.cons (kit_own (r := false) xL2 (cls_is xL6).1 (cls_is xL6).2 rfl (beq_eq_false_iff_ne.mpr h26)) (.cons (kit_own (r := false) xL2 (cls_is xL7).1 (cls_is xL7).2 rfl (beq_eq_false_iff_ne.mpr h27)) (.cons (kit_own (r := false) xL2 (cls_is xL8).1 (cls_is xL8).2 rfl (beq_eq_false_iff_ne.mpr h28)) .nil))))))))))))
  have O2 : ClsOk K [C0, C1, C2, C3, C4, C5, C6, C7, C8] C2 (1, 2) := ⟨T2.isc, R2, kitAny_cons (kit_ty1 (T := "KeyError") (r := false) xL2 (by decide +kernel) (by decide +kernel)) (fun _ => kitAny_cons (kit_ty1 (T := "IndexError") (r := false) xL2 (by decide +kernel) (by decide +kernel)) (fun _ => kitAny_nil) (fun z => nomatch z)) (fun z => nomatch z)⟩
  have R3 : KitRow K [C0, C1, C2, C3, C4, C5, C6, C7, C8] C3 (dueBits 2 3) := (.cons (kit_ty1 (T := "ValueError") (r := false) xL3 (by decide +kernel) (by decide +kernel)) (.cons (kit_ty1 (T := "LookupError") (r := false) xL3 (by decide +kernel) (by decide +kernel)) (.cons (kit_ty1 (T := "RuntimeError") (r := true) xL3 (by decide +kernel) (by decide +kernel)) (.cons (kit_own (r := false) xL3 (cls_is xL0).1 (cls_is xL0).2 rfl (beq_eq_false_iff_ne.mpr fun z => h03 z.symm)) (.cons (kit_own (r := false) xL3 (cls_is xL1).1 (cls_is xL1).2 rfl (beq_eq_false_iff_ne.mpr fun z => h13 z.symm)) (.cons (kit_own (r := false) xL3 (cls_is xL2).1 (cls_is xL2).2 rfl (beq_eq_false_iff_ne.mpr fun z => h23 z.symm)) (.cons (kit_own (r := true) xL3 (cls_is xL3).1 (cls_is xL3).2 rfl (beq_self_eq_true _)) (.cons (kit_own (r := false) xL3 (cls_is xL4).1 (cls_is xL4).2 rfl (beq_eq_false_iff_ne.mpr h34)) (.cons (kit_own (r := false) xL3 (cls_is xL5).1 (cls_is xL5).2 rfl (beq_eq_false_iff_ne.mpr h35)) (.cons (kit_own (r := false) xL3 (cls_is xL6).1 (cls_is xL6).2 rfl (beq_eq_false_iff_ne.mpr h36)) (.cons (kit_own (r := false) xL3 (cls_is xL7).1 (cls_is xL7).2 rfl (beq_eq_false_iff_ne.mpr h37)) (.cons (kit_own (r := false) xL3 (cls_is xL8).1 (cls_is xL8).2 rfl (beq_eq_false_iff_ne.mpr h38)) .nil))))))))))))
  have O3 : ClsOk K [C0, C1, C2, C3, C4, C5, C6, C7, C8] C3 (2, 3) := ⟨T3.isc, R3, kitAny_cons (kit_ty1 (T := "KeyError") (r := false) xL3 (by decide +kernel) (by decide +kernel)) (fun _ => kitAny_cons (kit_ty1 (T := "IndexError") (r := false) xL3 (by decide +kernel) (by decide +kernel)) (fun _ => kitAny_nil) (fun z => nomatch z)) (fun z => nomatch z)⟩
  have R4 : KitRow K [C0, C1, C2, C3, C4, C5, C6, C7, C8] C4 (dueBits 0 4) := (.cons (kit_ty1 (T := "ValueError") (r := true) xL4 (by decide +kernel) (by decide +kernel)) (.cons (kit_ty1 (T := "LookupError") (r := false) xL4 (by decide +kernel) (by decide +kernel)) (.cons (kit_ty1 (T := "RuntimeError") (r := false) xL4 (by decide +kernel) (by decide +kernel)) (.cons (kit_own (r := false) xL4 (cls_is xL0).1 (cls_is xL0).2 rfl (beq_eq_false_iff_ne.mpr fun z => h04 z.symm)) (.cons (kit_own (r := false) xL4 (cls_is xL1).1 (cls_is xL1).2 rfl (beq_eq_false_iff_ne.mpr fun z => h14 z.symm)) (.cons (kit_own (r := false) xL4 (cls_is xL2).1 (cls_is xL2).2 rfl (beq_eq_false_iff_ne.mpr fun z => h24 z.symm)) (.cons (kit_own (r := false) xL4 (cls_is xL3).1 (cls_is xL3).2 rfl (beq_eq_false_iff_ne.mpr fun z => h34 z.symm)) (.cons (kit_own (r := true) xL4 (cls_is xL4).1 (cls_is xL4).2 rfl (beq_self_eq_true _)) (.cons (kit_own (r := false) xL4 (cls_is xL5).1 (cls_is xL5).2 rfl (beq_eq_false_iff_ne.mpr h45)) (.cons (kit_own (r := false) xL4 (cls_is xL6).1 (cls_is xL6).2 rfl (beq_eq_false_iff_ne.mpr h46)) (.cons (kit_own (r := false) xL4 (cls_is xL7).1 (cls_is xL7).2 rfl (beq_eq_false_iff_ne.mpr h47)) (.cons (kit_own (r := false) xL4 (cls_is xL8).1 (cls_is xL8).2 rfl (beq_eq_false_iff_ne.mpr h48)) .nil))))))))))))
  have O4 : ClsOk K [C0, C1, C2, C3, C4, C5, C6, C7, C8] C4 (0, 4) := ⟨T4.isc, R4, kitAny_cons (kit_ty1 (T := "KeyError") (r := false) xL4 (by decide +kernel) (by decide +kernel)) (fun _ => kitAny_cons (kit_ty1 (T := "IndexError") (r := false) xL4 (by decide +kernel) (by decide +kernel)) (fun _ => kitAny_nil) (fun z => nomatch z)) (fun z => nomatch z)⟩
  have R5 : KitRow K [C0, C1, C2, C3, C4, C5, C6, C7, C8] C5 (dueBits 2 5) := (.cons (kit_ty1 (T := "ValueError") (r := false) xL5 (by decide +kernel) (by decide +kernel)) (.cons (kit_ty1 (T := "LookupError") (r := false) xL5 (by decide +kernel) (by decide +kernel)) (.cons (kit_ty1 (T := "RuntimeError") (r := true) xL5 (by decide +kernel) (by decide +kernel)) (.cons (kit_own (r := false) xL5 (cls_is xL0).1 (cls_is xL0).2 rfl (beq_eq_false_iff_ne.mpr fun z => h05 z.symm)) (.cons (kit_own (r := false) xL5 (cls_is xL1).1 (cls_is xL1).2 rfl (beq_eq_false_iff_ne.mpr fun z => h15 z.symm)) (.cons (kit_own (r := false) xL5 (cls_is xL2).1 (cls_is xL2).2 rfl (beq_eq_false_iff_ne.mpr fun z => h25 z.symm)) (.cons (kit_own (r := false) xL5 (cls_is xL3).1 (cls_is xL3).2 rfl (beq_eq_false_iff_ne.mpr fun z => h35 z.symm)) (.cons (kit_own (r := false) xL5 (cls_is xL4).1 (cls_is xL4).2 rfl (beq_eq_false_iff_ne.mpr fun z => h45 z.symm)) (.cons (kit_own (r := true) xL5 (cls_is xL5).1 (cls_is xL5).2 rfl (beq_self_eq_true _)) (.cons (kit_own (r := false) xL5 (cls_is xL6).1 (cls_is xL6).2 rfl (beq_eq_false_iff_ne.mpr h56)) (.cons (kit_own (r := false) xL5 (cls_is xL7).1 (cls_is xL7).2 rfl (beq_eq_false_iff_ne.mpr h57)) (.cons (kit_own (r := false) xL5 (cls_is xL8).1 (cls_is xL8).2 rfl (beq_eq_false_iff_ne.mpr h58)) .nil))))))))))))
  have O5 : ClsOk K [C0, C1, C2, C3, C4, C5, C6, C7, C8] C5 (2, 5) := ⟨T5.isc, R5, kitAny_cons (kit_ty1 (T := "KeyError") (r := false) xL5 (by decide +kernel) (by decide +kernel)) (fun _ => kitAny_cons (kit_ty1 (T := "IndexError") (r := false) xL5 (by decide +kernel) (by decide +kernel)) (fun _ => kitAny_nil) (fun z => nomatch z)) (fun z => nomatch z)⟩
  have R6 : KitRow K [C0, C1, C2, C3, C4, C5, C6, C7, C8] C6 (dueBits 2 6) := (.cons (kit_ty1 (T := "ValueError") (r := false) xL6 (by decide +kernel) (by decide +kernel)) (.cons (kit_ty1 (T := "LookupError") (r := false) xL6 (by decide +kernel) (by decide +kernel)) (.cons (kit_ty1 (T := "RuntimeError") (r := true) xL6 (by decide +kernel) (by decide +kernel)) (.cons (kit_own (r := false) xL6 (cls_is xL0).1 (cls_is xL0).2 rfl (beq_eq_false_iff_ne.mpr fun z => h06 z.symm)) (.cons (kit_own (r := false) xL6 (cls_is xL1).1 (cls_is xL1).2 rfl (beq_eq_false_iff_ne.mpr fun z => h16 z.symm)) (.cons (kit_own (r := false) xL6 (cls_is xL2).1 (cls_is xL2).2 rfl (beq_eq_false_iff_ne.mpr fun z => h26 z.symm)) (.cons (kit_own (r := false) xL6 (cls_is xL3).1 (cls_is xL3).2 rfl (beq_eq_false_iff_ne.mpr fun z => h36 z.symm)) (.cons (kit_own (r := false) xL6 (cls_is xL4).1 (cls_is xL4).2 rfl (beq_eq_false_iff_ne.mpr fun z => h46 z.symm)) (.cons (kit_own (r := false) xL6 (cls_is xL5).1 (cls_is xL5).2 rfl (beq_eq_false_iff_ne.mpr fun z => h56 z.symm)) (.cons (kit_own (r := true) xL6 (cls_is xL6).1 (cls_is xL6).2 rfl (beq_self_eq_true _)) (.cons (kit_own (r := false) xL6 (cls_is xL7).1 (cls_is xL7).2 rfl (beq_eq_false_iff_ne.mpr h67)) (.cons (kit_own (r := false) xL6 (cls_is xL8).1 (cls_is xL8).2 rfl (beq_eq_false_iff_ne.mpr h68)) .nil))))))))))))
  have O6 : ClsOk K [C0, C1, C2, C3, C4, C5, C6, C7, C8] C6 (2, 6) := ⟨T6.isc, R6, kitAny_cons (kit_ty1 (T := "KeyError") (r := false) xL6 (by decide +kernel) (by decide +kernel)) (fun _ => kitAny_cons (kit_ty1 (T := "IndexError") (r := false) xL6 (by decide +kernel) (by decide +kernel)) (fun _ => kitAny_nil) (fun z => nomatch z)) (fun z => nomatch z)⟩
  have R7 : KitRow K [C0, C1, C2, C3, C4, C5, C6, C7, C8] C7 (dueBits 0 7) := (.cons (kit_ty1 (T := "ValueError") (r := true) xL7 (by decide +kernel) (by decide +kernel)) (.cons (kit_ty1 (T := "LookupError") (r := false) xL7 (by decide +kernel) (by decide +kernel)) (.cons (kit_ty1 (T := "RuntimeError") (r := false) xL7 (by decide +kernel) (by decide +kernel)) (.cons (kit_own (r := false) xL7 (cls_is xL0).1 (cls_is xL0).2 rfl (beq_eq_false_iff_ne.mpr fun z => h07 z.symm)) (.cons (kit_own (r := false) xL7 (cls_is xL1).1 (cls_is xL1).2 rfl (beq_eq_false_iff_ne.mpr fun z => h17 z.symm)) (.cons (kit_own (r := false) xL7 (cls_is xL2).1 (cls_is xL2).2 rfl (beq_eq_false_iff_ne.mpr fun z => h27 z.symm)) (.cons (kit_own (r := false) xL7 (cls_is xL3).1 (cls_is xL3).2 rfl (beq_eq_false_iff_ne.mpr fun z => h37 z.symm)) (.cons (kit_own (r := false) xL7 (cls_is xL4).1 (cls_is xL4).2 rfl (beq_eq_false_iff_ne.mpr fun z => h47 z.symm)) (.cons (kit_own (r := false) xL7 (cls_is xL5).1 (cls_is xL5).2 rfl (beq_eq_false_iff_ne.mpr fun z => h57 z.symm)) (.cons (kit_own (r := false) xL7 (cls_is xL6).1 (cls_is xL6).2 rfl (beq_eq_false_iff_ne.mpr fun z => h67 z.symm)) (.cons (kit_own (r := true) xL7 (cls_is xL7).1 (cls_is xL7).2 rfl (beq_self_eq_true _)) (.cons (kit_own (r := false) xL7 (cls_is xL8).1 (cls_is xL8).2 rfl (beq_eq_false_iff_ne.mpr h78)) .nil))))))))))))
  have O7 : ClsOk K [C0, C1, C2, C3, C4, C5, C6, C7, C8] C7 (0, 7) := ⟨T7.isc, R7, kitAny_cons (kit_ty1 (T := "KeyError") (r := false) xL7 (by decide +kernel) (by decide +kernel)) (fun _ => kitAny_cons (kit_ty1 (T := "IndexError") (r := false) xL7 (by decide +kernel) (by decide +kernel)) (fun _ => kitAny_nil) (fun z => nomatch z)) (fun z => nomatch z)⟩
  have R8 : KitRow K [C0, C1, C2, C3, C4, C5, C6, C7, C8] C8 (dueBits 0 8) := (.cons (kit_ty1 (T := "ValueError") (r := true) xL8 (by decide +kernel) (by decide +kernel)) (.cons (kit_ty1 (T := "LookupError") (r := false) xL8 (by decide +kernel) (by decide +kernel)) (.cons (kit_ty1 (T := "RuntimeError") (r := false) xL8 (by decide +kernel) (by decide +kernel)) (.cons (kit_own (r := false) xL8 (cls_is xL0).1 (cls_is xL0).2 rfl (beq_eq_false_iff_ne.mpr fun z => h08 z.symm)) (.cons (kit_own (r := false) xL8 (cls_is xL1).1 (cls_is xL1).2 rfl (beq_eq_false_iff_ne.mpr fun z => h18 z.symm)) (.cons (kit_own (r := false) xL8 (cls_is xL2).1 (cls_is xL2).2 rfl (beq_eq_false_iff_ne.mpr fun z => h28 z.symm)) (.cons (kit_own (r := false) xL8 (cls_is xL3).1 (cls_is xL3).2 rfl (beq_eq_false_iff_ne.mpr fun z => h38 z.symm)) (.cons (kit_own (r := false) xL8 (cls_is xL4).1 (cls_is xL4).2 rfl (beq_eq_false_iff_ne.mpr fun z => h48 z.symm)) (.cons (kit_own (r := false) xL8 (cls_is xL5).1 (cls_is xL5).2 rfl (beq_eq_false_iff_ne.mpr fun z => h58 z.symm)) (.cons (kit_own (r := false) xL8 (cls_is xL6).1 (cls_is xL6).2 rfl (beq_eq_false_iff_ne.mpr fun z => h68 z.symm)) (.cons (kit_own (r := false) xL8 (cls_is xL7).1 (cls_is xL7).2 rfl (beq_eq_false_iff_ne.mpr fun z => h78 z.symm)) (.cons (kit_own (r := true) xL8 (cls_is xL8).1 (cls_is xL8).2 rfl (beq_self_eq_true _)) .nil))))))))))))
  have O8 : ClsOk K [C0, C1, C2, C3, C4, C5, C6, C7, C8] C8 (0, 8) := ⟨T8.isc, R8, kitAny_cons (kit_ty1 (T := "KeyError") (r := false) xL8 (by decide +kernel) (by decide +kernel)) (fun _ => kitAny_cons (kit_ty1 (T := "IndexError") (r := false) xL8 (by decide +kernel) (by decide +kernel)) (fun _ => kitAny_nil) (fun z => nomatch z)) (fun z => nomatch z)⟩
  have hcs : Paired (ClsOk K [C0, C1, C2, C3, C4, C5, C6, C7, C8]) [C0, C1, C2, C3, C4, C5, C6, C0, C1, C2, C3, C4, C5, C6, C7, C8] kinds := (.cons O0 (.cons O1 (.cons O2 (.cons O3 (.cons O4 (.cons O5 (.cons O6 (.cons O0 (.cons O1 (.cons O2 (.cons O3 (.cons O4 (.cons O5 (.cons O6 (.cons O7 (.cons O8 .nil))))))))))))))))
  refine ⟨PySem.W.fnOf "law" "law" (defArgs (topS 26)) (defBody (topS 26)) (defScope (topS 26)) .none kV11 dc11 pm11 an11 cd11 ct11, fun s v => .of_eq rfl, fun base _ _ => ?_⟩
  have g1 := ok_draw (P := l.prog) (w := w) (base := base) F2 no_draw b2 (PySem.W.mg_of X G a2)
  have g2 := ok_draw F2 g1 b2 (PySem.W.mg_of X G a2)
  have gP := ok_pick F4 g2 b2 k2 (PySem.W.mg_of X G a2) (PySem.W.mg_none_of X G z3)
  have gS := ok_stream (P := l.prog) (w := w) (base := base) F1 (PySem.W.mg_none_of X G z3) (PySem.W.mg_none_of X G z4) (PySem.W.mg_none_of X G z5)
  have gF := ok_folded (P := l.prog) (w := w) (base := base) F3 (PySem.W.mg_none_of X G z1) (PySem.W.mg_none_of X G z6)
  have y1 := ok_copied (P := l.prog) (w := w) (base := base) F0 no_copied b0 (PySem.W.mg_of X G a0) (PySem.W.mg_none_of X G z0) (PySem.W.mg_none_of X G z1) (PySem.W.mg_none_of X G z2)
  have y2 := ok_copied F0 y1 b0 (PySem.W.mg_of X G a0) (PySem.W.mg_none_of X G z0) (PySem.W.mg_none_of X G z1) (PySem.W.mg_none_of X G z2)
  have y3 := ok_copied F0 y2 b0 (PySem.W.mg_of X G a0) (PySem.W.mg_none_of X G z0) (PySem.W.mg_none_of X G z1) (PySem.W.mg_none_of X G z2)
  have v1 := ok_same (P := l.prog) (w := w) (base := base) F5 no_same b5 (PySem.W.mg_of X G a5) (PySem.W.mg_none_of X G z0) (PySem.W.mg_none_of X G z1) (PySem.W.mg_none_of X G z2) (PySem.W.mg_none_of X G z3) (PySem.W.mg_none_of X G z7) (PySem.W.mg_none_of X G z9) (PySem.W.mg_none_of X G z10) (PySem.W.mg_none_of X G z11) (PySem.W.mg_none_of X G z5)
  have v2 := ok_same F5 v1 b5 (PySem.W.mg_of X G a5) (PySem.W.mg_none_of X G z0) (PySem.W.mg_none_of X G z1) (PySem.W.mg_none_of X G z2) (PySem.W.mg_none_of X G z3) (PySem.W.mg_none_of X G z7) (PySem.W.mg_none_of X G z9) (PySem.W.mg_none_of X G z10) (PySem.W.mg_none_of X G z11) (PySem.W.mg_none_of X G z5)
  have v3 := ok_same F5 v2 b5 (PySem.W.mg_of X G a5) (PySem.W.mg_none_of X G z0) (PySem.W.mg_none_of X G z1) (PySem.W.mg_none_of X G z2) (PySem.W.mg_none_of X G z3) (PySem.W.mg_none_of X G z7) (PySem.W.mg_none_of X G z9) (PySem.W.mg_none_of X G z10) (PySem.W.mg_none_of X G z11) (PySem.W.mg_none_of X G z5)
  have v4 := ok_same F5 v3 b5 (PySem.W.mg_of X G a5) (PySem.W.mg_none_of X G z0) (PySem.W.mg_none_of X G z1) (PySem.W.mg_none_of X G z2) (PySem.W.mg_none_of X G z3) (PySem.W.mg_none_of X G z7) (PySem.W.mg_none_of X G z9) (PySem.W.mg_none_of X G z10) (PySem.W.mg_none_of X G z11) (PySem.W.mg_none_of X G z5)
  have v5 := ok_same F5 v4 b5 (PySem.W.mg_of X G a5) (PySem.W.mg_none_of X G z0) (PySem.W.mg_none_of X G z1) (PySem.W.mg_none_of X G z2) (PySem.W.mg_none_of X G z3) (PySem.W.mg_none_of X G z7) (PySem.W.mg_none_of X G z9) (PySem.W.mg_none_of X G z10) (PySem.W.mg_none_of X G z11) (PySem.W.mg_none_of X G z5)
  have gV := ok_values F6 g2 b2 k2 (PySem.W.mg_of X G a2) gP b4 k4 (PySem.W.mg_of X G a4)
  have i0 := ok_BadLine (P := l.prog) (w := w) (base := base) D0 T0 no0 (PySem.W.mg_none_of X G z15) fcV
  have E0 : ErrCls l.prog w K mg base "BadLine" "number" C0 I0 _ mroV "ValueError.__new__" 1 (spInit C0 "number") := ⟨T0, i0, e0, (fun s v w => .of_eq rfl), PySem.W.mg_of X G gC0, no0⟩
  have i1 := ok_NoProcess (P := l.prog) (w := w) (base := base) D1 T1 no1 (PySem.W.mg_none_of X G z16) fcL
  have E1 : ErrCls l.prog w K mg base "NoProcess" "number" C1 I1 _ mroL "LookupError.__new__" 1 (spInit C1 "number") := ⟨T1, i1, e1, (fun s v w => .of_eq rfl), PySem.W.mg_of X G gC1, no1⟩
  have i2 := ok_BadStep (P := l.prog) (w := w) (base := base) D2 T2 no2 (PySem.W.mg_none_of X G z16) fcL
  have E2 : ErrCls l.prog w K mg base "BadStep" "index" C2 I2 _ mroL "LookupError.__new__" 1 (spInit C2 "index") := ⟨T2, i2, e2, (fun s v w => .of_eq rfl), PySem.W.mg_of X G gC2, no2⟩
  have i3 := ok_NotRunning (P := l.prog) (w := w) (base := base) D3 T3 no3 (PySem.W.mg_none_of X G z17) fcR
  have E3 : ErrCls l.prog w K mg base "NotRunning" "number" C3 I3 _ mroR "RuntimeError.__new__" 1 (spInit C3 "number") := ⟨T3, i3, e3, (fun s v w => .of_eq rfl), PySem.W.mg_of X G gC3, no3⟩
  have i4 := ok_Outside (P := l.prog) (w := w) (base := base) D4 T4 no4 (PySem.W.mg_none_of X G z15) fcV y3 b0 k0 (PySem.W.mg_of X G a0)
  have E4 : ErrCls l.prog w K mg base "Outside" "what" C4 I4 _ mroV "ValueError.__new__" 4 (spInitC K C4 "what") := ⟨T4, i4, e4, (fun s v w => .of_eq rfl), PySem.W.mg_of X G gC4, no4⟩
  have i5 := ok_Barred (P := l.prog) (w := w) (base := base) D5 T5 no5 (PySem.W.mg_none_of X G z17) fcR y3 b0 k0 (PySem.W.mg_of X G a0)
  have E5 : ErrCls l.prog w K mg base "Barred" "reason" C5 I5 _ mroR "RuntimeError.__new__" 4 (spInitC K C5 "reason") := ⟨T5, i5, e5, (fun s v w => .of_eq rfl), PySem.W.mg_of X G gC5, no5⟩
  have i6 := ok_NotNow (P := l.prog) (w := w) (base := base) D6 T6 no6 (PySem.W.mg_none_of X G z17) fcR
  have E6 : ErrCls l.prog w K mg base "NotNow" "word" C6 I6 _ mroR "RuntimeError.__new__" 1 (spInit C6 "word") := ⟨T6, i6, e6, (fun s v w => .of_eq rfl), PySem.W.mg_of X G gC6, no6⟩
  have i7 := ok_BadText (P := l.prog) (w := w) (base := base) D7 T7 (PySem.W.mg_none_of X G z15) fcV
  have E7 : ErrCls0 l.prog w K mg base "BadText" C7 I7 _ := ⟨T7, i7, e7, PySem.W.mg_of X G gC7⟩
  have i8 := ok_NoOrder (P := l.prog) (w := w) (base := base) D8 T8 (PySem.W.mg_none_of X G z15) fcV
  have E8 : ErrCls0 l.prog w K mg base "NoOrder" C8 I8 _ := ⟨T8, i8, e8, PySem.W.mg_of X G gC8⟩
  have gK := ok_kept F7 E0 E1 E2 E3 E4 E5 E6 E7 E8
  have gO := ok_sorts (P := l.prog) (w := w) (base := base) F8 (PySem.W.mg_of X G gC0) (PySem.W.mg_of X G gC1) (PySem.W.mg_of X G gC2) (PySem.W.mg_of X G gC3) (PySem.W.mg_of X G gC4) (PySem.W.mg_of X G gC5) (PySem.W.mg_of X G gC6) (PySem.W.mg_of X G gC7) (PySem.W.mg_of X G gC8) (PySem.W.mg_none_of X G z0) (PySem.W.mg_none_of X G z15) (PySem.W.mg_none_of X G z16) (PySem.W.mg_none_of X G z17)
  have gD := ok_due (P := l.prog) (w := w) (base := base) F9 (PySem.W.mg_none_of X G z12)
  have gR := ok_right F10 gV b6 k6 (PySem.W.mg_of X G a6) gK b7 k7 (PySem.W.mg_of X G a7) v5 b5 k5 (PySem.W.mg_of X G a5) gD b9 k9 (PySem.W.mg_of X G a9) gO b8 k8 (PySem.W.mg_of X G a8) hcs (PySem.W.mg_none_of X G z0) (PySem.W.mg_none_of X G z6) (PySem.W.mg_none_of X G z8) (PySem.W.mg_none_of X G z13) (PySem.W.mg_none_of X G z14) (PySem.W.mg_of X G wMOST) (PySem.W.mg_of X G wROOM) (PySem.W.mg_of X G wLETTERS) (PySem.W.mg_of X G wCELLS)
  exact ok_law F11 gF b3 k3 (PySem.W.mg_of X G a3) gS b1 k1 (PySem.W.mg_of X G a1) gR b10 k10 (PySem.W.mg_of X G a10) (PySem.W.mg_none_of X G z12) (PySem.W.mg_none_of X G z3) (PySem.W.mg_none_of X G z7)
end K00
set_option Elab.async false
set_option linter.all false
set_option maxRecDepth 100000
open PySem PySem.W PyProof.Rows
set_option maxHeartbeats 0 in
theorem PySem.Challenge.cw_treethaw_k00_errors_and_limits_holds : PySem.Challenge.rw_treethaw_k00_errors_and_limits.Holds := by
  w_on; o_law; k_head; (case hw => w_witness2)
  k_fill
  refine L2.walk_of (l := PySem.Challenge.rw_treethaw_k00_errors_and_limits) (n := 63) (k := 8) (x := "_law_script") (CX := fun _ => L2.CX0) (sp := fun w => K00.spLaw _) rfl (by decide) rfl ⟨rfl, by decide, by decide⟩ (fun w h Y => PySem.W.kIn_of Y) ?F (fun _ _ a ns hl _ hS => ⟨a, ns, rfl, hS, hl, fun _ => rfl⟩) (fun _ _ _ _ _ h => h)
  case F =>
    intro w mg fa h KX G hmg
    refine' K00.all_mk KX G hmg ?a0 ?l0 ?c0 ?k0 ?a1 ?l1 ?c1 ?k1 ?a2 ?l2 ?c2 ?k2 ?a3 ?l3 ?c3 ?k3 ?a4 ?l4 ?c4 ?k4 ?a5 ?l5 ?c5 ?k5 ?a6 ?l6 ?c6 ?k6 ?a7 ?l7 ?c7 ?k7 ?a8 ?l8 ?c8 ?k8 ?a9 ?l9 ?c9 ?k9 ?a10 ?l10 ?c10 ?k10 ?a11 ?l11 ?c11 ?k11 ?gC0 ?xL0 ?sa0 ?ow0 ?ft0 ?lI0 ?cI0 ?kI0 ?kC0 ?ga0 ?gg0 ?ca0 ?no0 ?gC1 ?xL1 ?sa1 ?ow1 ?ft1 ?lI1 ?cI1 ?kI1 ?kC1 ?ga1 ?gg1 ?ca1 ?no1 ?gC2 ?xL2 ?sa2 ?ow2 ?ft2 ?lI2 ?cI2 ?kI2 ?kC2 ?ga2 ?gg2 ?ca2 ?no2 ?gC3 ?xL3 ?sa3 ?ow3 ?ft3 ?lI3 ?cI3 ?kI3 ?kC3 ?ga3 ?gg3 ?ca3 ?no3 ?gC4 ?xL4 ?sa4 ?ow4 ?ft4 ?lI4 ?cI4 ?kI4 ?kC4 ?ga4 ?gg4 ?ca4 ?no4 ?gC5 ?xL5 ?sa5 ?ow5 ?ft5 ?lI5 ?cI5 ?kI5 ?kC5 ?ga5 ?gg5 ?ca5 ?no5 ?gC6 ?xL6 ?sa6 ?ow6 ?ft6 ?lI6 ?cI6 ?kI6 ?kC6 ?ga6 ?gg6 ?ca6 ?no6 ?gC7 ?xL7 ?sa7 ?ow7 ?ft7 ?lI7 ?cI7 ?kI7 ?kC7 ?ga7 ?gg7 ?ca7 ?gC8 ?xL8 ?sa8 ?ow8 ?ft8 ?lI8 ?cI8 ?kI8 ?kC8 ?ga8 ?gg8 ?ca8 ?z0 ?z1 ?z2 ?z3 ?z4 ?z5 ?z6 ?z7 ?z8 ?z9 ?z10 ?z11 ?z12 ?z13 ?z14 ?z15 ?z16 ?z17 ?wMOST ?wROOM ?wLETTERS ?wCELLS ?hgn ?htk ?fcV ?fcL ?fcR ?hN
    (case a0 => k_is)
    (case l0 => k_is)
    (case c0 => k_is)
    (case k0 => k_is)
    (case a1 => k_is)
    (case l1 => k_is)
    (case c1 => k_is)
    (case k1 => k_is)
    (case a2 => k_is)
    (case l2 => k_is)
    (case c2 => k_is)
    (case k2 => k_is)
    (case a3 => k_is)
    (case l3 => k_is)
    (case c3 => k_is)
    (case k3 => k_is)
    (case a4 => k_is)
    (case l4 => k_is)
    (case c4 => k_is)
    (case k4 => k_is)
    (case a5 => k_is)
    (case l5 => k_is)
    (case c5 => k_is)
    (case k5 => k_is)
    (case a6 => k_is)
    (case l6 => k_is)
    (case c6 => k_is)
    (case k6 => k_is)
    (case a7 => k_is)
    (case l7 => k_is)
    (case c7 => k_is)
    (case k7 => k_is)
    (case a8 => k_is)
    (case l8 => k_is)
    (case c8 => k_is)
    (case k8 => k_is)
    (case a9 => k_is)
    (case l9 => k_is)
    (case c9 => k_is)
    (case k9 => k_is)
    (case a10 => k_is)
    (case l10 => k_is)
    (case c10 => k_is)
    (case k10 => k_is)
    (case a11 => k_is)
    (case l11 => k_is)
    (case c11 => k_is)
    (case k11 => k_is)
    (case gC0 => k_is)
    (case xL0 => k_is)
    (case sa0 => k_is)
    (case ow0 => k_is)
    (case ft0 => k_is)
    (case lI0 => k_is)
    (case cI0 => k_is)
    (case kI0 => k_is)
    (case kC0 => k_is)
    (case ga0 => k_is)
    (case gg0 => k_is)
    (case ca0 => k_is)
    (case no0 => k_is)
    (case gC1 => k_is)
    (case xL1 => k_is)
    (case sa1 => k_is)
    (case ow1 => k_is)
    (case ft1 => k_is)
    (case lI1 => k_is)
    (case cI1 => k_is)
    (case kI1 => k_is)
    (case kC1 => k_is)
    (case ga1 => k_is)
    (case gg1 => k_is)
    (case ca1 => k_is)
    (case no1 => k_is)
    (case gC2 => k_is)
    (case xL2 => k_is)
    (case sa2 => k_is)
    (case ow2 => k_is)
    (case ft2 => k_is)
    (case lI2 => k_is)
    (case cI2 => k_is)
    (case kI2 => k_is)
    (case kC2 => k_is)
    (case ga2 => k_is)
    (case gg2 => k_is)
    (case ca2 => k_is)
    (case no2 => k_is)
    (case gC3 => k_is)
    (case xL3 => k_is)
    (case sa3 => k_is)
    (case ow3 => k_is)
    (case ft3 => k_is)
    (case lI3 => k_is)
    (case cI3 => k_is)
    (case kI3 => k_is)
    (case kC3 => k_is)
    (case ga3 => k_is)
    (case gg3 => k_is)
    (case ca3 => k_is)
    (case no3 => k_is)
    (case gC4 => k_is)
    (case xL4 => k_is)
    (case sa4 => k_is)
    (case ow4 => k_is)
    (case ft4 => k_is)
    (case lI4 => k_is)
    (case cI4 => k_is)
    (case kI4 => k_is)
    (case kC4 => k_is)
    (case ga4 => k_is)
    (case gg4 => k_is)
    (case ca4 => k_is)
    (case no4 => k_is)
    (case gC5 => k_is)
    (case xL5 => k_is)
    (case sa5 => k_is)
    (case ow5 => k_is)
    (case ft5 => k_is)
    (case lI5 => k_is)
    (case cI5 => k_is)
    (case kI5 => k_is)
    (case kC5 => k_is)
    (case ga5 => k_is)
    (case gg5 => k_is)
    (case ca5 => k_is)
    (case no5 => k_is)
    (case gC6 => k_is)
    (case xL6 => k_is)
    (case sa6 => k_is)
    (case ow6 => k_is)
    (case ft6 => k_is)
    (case lI6 => k_is)
    (case cI6 => k_is)
    (case kI6 => k_is)
    (case kC6 => k_is)
    (case ga6 => k_is)
    (case gg6 => k_is)
    (case ca6 => k_is)
    (case no6 => k_is)
    (case gC7 => k_is)
    (case xL7 => k_is)
    (case sa7 => k_is)
    (case ow7 => k_is)
    (case ft7 => k_is)
    (case lI7 => k_is)
    (case cI7 => k_is)
    (case kI7 => k_is)
    (case kC7 => k_is)
    (case ga7 => k_is)
    (case gg7 => k_is)
    (case ca7 => k_is)
    (case gC8 => k_is)
    (case xL8 => k_is)
    (case sa8 => k_is)
    (case ow8 => k_is)
    (case ft8 => k_is)
    (case lI8 => k_is)
    (case cI8 => k_is)
    (case kI8 => k_is)
    (case kC8 => k_is)
    (case ga8 => k_is)
    (case gg8 => k_is)
    (case ca8 => k_is)
    (case z0 => k_is)
    (case z1 => k_is)
    (case z2 => k_is)
    (case z3 => k_is)
    (case z4 => k_is)
    (case z5 => k_is)
    (case z6 => k_is)
    (case z7 => k_is)
    (case z8 => k_is)
    (case z9 => k_is)
    (case z10 => k_is)
    (case z11 => k_is)
    (case z12 => k_is)
    (case z13 => k_is)
    (case z14 => k_is)
    (case z15 => k_is)
    (case z16 => k_is)
    (case z17 => k_is)
    (case wMOST => k_is)
    (case wROOM => k_is)
    (case wLETTERS => k_is)
    (case wCELLS => k_is)
    (case hgn => first | k_is | rfl | decide +kernel)
    (case htk => first | k_is | rfl | decide +kernel)
    (case fcV => first | k_is | rfl | decide +kernel)
    (case fcL => first | k_is | rfl | decide +kernel)
    (case fcR => first | k_is | rfl | decide +kernel)
    (case hN => decide)

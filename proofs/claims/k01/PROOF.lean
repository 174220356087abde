import PyProof.Rows.All
import Wide.All
import OpenK.AllK
import Wide.FinOn
import HandS.ForMost
import HandS.IsInst
import HandS.Wide
import HandS.Walk
import HandS.Flow
import HandS.Conv
import HandS.Zip
import HandS.NoneIn
import PyProof.DictUpdate
import PyProof.ReprRoads
import HandS.RaiseMore
import KE.GoesZip
import HandS.Text
import HandS.TupAny
import HandS.More
import HandS.Steps
import HandS.FStrTup
import PyProof.StrOps2
import HandS.Style
import PySem.Challenge.RW_treethaw_k01_calls_or_not
set_option Elab.async false
set_option linter.all false
set_option maxRecDepth 100000
set_option maxHeartbeats 4000000
namespace PySem
theorem codeAny_g {M : Model} {A : Around} {c : Code} {R : Result → Shared → Prop} {s : Shared} (h : ∀ g, codeAny M { A with guards := some g } c R s) : codeAny M A c R s :=
  fun Γ p e b => h (guardsOf Γ.below) Γ p e ⟨b.1, b.2.1, b.2.2.1, fun g hg => by cases hg; rfl, b.2.2.2.2⟩
end PySem
namespace L2
open PySem PySem.Spec PyProof.Rows
theorem room_g {k : Nat} {A : Around} {g : List Code} (r : Room k A) : Room k { A with guards := some g } := ⟨r.hd, r.dp, r.un⟩
theorem env0_g {P : Program} {w : World} {K : PySem.W.Frag} {mg : Str → Option Value} {base : Heap} {A : Around} {outer : List Env} {s : Shared} {H : Hp} {g : List Code} (e : Env0 P w K mg base A outer s H) : Env0 P w K mg base { A with guards := some g } outer s H :=
  ⟨e.frames, e.mod, e.bs, e.bsz, e.funs, e.frf, e.hok, e.bare⟩
section
variable {P : Program} {w : World} {K : PySem.W.Frag} {mg : Str → Option Value} {base : Heap}
/-- a def, its body walked where the guards around it are known -/
theorem Fun.okG {x qual : Str} {st : Stmt} {f : Addr} {fd : FuncData} {N ps : List Str} {k : Nat} {sp : Sp} (F : Fun K x qual st f fd) (S : FnScope N ps (defScope st)) (len : ∀ vs H Q E, sp vs H Q E → vs.length = ps.length)
    (body : ∀ (cdv : Value) (A : Around) (outer : List Env) (s : Shared) (H : Hp) (vs : List V) (Q : VK) (E : XK), (∃ g, A.guards = some g) → Room k (A.deeper (envOfC qual (defScope st) s.heap.objs.size f cdv)) → sp vs H Q E →
      ∃ t, PSs (cxOf CX0 P w K mg base N qual (defScope st) f cdv A outer s H E).nox (defBody st) t ∧ t { nx := fun _ H' => Q .non H', rt := Q } (start N vs) H) : FnOk P w K mg base CX0 (k + 1) f fd ps sp := by
  obtain ⟨oc, od, kV, doc, pm, an, cdv, ct, osl, rfl, lk, hcd⟩ := F.ex
  refine ⟨len, fun A outer s H args us vs Q E hr e0 hb r hsp => codeAny_g fun g => ?_⟩
  have hr' := room_g (g := g) hr
  have e1 := env0_g (g := g) e0
  have at_ : (∃ g', ({ A with guards := some g } : Around).guards = some g') := ⟨g, rfl⟩
  generalize ({ A with guards := some g } : Around) = B at hr' e1 at_ ⊢
  have hl := len _ _ _ _ hsp
  have up : ∀ b o, base.get? b = some o → s.heap.get? b = some o := fun b o z => (e1.bs b o z).1
  have KX : K.In s.heap := e1.mod.kin.keeps up
  have lim : s.heap.NoLimit := e1.mod.nolimit.keeps up
  have kinds : ∀ y ∈ ps.zip us, (defScope st).names.lookup y.1 = some .local ∨ ((defScope st).names.lookup y.1 = some .cell ∧ ((cellsFrom (s.heap.objs.size + 1) (defScope st).names []).lookup y.1).isSome = true) := fun y hy => by
    rcases S.par y.1 (List.of_mem_zip hy).1 with z | z
    · exact .inl z
    · exact .inr ⟨z, PySem.W.cellsFrom_some _ _ _ (.inl z)⟩
  refine codeAny_call_function hr'.depth (KX _ _ lk) rfl S.co S.gen rfl (PySem.W.codeRec_of KX hcd) (hb _ _ _ _ ?_)
  refine wpAny_newFunctionEnv_cells S.kind kinds fun env he s1 y => ?_
  subst he
  refine ⟨lim.keeps y.toInCall.keep, codeAny_func ?_⟩
  obtain ⟨t, ht, hq⟩ := body cdv B outer s H vs Q E at_ (hr'.deeper _) hsp
  have I : Inv (cxOf CX0 P w K mg base N qual (defScope st) f cdv B outer s H E) [] (start N vs) H s1 := inv_start S hr'.hd e1 hl r y
  refine wpAny_mono (ht.nox.run [] s1 (start N vs) H _ I hq) (fun fl s' z => ?_) fun _ _ z => z
  have fin : ∀ {σ' : St} {H' : Hp} {v : V} {u : Value}, Inv (cxOf CX0 P w K mg base N qual (defScope st) f cdv B outer s H E) [] σ' H' s' → RelV v u → Q v H' → CE outer P w H s Q u s' :=
    fun J rv q => ⟨_, _, J.os, J.bare, J.base, J.hok, rv, q⟩
  match fl, z with
  | .ret u, ⟨v, σ', H', J, rv, q⟩ => exact fin J rv q
  | .next, ⟨σ', H', J, q⟩ => exact fin (v := V.non) (u := Value.none) J rfl q
  | .brk, ⟨_, _, _, q⟩ => exact q.elim
  | .cont, ⟨_, _, _, q⟩ => exact q.elim
end
end L2
set_option Elab.async false
set_option linter.all false
set_option maxRecDepth 100000
set_option maxHeartbeats 4000000
namespace L2
open PySem PySem.Spec PyProof.Rows
/-- a def's promise where nothing is being shown around it -/
structure FnG (P : Program) (w : World) (K : PySem.W.Frag) (mg : Str → Option Value) (base : Heap) (k : Nat) (f : Addr) (fd : FuncData) (ps : List Str) (sp : Sp) : Prop where
  len : ∀ vs H Q E, sp vs H Q E → vs.length = ps.length
  go : ∀ (A : Around) (outer : List Env) (s : Shared) (H : Hp) (args : Args) (us : List Value) (vs : List V) (Q : VK) (E : XK), A.guards = some [] → Room k A → Env0 P w K mg base A outer s H → BindsTo s fd args (ps.zip us) → Vals vs us → sp vs H Q E →
    codeAny (model P w) A (.call (.ref f) args) (CR CX0 outer P w H s Q E) s
theorem deeper_g {A : Around} {e : Env} (h : A.guards = some []) : (A.deeper e).guards = some [] := by
  first | exact h | (simp [Around.deeper, h]) | (unfold Around.deeper; simp [Around.under, h])
section
variable {P : Program} {w : World} {K : PySem.W.Frag} {mg : Str → Option Value} {base : Heap}
theorem Fun.okN {x qual : Str} {st : Stmt} {f : Addr} {fd : FuncData} {N ps : List Str} {k : Nat} {sp : Sp} (F : Fun K x qual st f fd) (S : FnScope N ps (defScope st)) (len : ∀ vs H Q E, sp vs H Q E → vs.length = ps.length)
    (body : ∀ (cdv : Value) (A : Around) (outer : List Env) (s : Shared) (H : Hp) (vs : List V) (Q : VK) (E : XK), (A.deeper (envOfC qual (defScope st) s.heap.objs.size f cdv)).guards = some [] → Room k (A.deeper (envOfC qual (defScope st) s.heap.objs.size f cdv)) → sp vs H Q E →
      ∃ t, PSs (cxOf CX0 P w K mg base N qual (defScope st) f cdv A outer s H E).nox (defBody st) t ∧ t { nx := fun _ H' => Q .non H', rt := Q } (start N vs) H) : FnG P w K mg base (k + 1) f fd ps sp := by
  obtain ⟨oc, od, kV, doc, pm, an, cdv, ct, osl, rfl, lk, hcd⟩ := F.ex
  refine ⟨len, fun A outer s H args us vs Q E hg hr e1 hb r hsp => ?_⟩
  have hl := len _ _ _ _ hsp
  have up : ∀ b o, base.get? b = some o → s.heap.get? b = some o := fun b o z => (e1.bs b o z).1
  have KX : K.In s.heap := e1.mod.kin.keeps up
  have lim : s.heap.NoLimit := e1.mod.nolimit.keeps up
  have kinds : ∀ y ∈ ps.zip us, (defScope st).names.lookup y.1 = some .local ∨ ((defScope st).names.lookup y.1 = some .cell ∧ ((cellsFrom (s.heap.objs.size + 1) (defScope st).names []).lookup y.1).isSome = true) := fun y hy => by
    rcases S.par y.1 (List.of_mem_zip hy).1 with z | z
    · exact .inl z
    · exact .inr ⟨z, PySem.W.cellsFrom_some _ _ _ (.inl z)⟩
  refine codeAny_call_function hr.depth (KX _ _ lk) rfl S.co S.gen rfl (PySem.W.codeRec_of KX hcd) (hb _ _ _ _ ?_)
  refine wpAny_newFunctionEnv_cells S.kind kinds fun env he s1 y => ?_
  subst he
  refine ⟨lim.keeps y.toInCall.keep, codeAny_func ?_⟩
  obtain ⟨t, ht, hq⟩ := body cdv A outer s H vs Q E (deeper_g hg) (hr.deeper _) hsp
  have I : Inv (cxOf CX0 P w K mg base N qual (defScope st) f cdv A outer s H E) [] (start N vs) H s1 := inv_start S hr.hd e1 hl r y
  refine wpAny_mono (ht.nox.run [] s1 (start N vs) H _ I hq) (fun fl s' z => ?_) fun _ _ z => z
  have fin : ∀ {σ' : St} {H' : Hp} {v : V} {u : Value}, Inv (cxOf CX0 P w K mg base N qual (defScope st) f cdv A outer s H E) [] σ' H' s' → RelV v u → Q v H' → CE outer P w H s Q u s' :=
    fun J rv q => ⟨_, _, J.os, J.bare, J.base, J.hok, rv, q⟩
  match fl, z with
  | .ret u, ⟨v, σ', H', J, rv, q⟩ => exact fin J rv q
  | .next, ⟨σ', H', J, q⟩ => exact fin (v := V.non) (u := Value.none) J rfl q
  | .brk, ⟨_, _, _, q⟩ => exact q.elim
  | .cont, ⟨_, _, _, q⟩ => exact q.elim
end
section
variable {X : Cx} {k : Nat} {f : Addr} {fd : FuncData} {ps : List Str} {sp : Sp} {x : Str} {p pos : Pos} {e : Expr} {es : List Expr} {t : TA}
theorem pe_callN (F : FnG X.prog X.w X.K X.mg X.base k f fd ps sp) (hN : X.A.guards = some []) (hr : Room k X.A) (hg : Gl X x) (hm : X.mg x = some (.ref f)) (hk : PySem.W.keepIn X.K (.ref f) = true) (hb : Binds X.K fd ps []) (ha : PA X (e :: es) t)
    (nd : (x == ("__debug__" : Str)) = false := by decide) (he : starEach (e :: es) X.env = (false, eval e X.env) :: starEach es X.env := by rfl) (np : (backTo pos (starEach es X.env)).any (·.1) = false := by rfl) :
    PE X (.Call (.Name x p) (e :: es) [] pos) (tCall sp [] E0 t) := by
  refine ⟨fun pins s σ H Q I h => wpAny_Call_Name_kw (ld_glob I hg hm ?_ nd)⟩
  refine PySem.W.callWith_K (h₀ := X.base) I.ok.mod.kin hk (thn (ha.run pos pins s σ H _ I h) fun us s1 hu => ?_) he np
  obtain ⟨vs, H1, I1, r1, q⟩ := hu
  refine ⟨I1.kIn, ?_⟩
  rw [List.append_nil] at q
  have hl : (us ++ []).length = ps.length := by
    rw [List.append_nil, ← r1.length]
    exact F.len _ _ _ _ q
  have bnd := hb s1 us I1.kIn hl
  rw [List.append_nil] at bnd
  refine wpAny_call (codeAny_mono (F.go X.A X.stack s1 H1 ⟨us, []⟩ us vs Q E0 hN hr I1.env0 bnd r1 q) fun r s' z => ?_)
  match r, z with
  | .error _, z => exact z.elim
  | .ok (.ret u), z => exact I1.after z
  | .ok .next, z => exact z.elim
  | .ok .brk, z => exact z.elim
  | .ok .cont, z => exact z.elim
end
end L2
set_option Elab.async false
set_option linter.all false
set_option maxRecDepth 100000
set_option maxHeartbeats 4000000
namespace L2
open PySem PySem.Spec PyProof.Rows
theorem law_callN {P : Program} {w : World} {K : PySem.W.Frag} {mg mb : Str → Option Value} {k : Nat} {fa a : Addr} {fd : FuncData} {x : Str} {sp : Sp} {z : Shared} {vs : List Value} {ns : List Int}
    (KX : K.In z.heap) (h1 : z.heap.Ns mainGlobals mg) (h2 : z.heap.Ns builtinsNs mb) (h3 : ∀ x : Str, x ≠ "__name__" → mb x = bootBuiltins x) (h4 : z.heap.NoLimit) (h5 : z.gens = #[])
    (ha : z.heap.get? a = some { cls := .type "list", data := .seq vs.toArray }) (hi : IntsAre vs ns) (hl : ns.length ≤ sizeLine) (hr : Room k callerA)
    (F : ∀ base : Heap, K.In base → base.Ns mainGlobals mg → FnG P w K mg base k fa fd [x] sp) (bnd : ∀ (s : Shared) (u : Value), BindsTo s fd ⟨[u], []⟩ [(x, u)])
    (hsp : ∀ H : Hp, Only H → SqL K H a (ns.map V.int) → sp [.ref a] H (fun v _ => v = .bl true) fun _ _ _ => False) :
    codeAny (model P w) callerA (.call (.ref fa) ⟨[.ref a], []⟩) (fun r s' => r = .ok (.ret (.bool true)) ∧ OldK z.heap s'.heap ∧ s'.os = z.os ∧ AllBare s'.gens) z := by
  have rv := vals_ints hi
  have lv := hi.length
  have main : ∀ H : Hp, Only H → SqL K H a (ns.map V.int) → HOk P w H z.heap → (∀ b, H b ≠ none → b = a) → (H a ≠ none → K.lookup a = none) →
      codeAny (model P w) callerA (.call (.ref fa) ⟨[.ref a], []⟩) (fun r s' => r = .ok (.ret (.bool true)) ∧ OldK z.heap s'.heap ∧ s'.os = z.os ∧ AllBare s'.gens) z := by
    intro H only hS hok alone apart
    have stay : ∀ {b : Addr} {o : Obj}, z.heap.get? b = some o → H b = none → (hidT z.heap H).get? b = some o := fun e n => hidT_get e n
    have untracked : ∀ {b : Addr} {o : Obj} {es : Array DictEntry} {ep : Nat}, z.heap.get? b = some o → o.data = .dict es ep → H b = none := fun {b o es ep} e d => by
      by_cases q : H b = none
      · exact q
      · obtain rfl := alone b q
        rw [ha] at e
        cases e
        cases (show Data.seq vs.toArray _ = Data.dict es ep from d)
    have names : ∀ {b : Addr} {m : Str → Option Value}, z.heap.Ns b m → (hidT z.heap H).Ns b m := fun ⟨o, es, ep, e, d, r⟩ => ⟨o, es, ep, stay e (untracked e d), d, r⟩
    have KB : K.In (hidT z.heap H) := fun b o e => stay (KX b o e) (by
      by_cases q : H b = none
      · exact q
      · obtain rfl := alone b q
        rw [apart q] at e
        cases e)
    have md : Mod K mg (hidT z.heap H) := by
      obtain ⟨mc, n1, n2⟩ := h4
      exact ⟨KB, names h1, ⟨mb, names h2, h3⟩, ⟨mc, names n1, n2⟩⟩
    have e0 : Env0 P w K mg (hidT z.heap H) callerA [] z H :=
      ⟨rfl, md, fun b o e => of_hidT e, Nat.le_of_eq (hidT_size _ _), trivial, fun b hb => absurd (show b ∈ ([] : List Addr) from hb) List.not_mem_nil, hok, .of_eq h5⟩
    refine codeAny_mono ((F _ KB (names h1)).go callerA [] z H ⟨[.ref a], []⟩ [.ref a] [.ref a] _ _ rfl hr e0 (bnd z (.ref a)) (.cons rfl .nil) (hsp H only hS)) fun r s' y => ?_
    match r, y with
    | .error _, y => exact y.elim
    | .ok .next, y => exact y.elim
    | .ok .brk, y => exact y.elim
    | .ok .cont, y => exact y.elim
    | .ok (.ret u), ⟨v, H', os, bare, un, hok', rr, q⟩ =>
      obtain rfl : v = .bl true := q
      obtain rfl : u = Value.bool true := rr
      refine ⟨rfl, OldK.of_keep fun b o e => ?_, os, bare⟩
      rcases only b with n | ⟨ob, xs, n⟩
      · exact un.keep b o e n (fun q => absurd (show b ∈ ([] : List Addr) from q) List.not_mem_nil) List.not_mem_nil
      · have n2 := un.frzs b ob _ n
        obtain ⟨e1, _⟩ := hok b _ n
        obtain ⟨e2, _⟩ := hok' b _ n2
        rw [e] at e1
        cases e1
        exact e2
  cases hk : K.lookup a with
  | some o =>
    have e := KX a o hk
    rw [ha] at e
    cases e
    refine main (fun _ => none) (fun _ => .inl rfl) (.inr ⟨_, vs.toArray, _, hk, rfl, rfl, rfl, ?_, ?_⟩) (fun b u q => nomatch (show (none : Option HO) = some u from q)) (fun b q => absurd rfl q) (fun q => absurd rfl q)
    · rw [List.size_toArray, lv]
      exact hl
    · simpa using rv
  | none =>
    have here : ∀ b, (fun b => if b = a then some (HO.frz { cls := .type "list", data := .seq vs.toArray } (.lst (ns.map V.int))) else none) b ≠ none → b = a := fun b q => by
      by_cases hb : b = a
      · exact hb
      · exact absurd (if_neg hb) q
    refine main (fun b => if b = a then some (.frz { cls := .type "list", data := .seq vs.toArray } (.lst (ns.map V.int))) else none) (fun b => ?_) (.inl (.inr ⟨{ cls := .type "list", data := .seq vs.toArray }, if_pos rfl⟩)) (fun b u q => ?_) here (fun _ => hk)
    · by_cases hb : b = a
      · exact .inr ⟨_, _, if_pos hb⟩
      · exact .inl (if_neg hb)
    · by_cases hb : b = a
      · subst hb
        have q2 := (if_pos rfl).symm.trans q
        cases q2
        exact ⟨ha, by rw [List.length_map]; exact hl, vs, _, rv, ha⟩
      · cases (if_neg hb).symm.trans q
theorem walk_ofN {l : PySem.W.OpenLaw} {n k : Nat} {q : Program} {loose : List Str} {XP : (Str → Option Value) → Heap → Prop} {YP : World → Heap → Prop} {d : DefRec} {K : Params → PySem.W.Frag} {sp : World → Sp} {x : Str}
    (hn : l.most = some n) (hz : n ≤ sizeLine) (nd : d.params.defaults = []) (hr : Room k callerA) (hY : ∀ (w : World) (h : Heap), YP w h → (K w.params).In h)
    (F : ∀ (w : World) (mg : Str → Option Value) (fa : Addr) (h : Heap), (K w.params).In h → h.Ns mainGlobals mg → mg d.name = some (.ref fa) →
      ∃ fd : FuncData, (∀ (s : Shared) (u : Value), BindsTo s fd ⟨[u], []⟩ [(x, u)]) ∧ ∀ base : Heap, (K w.params).In base → base.Ns mainGlobals mg → FnG l.prog w (K w.params) mg base k fa fd [x] (sp w))
    (hsp : ∀ (w : World) (H : Hp) (a : Addr) (ns : List Int), ns.length ≤ n → Only H → SqL (K w.params) H a (ns.map V.int) → sp w [.ref a] H (fun v _ => v = .bl true) fun _ _ _ => False) :
    PySem.W.WalkO q loose XP YP l.row.toRowW d [] (fun f vs => PySem.call f vs) := by
  refine Att.attach_call hn nd fun w t0 t1 mg mb fa o pm cd doc a vs ns G Y ho hd hcd hmg hobj hints hlen hg => ?_
  have KX := hY w _ Y
  obtain ⟨fd, hb, hF⟩ := F w mg fa _ KX G.T.g hmg
  exact law_callN KX G.T.g G.T.b G.T.builtins G.T.nolimit hg hobj hints (Nat.le_trans hlen hz) hr hF hb fun H hO hS => hsp w H a ns hlen hO hS
end L2
set_option Elab.async false
set_option linter.all false
set_option maxRecDepth 100000
set_option maxHeartbeats 4000000
namespace L2
open PySem PySem.Spec PyProof.Rows
section
variable {X : Cx}
/-- d.update(e): new keys all -/
def rUpdate : V → List V → Hp → VK → Prop := fun x xs H Q => ∃ (a b : Addr) (kvs more : List (Key × V)), x = .ref a ∧ xs = [.ref b] ∧ a ≠ b ∧ H a = some (.dK kvs) ∧ H b = some (.dK more) ∧ kvs.length + more.length ≤ sizeLine ∧
  ((kvs ++ more).map (·.1)).Nodup ∧ Q .non (upd H a (.dK (kvs ++ more)))
theorem kv_keys {κ : Type} : ∀ {xs : List (κ × V)} {ys : List (κ × Value)}, KV xs ys → xs.map (·.1) = ys.map (·.1) := fun {xs ys} h => by
  unfold KV at h
  induction h with
  | nil => rfl
  | cons h _ ih => rw [List.map_cons, List.map_cons, h.1, ih]
theorem kv_app {κ : Type} {xs zs : List (κ × V)} {ys ws : List (κ × Value)} (h : KV xs ys) (k : KV zs ws) : KV (xs ++ zs) (ys ++ ws) := by
  unfold KV at h k ⊢
  induction h with
  | nil => exact k
  | cons h _ ih => exact .cons h ih
theorem mt_update : MtR X "dict.update" rUpdate := by
  intro pins s σ H x xs v us Q I rx rxs h
  obtain ⟨a, b, kvs, more, rfl, rfl, ne, ea, eb, sz, nd, q⟩ := h
  obtain rfl : v = Value.ref a := rx
  obtain ⟨u, rfl, ru⟩ := vals1 rxs
  obtain rfl : u = Value.ref b := ru
  obtain ⟨z1, d1, vs, r1, m1⟩ := dk_of I.hok ea
  obtain ⟨z2, d2, ws, r2, m2⟩ := dk_of I.hok eb
  have l1 : kvs.length = vs.length := Paired.length r1
  have l2 : more.length = ws.length := Paired.length r2
  refine call_meetsIn PySem.F.slot_dict_update m1.typeIs PySem.F.entry_dict_update (PySem.F.args_dict_update_2 _ _) (meets_dict_update (mixKind X.prog X.w) a b ne d2) ⟨vs, ws, m1, m2, by omega, fun h' n1 n2 sb => ?_⟩
  have em : merged vs ws = vs ++ ws := merged_append_of_fresh vs ws (by rw [List.map_append, ← kv_keys r1, ← kv_keys r2, ← List.map_append]; exact nd)
  rw [em] at n1
  have he : ∃ o, h'.get? a = some o := by
    obtain ⟨o, _, _, ho, _⟩ := n1
    exact ⟨o, ho⟩
  exact ⟨.non, _, d_write (t' := s.toks) I (by rw [ea]; exact True.intro) sb he (dk_new (by rw [List.length_append]; exact sz) d1 (kv_app r1 r2) n1), rfl, q⟩
/-- repr(x), nothing being shown around -/
def rRepr (K : PySem.W.Frag) : List V → Hp → VK → Prop := fun xs H Q => ∃ (v : V) (d : PyData), xs = [v] ∧ Dp K H v d ∧ SeqAt.shaped d = true ∧ d.showable = true ∧ d.hasDict = false ∧ d.shown.length ≤ sizeLine ∧ (∀ i, d = .int i → i.natAbs.log2 < 1920) ∧ Q (.str d.shown) H
theorem call_reprN (hN : X.A.guards = some []) {k : Nat} (hr : Room k X.A) : CallR X (.builtin "repr") (rRepr X.K) := by
  intro pins s σ H xs us Q I r h
  obtain ⟨v, d, rfl, hd, sh, hs, hh, hz, hi, q⟩ := h
  obtain ⟨u, rfl, ru⟩ := vals1 r
  have hu := hr.un
  have dp : d.depth ≤ 64 := by
    have e : (d.canLay0 && decide (d.depth ≤ 64)) = true := sh
    rw [Bool.and_eq_true] at e
    exact of_decide_eq_true e.2
  cases hd with
  | non =>
    obtain rfl : u = Value.none := ru
    exact PySem.P.repr_of_none ⟨.str _, H, I.tok _, ⟨_, rfl⟩, q⟩
  | bl b =>
    obtain rfl : u = Value.bool b := ru
    refine PySem.P.repr_of_bool ⟨.str _, H, I.tok _, ⟨_, rfl⟩, ?_⟩
    cases b <;> exact q
  | int i =>
    obtain ⟨t, rfl⟩ := ru
    exact PySem.P.repr_of_int (hi i rfl) ⟨.str _, H, I.tok _, ⟨_, rfl⟩, q⟩
  | str x =>
    obtain ⟨t, rfl⟩ := ru
    exact PySem.P.repr_of_str ⟨.str _, H, I.tok _, ⟨_, rfl⟩, q⟩ hz
  | @lst a xs ds h1 h2 =>
    obtain ⟨as, rd⟩ := Dp.reads I (.list ds) (.ref a) u (.lst h1 h2) ru
    obtain rfl : u = Value.ref a := ru
    exact repr_of_reads' rd hs (fun z => by rw [hh] at z; cases z) hN (by omega) (fun _ _ e => e) (fun h' u tk k => ⟨.str _, H, I.kept (t' := tk) k, ⟨u, rfl⟩, q⟩) hz
  | @tup a xs ds h1 h2 =>
    obtain ⟨as, rd⟩ := Dp.reads I (.tuple ds) (.ref a) u (.tup h1 h2) ru
    obtain rfl : u = Value.ref a := ru
    exact repr_of_reads' rd hs (fun z => by rw [hh] at z; cases z) hN (by omega) (fun _ _ e => e) (fun h' u tk k => ⟨.str _, H, I.kept (t' := tk) k, ⟨u, rfl⟩, q⟩) hz
end
end L2
set_option Elab.async false
set_option linter.all false
set_option maxRecDepth 100000
set_option maxHeartbeats 4000000
namespace L2
open PySem PySem.Spec PyProof.Rows
/-- the items of a tuple, drawn one by one -/
theorem draws_tup {prog : Program} {w : World} {A : Around} (hh : A.handled = none) (it l : Addr) (ne : l ≠ it) (items : Array Value) :
    Draws prog w A it [it, l] items.size (fun i v => items[i]? = some v) (fun i h => h.IsTupleIter it l i ∧ h.IsTuple l items) where
  live := fun _ _ st => by
    obtain ⟨⟨o, ho, _⟩, _⟩ := st
    exact ⟨o, ho⟩
  frame := fun i h h' st k => by
    obtain ⟨h1, o, ho, r⟩ := st
    exact ⟨h1.at fun o q => k it (by simp) o q, o, k l (by simp) o ho, r⟩
  item := fun i s Q E hi st hQ => by
    obtain ⟨h1, h2⟩ := st
    have hx : items[i]? = some items[i] := by simp [hi]
    refine RZ.nextOf_tuple_item h1 h2 hx fun h' n1 sb => hQ _ h' s.toks hx ⟨n1, ?_⟩ sb
    obtain ⟨o, ho, r⟩ := h2
    exact ⟨o, (sb.2 l ne).trans ho, r⟩
  done := fun s Q E st hE => by
    obtain ⟨h1, h2⟩ := st
    exact RZ.nextOf_tuple_end hh h1 h2 (by simp) hE
/-- zip(text, tuple): the text's signs (below 128) and the tuple's items in new pairs -/
def ItzS (K : PySem.W.Frag) (z : Str) (b : Addr) : It :=
  ⟨fun i H => i < z.cps.size ∧ ∃ (ys : List V) (y : V), SqT K H b ys ∧ ys[i]? = some y,
    fun i H v H' => ∃ (T : Addr) (c : Nat) (y : V), v = .ref T ∧ H T = none ∧ H' = upd H T (.tup [.str ⟨#[c]⟩, y]) ∧ z.cps[i]? = some c ∧ ∀ ys, SqT K H b ys → ys[i]? = some y,
    fun i H => ∃ ys : List V, SqT K H b ys ∧ i ≤ z.cps.size ∧ i ≤ ys.length ∧ (i = z.cps.size ∨ i = ys.length)⟩
theorem turn_zipS {P : Program} {w : World} {K : PySem.W.Frag} {elts : List Expr} {kk : Nat} {tpos : Pos} {x : Str} {t : Tok} {b z TI TO i1 i2 : Addr} (D : ZipApart z TI TO i1 i2 b b) :
    Turn P w K (.Tuple elts kk tpos) (ItzS K x b) [z, TI, TO, i1, i2] z (fun i h => IsZip h z TI TO .none ∧ IsTupOf2 h TI (.ref i1) (.ref i2) ∧ (∃ u v, IsTupOf2 h TO u v) ∧ h.IsStrIter i1 "str_ascii_iterator" x t i ∧ h.IsTupleIter i2 b i) := by
  have sep : ZipSep2 z TI TO i1 i2 [i1] [i2, b] :=
    { TIz := D.TIz, TOz := D.TOz, TITO := D.TITO, TIi1 := D.TIi1, mem1 := by simp, zf1 := by simpa using D.i1z.symm, Tf1 := by simpa using D.TOi1, TIi2 := D.TIi2, mem2 := by simp
      zf2 := by simp only [List.mem_cons, List.not_mem_nil, or_false, not_or]; exact ⟨D.i2z.symm, D.l1z.symm⟩
      Tf2 := by simp only [List.mem_cons, List.not_mem_nil, or_false, not_or]; exact ⟨D.TOi2, D.l1TO.symm⟩
      sep1_2 := by simp only [List.mem_cons, List.not_mem_nil, or_false, not_or]; exact ⟨D.i12, D.l1i1.symm⟩
      sep2_1 := by simpa using D.i12.symm }
  refine ⟨by simp, fun i h st c hc => ?_, fun i h h' st k => ?_, ?_, ?_, fun A i s Q E st h => wpAny_pyIter_zip st.1 h⟩
  · obtain ⟨hz, hI, ⟨u, v, hO⟩, ⟨o1, e1, _, d1⟩, ⟨o2, e2, _, d2⟩⟩ := st
    simp only [List.mem_cons, List.not_mem_nil, or_false] at hc
    rcases hc with rfl | rfl | rfl | rfl | rfl
    · exact ⟨_, hz, fun v q => nomatch q⟩
    · exact ⟨_, hI, fun v q => nomatch q⟩
    · exact ⟨_, hO, fun v q => nomatch q⟩
    · exact ⟨o1, e1, fun v q => by rw [d1] at q; cases q⟩
    · exact ⟨o2, e2, fun v q => by rw [d2] at q; cases q⟩
  · obtain ⟨hz, hI, ⟨u, v, hO⟩, ⟨o1, e1, r1⟩, h2⟩ := st
    exact ⟨k z (by simp) _ hz, k TI (by simp) _ hI, ⟨u, v, k TO (by simp) _ hO⟩, ⟨o1, k i1 (by simp) o1 e1, r1⟩, h2.at fun o q => k i2 (by simp) o q⟩
  · intro X hP hw hK hc i pins s σ H E I hf st hg
    subst hP hw hK
    obtain ⟨hz, hI, ⟨u0, v0, hO⟩, h1, h2⟩ := st
    obtain ⟨hi, ys, y, hq, hy⟩ := hg
    obtain ⟨its, rv, p, _⟩ := I.tuple hq
    obtain ⟨u, hu, ru⟩ := rv.get hy
    have hi2 : i < its.toArray.size := by
      rw [List.size_toArray]
      exact (List.getElem?_eq_some_iff.mp hu).1
    have hzl : z < s.heap.objs.size := Heap.lt_size hz
    have hh := I.ok.hd hc
    refine wpAny_pyNext_zipD2_item sep (Draws.strAscii (A := X.A.in1) hh i1 x t) (draws_tup (A := X.A.in1) hh i2 b D.l1i2 its.toArray) hz hI hO h1 ⟨h2, p⟩ hi hi2 fun x1 x2 h' tk y1 y2 z' TO' n1 n2 hT hsz hk => ?_
    obtain ⟨c, tc, ec, rfl⟩ := y1
    obtain rfl : u = x2 := by
      have e2 : its[i]? = some x2 := by simpa using y2
      exact Option.some.inj (hu.symm.trans e2)
    refine ⟨_, rfl, wpAny_letOwnedTupleGo_zip (s := { s with heap := h', toks := tk }) z' fun h'' z'' sb => ?_⟩
    have hT2 : h''.get? s.heap.objs.size = some { cls := .type "tuple", data := .seq #[.str ⟨#[c]⟩ tc, u] } := (sb.2 _ (Nat.ne_of_gt hzl)).trans hT
    have new : ObjOk X.prog X.w (upd H s.heap.objs.size (.tup [.str ⟨#[c]⟩, y])) h'' s.heap.objs.size (.tup [.str ⟨#[c]⟩, y]) :=
      ⟨by show 2 ≤ sizeLine; decide, [.str ⟨#[c]⟩ tc, u], .cons ⟨tc, rfl⟩ (.cons ru .nil), ⟨_, hT2, rfl, _, rfl⟩⟩
    have stay : ∀ d o, d ∉ [z, TI, TO, i1, i2] → s.heap.get? d = some o → h''.get? d = some o := fun d o hd q =>
      (sb.2 d (fun e => hd (by simp [e]))).trans (hk d o (fun e => hd (by simp [e])) (fun e => hd (by simp [e])) (fun e => hd (by simp [e])) (fun e => hd (by simp [e])) q)
    have I1 : Inv X pins σ (upd H s.heap.objs.size (.tup [.str ⟨#[c]⟩, y])) { s with heap := h'', toks := tk } := I.turnedNew (t' := tk) (ch := [z, TI, TO, i1, i2]) stay hf (Nat.le_refl _) new
    refine ⟨.ref s.heap.objs.size, _, I1, rfl, ⟨_, c, y, rfl, I.hok.fresh (Nat.le_refl _), rfl, ec, fun l hl => by rw [I.tuple_inj hl hq]; exact hy⟩, ⟨z'', (sb.2 _ D.TIz).trans (hk _ _ D.TIz D.TITO D.TIi1 D.TIi2 hI), ⟨_, _, (sb.2 _ D.TOz).trans TO'⟩, ?_, ?_⟩, fun d hd => ?_⟩
    · obtain ⟨o, ho, r⟩ := n1
      exact ⟨o, (sb.2 _ D.i1z).trans ho, r⟩
    · exact n2.1.at fun o q => (sb.2 _ D.i2z).trans q
    · have lt : d < s.heap.objs.size := by
        simp only [List.mem_cons, List.not_mem_nil, or_false] at hd
        rcases hd with rfl | rfl | rfl | rfl | rfl
        · exact hzl
        · exact Heap.lt_size hI
        · exact Heap.lt_size hO
        · obtain ⟨_, e1, _⟩ := h1
          exact Heap.lt_size e1
        · obtain ⟨_, e2, _⟩ := h2
          exact Heap.lt_size e2
      rw [upd_ne (Nat.ne_of_lt lt)]
      exact (hf d hd).1
  · intro X hP hw hK hc i pins s σ H E I hf st hg
    subst hP hw hK
    obtain ⟨hz, hI, ⟨u0, v0, hO⟩, h1, h2⟩ := st
    obtain ⟨ys, hq, le1, le2, fin⟩ := hg
    obtain ⟨its, rv, p, _⟩ := I.tuple hq
    have lv := rv.length
    have hh := I.ok.hd hc
    refine wpAny_pyNext_zipD2_end sep (Draws.strAscii (A := X.A.in1) hh i1 x t) (draws_tup (A := X.A.in1) hh i2 b D.l1i2 its.toArray) hz hI hO h1 ⟨h2, p⟩ le1 (by rw [List.size_toArray]; omega) (fin.imp id fun e => by rw [List.size_toArray, ← lv]; exact e) fun h' tk hk => ?_
    exact ⟨rfl, I.turnedL (t' := tk) (ch := [z, TI, TO, i1, i2]) (fun d o hd q => hk d o (fun e => hd (by simp [e])) (fun e => hd (by simp [e])) (fun e => hd (by simp [e])) (fun e => hd (by simp [e])) q) hf⟩
/-- the five objects that zip(text, tuple) lays -/
abbrev zs1 (h : Heap) (x : Str) (t : Tok) : Heap := h.push { cls := .type "str_ascii_iterator", data := .fields #[.str x t, .int 0 0] }
abbrev zs2 (h : Heap) (x : Str) (t : Tok) (l : Addr) : Heap := (zs1 h x t).push { cls := .type "tuple_iterator", data := .fields #[.ref l, .int 0 0] }
abbrev zs3 (h : Heap) (x : Str) (t : Tok) (l : Addr) : Heap := (zs2 h x t l).push { cls := .type "tuple", data := .seq #[.ref h.objs.size, .ref (zs1 h x t).objs.size] }
abbrev zs4 (h : Heap) (x : Str) (t : Tok) (l : Addr) : Heap := (zs3 h x t l).push { cls := .type "tuple", data := .seq #[.none, .none] }
abbrev zs5 (h : Heap) (x : Str) (t : Tok) (l : Addr) : Heap := (zs4 h x t l).push { cls := .type "zip", data := .fields #[.none, .bool false, .bool false, .ref (zs2 h x t l).objs.size, .ref (zs3 h x t l).objs.size] }
theorem zipS_new (x : Str) (t : Tok) (ha : x.cps.all (· < 128) = true) (l : Addr) (ys : Array Value) :
    Meets (Builtin.«zip.__new__» ⟨[.type "zip", .str x t, .ref l], []⟩) (fun _ R s => s.heap.IsTuple l ys ∧ R (.ok (.ret (.ref (zs4 s.heap x t l).objs.size))) { s with heap := zs5 s.heap x t l }) :=
  .of_wp fun prog w A R s h => by
    obtain ⟨hp, g, d, tk, os⟩ := s
    obtain ⟨hl, h⟩ := h
    have hsub := PySem.sub_zip
    have hL : Heap.IsTuple (Shared.heap ⟨zs1 hp x t, g, d, tk, os⟩) l ys := Heap.IsTuple.push hl _
    wp_walk using wpAny_pyIter_ascii ha, wpAny_pyIter_tuple hL
    exact ⟨_, rfl, h⟩
theorem call_zipS {prog : Program} {w : World} {A : Around} {E : Value → Shared → Prop} {s : Shared} {x : Str} {t : Tok} (ha : x.cps.all (· < 128) = true) {l : Addr} {ys : Array Value} {Q : Value → Shared → Prop} (hl : s.heap.IsTuple l ys)
    (h : ∀ h', IsZip h' (s.heap.objs.size + 4) (s.heap.objs.size + 2) (s.heap.objs.size + 3) .none → IsTupOf2 h' (s.heap.objs.size + 2) (.ref s.heap.objs.size) (.ref (s.heap.objs.size + 1)) →
      IsTupOf2 h' (s.heap.objs.size + 3) .none .none → h'.IsStrIter s.heap.objs.size "str_ascii_iterator" x t 0 → h'.IsTupleIter (s.heap.objs.size + 1) l 0 →
      (∀ c o, s.heap.get? c = some o → h'.get? c = some o) → Q (.ref (s.heap.objs.size + 4)) { s with heap := h' }) :
    wpAny (model prog w) A (call (.type "zip") [.str x t, .ref l]) Q E s := by
  refine callType_new F.called_zip (by decide) (F.typeCall_zip_2 _ _) (F.newCall_zip_2 _ _) (fun obj => F.args_object_init_3 obj _ _) F.entry_zip_new (zipS_new x t ha l ys) ⟨hl, ?_⟩
  have n1 : (zs1 s.heap x t).objs.size = s.heap.objs.size + 1 := Heap.size_push ..
  have n2 : (zs2 s.heap x t l).objs.size = s.heap.objs.size + 2 := by rw [Heap.size_push, n1]
  have n3 : (zs3 s.heap x t l).objs.size = s.heap.objs.size + 3 := by rw [Heap.size_push, n2]
  have n4 : (zs4 s.heap x t l).objs.size = s.heap.objs.size + 4 := by rw [Heap.size_push, n3]
  have p5 : (zs5 s.heap x t l).get? (zs4 s.heap x t l).objs.size = some _ := Heap.get?_push_size _ rfl
  have p4 : (zs5 s.heap x t l).get? (zs3 s.heap x t l).objs.size = some _ := Heap.get?_push_of_some _ (Heap.get?_push_size _ rfl)
  have p3 : (zs5 s.heap x t l).get? (zs2 s.heap x t l).objs.size = some _ := Heap.get?_push_of_some _ (Heap.get?_push_of_some _ (Heap.get?_push_size _ rfl))
  have p2 : (zs5 s.heap x t l).get? (zs1 s.heap x t).objs.size = some _ := Heap.get?_push_of_some _ (Heap.get?_push_of_some _ (Heap.get?_push_of_some _ (Heap.get?_push_size _ rfl)))
  have p1 : (zs5 s.heap x t l).get? s.heap.objs.size = some _ := Heap.get?_push_of_some _ (Heap.get?_push_of_some _ (Heap.get?_push_of_some _ (Heap.get?_push_of_some _ (Heap.get?_push_size _ rfl))))
  show _ ∧ _
  rw [n2, n3, n4] at p5
  rw [n1, n2] at p3
  rw [n3] at p4
  rw [n1] at p2
  rw [n4]
  refine ⟨⟨_, p5, rfl⟩, h _ p5 p3 p4 ⟨_, p1, rfl, rfl⟩ ⟨_, p2, rfl, rfl⟩ fun c o e => ?_⟩
  exact Heap.get?_push_of_some _ (Heap.get?_push_of_some _ (Heap.get?_push_of_some _ (Heap.get?_push_of_some _ (Heap.get?_push_of_some _ e))))
def iZipS (K : PySem.W.Frag) (ta : TA) : TI := fun σ H R => ta σ H fun vs H1 => ∃ (z : Str) (b : Addr) (ys : List V), vs = [.str z, .ref b] ∧ z.cps.all (· < 128) = true ∧ SqT K H1 b ys ∧ R (ItzS K z b) H1
theorem pi_zipS {X : Cx} {e e2 : Expr} {ta : TA} {p pos tpos : Pos} {elts : List Expr} {kk : Nat} (hg : Gl X "zip") (hm : X.mg "zip" = none) (ha : PA X [e, e2] ta)
    (hs : starEach [e, e2] X.env = (false, eval e X.env) :: starEach [e2] X.env := by rfl) (np : (backTo pos (starEach [e2] X.env)).any (·.1) = false := by rfl) :
    PI X (.Tuple elts kk tpos) (.Call (.Name "zip" p) [e, e2] [] pos) (iZipS X.K ta) := by
  refine ⟨fun pins s σ H R I h => Call_ (ld_blt I hg hm PyProof.Rows.boot_zip (PyProof.Rows.callWith_type1 (thn (ha.run pos pins s σ H _ I h) fun us s1 hu => ?_) hs np))⟩
  obtain ⟨vs, H1, I1, r1, z, b, ys, rfl, hz, hq, q⟩ := hu
  obtain ⟨u1, u2, rfl, ra, rb⟩ := vals2 r1
  obtain ⟨t, rfl⟩ := ra
  obtain rfl : u2 = Value.ref b := rb
  obtain ⟨its, rv, p1, _⟩ := I1.tuple hq
  obtain ⟨o1, ho1, _⟩ := id p1
  refine call_zipS hz (show s1.heap.IsTuple b its.toArray from p1) fun h' k1 k2 k3 k4 k5 kk => wpAny_pyIter_zip k1 ?_
  have I2 : Inv X pins σ H1 { s1 with heap := h' } := I1.kept (t' := s1.toks) kk
  have lt := Heap.lt_size ho1
  refine ⟨s1.heap.objs.size + 4, [s1.heap.objs.size + 4, s1.heap.objs.size + 2, s1.heap.objs.size + 3, s1.heap.objs.size, s1.heap.objs.size + 1], _, _, H1, rfl, I2, turn_zipS (x := z) (t := t) (PySem.W.ktu_apart s1.heap.objs.size b b lt lt), ⟨k1, k2, ⟨_, _, k3⟩, k4, k5⟩, fun c hc => ?_, q⟩
  have le : s1.heap.objs.size ≤ c := by
    simp only [List.mem_cons, List.not_mem_nil, or_false] at hc
    rcases hc with rfl | rfl | rfl | rfl | rfl
    · exact Nat.le_add_right _ _
    · exact Nat.le_add_right _ _
    · exact Nat.le_add_right _ _
    · exact Nat.le_refl _
    · exact Nat.le_add_right _ _
  exact I1.fpOk le (I1.hok.fresh le)
theorem walk_zipS {K : PySem.W.Frag} {z : Str} {b : Addr} {ys : List V} (hl : z.cps.size = ys.length) : Walk (ItzS K z b) ys.length (fun H => SqT K H b ys)
    (fun i H v H' => ∃ (T : Addr) (c : Nat) (y : V), v = .ref T ∧ H T = none ∧ H' = upd H T (.tup [.str ⟨#[c]⟩, y]) ∧ z.cps[i]? = some c ∧ ys[i]? = some y) := by
  refine ⟨fun i H hi q => ⟨by omega, ys, ys[i], q, List.getElem?_eq_getElem hi⟩, fun H q => ⟨ys, q, by omega, Nat.le_refl _, .inr rfl⟩, fun i H v H' _ q y => ?_⟩
  obtain ⟨T, c, w, h1, h2, h3, h4, h5⟩ := y
  exact ⟨T, c, w, h1, h2, h3, h4, h5 ys q⟩
end L2
set_option Elab.async false
set_option linter.all false
set_option maxRecDepth 100000
set_option maxHeartbeats 4000000
namespace K01
open PySem PySem.Spec PyProof.Rows L2
def topS (i : Nat) : Stmt := PySem.Challenge.pw_treethaw_k01_calls_or_not.main.body.getD i (.Pass ⟨0, 0, 0, 0⟩)
abbrev sDraw : Stmt := topS 12
abbrev sPick : Stmt := topS 14
theorem scDraw : FnScope ["_law_source", "_law_bound", "_law_found", "_law_once", "_law_twice"] ["_law_source", "_law_bound"] (defScope sDraw) :=
  ⟨rfl, rfl, rfl, by decide +kernel, rfl, by decide +kernel, by decide +kernel⟩
theorem scPick : FnScope ["_law_source", "_law_some"] ["_law_source", "_law_some"] (defScope sPick) :=
  ⟨rfl, rfl, rfl, by decide +kernel, rfl, by decide +kernel, by decide +kernel⟩
/-- a source of draws at p: what is left of a great number, a seed, a count -/
def Src (H : Hp) (p : Addr) (c : Int) : Prop := ∃ a b : Int, H p = some (.lst [.int a, .int b, .int c]) ∧ 0 ≤ a ∧ 0 ≤ b ∧ b < 2 ^ 63 ∧ 0 ≤ c
/-- a draw below m: at most n calls deep -/
def spDraw (n : Nat) : Sp := fun vs H Q _ => ∃ (p : Addr) (c m : Int), vs = [.ref p, .int m] ∧ Src H p c ∧ c + (n : Int) < 2 ^ 60 ∧ 0 < m ∧ 0 < n ∧ (m ≤ 10000000 ∨ (1 < n ∧ m ≤ 100000000000000)) ∧
  ∀ (r c' : Int) (xs : List V), 0 ≤ r → r < m → c ≤ c' → c' ≤ c + 2 → (m ≤ 10000000 → c' ≤ c + 1) → Src (upd H p (.lst xs)) p c' → Q (.int r) (upd H p (.lst xs))
theorem upd_twice {H : Hp} {p : Addr} {o o' : HO} : upd (upd H p o) p o' = upd H p o' := by
  funext b
  by_cases e : b = p
  · rw [e, upd_same, upd_same]
  · rw [upd_ne e, upd_ne e, upd_ne e]
section
variable {P : Program} {w : World} {K : PySem.W.Frag} {mg : Str → Option Value} {base : Heap} {f : Addr} {fd : FuncData}
theorem no_draw : FnOk P w K mg base CX0 0 f fd ["_law_source", "_law_bound"] (spDraw 0) :=
  ⟨fun vs H Q E ⟨_, _, _, _, _, _, _, h, _⟩ => absurd h (by decide), fun _ _ _ _ _ _ _ _ _ _ _ _ _ ⟨_, _, _, _, _, _, _, h, _⟩ => absurd h (by decide)⟩
theorem ok_draw {n : Nat} (F : Fun K "_law_draw" "_law_draw" sDraw f fd) (G : FnOk P w K mg base CX0 n f fd ["_law_source", "_law_bound"] (spDraw n))
    (bG : Binds K fd ["_law_source", "_law_bound"] []) (mG : mg "_law_draw" = some (.ref f)) : FnOk P w K mg base CX0 (n + 1) f fd ["_law_source", "_law_bound"] (spDraw (n + 1)) := by
  refine F.ok scDraw (fun vs H Q E h => ?_) (fun cdv A outer s H vs Q E hr h => ?_)
  · obtain ⟨p, c, m, rfl, _⟩ := h
    rfl
  · obtain ⟨p, c, m, rfl, ⟨a, b, hp, ha, hb, hb2, hc⟩, hc2, hm, hn, hd, q⟩ := h
    refine ⟨_, pss_cons (ps_if (pt_cmpR op_gt (pe_ix ix_list (pv 0) pe_int (fun _ _ => rfl)) pe_int (nomark _))
        (pss_cons (ps_set (i := 2) scDraw.nd rfl (.inl rfl) (pe_op op_mod (pe_ix ix_list (pv 0) pe_int (fun _ _ => rfl)) (pv 1)))
        (pss_cons (ps_asg (pe_op op_fdivW (pe_ix ix_list (pv 0) pe_int (fun _ _ => rfl)) (pv 1)) (pg_sub (pv 0) pe_int set_list))
        (pss_one (ps_ret (pv 2))))) pss_nil)
      (pss_cons (ps_if (pt_cmpR op_gt (pv 1) (pe_op op_pow pe_int pe_int) (nomark _))
        (pss_one (ps_ret (pe_op op_mod (pe_op op_add (pe_call G hr rfl mG F.kp bG .nil pass0 (pa_cons (pv 0) (pa_cons (pe_op op_pow pe_int pe_int) pa_nil)))
          (pe_op op_mul (pe_op op_pow pe_int pe_int) (pe_call G hr rfl mG F.kp bG .nil pass0 (pa_cons (pv 0) (pa_cons (pe_op op_add (pe_op op_fdiv (pe_op op_sub (pv 1) pe_int) (pe_op op_pow pe_int pe_int)) pe_int) pa_nil))))) (pv 1)))) pss_nil)
      (pss_cons (ps_asg (pe_op op_add (pe_ix ix_list (pv 0) pe_int (fun _ _ => rfl)) pe_int) (pg_sub (pv 0) pe_int set_list))
      (pss_cons (ps_set (i := 3) scDraw.nd rfl (.inl rfl) (pe_op op_mod (pe_op op_mul (pe_op op_add (pe_ix ix_list (pv 0) pe_int (fun _ _ => rfl)) (pe_op op_mul pe_int (pe_ix ix_list (pv 0) pe_int (fun _ _ => rfl))))
          (pe_op op_add pe_int (pe_ix ix_list (pv 0) pe_int (fun _ _ => rfl)))) pe_int))
      (pss_cons (ps_set (i := 4) scDraw.nd rfl (.inl rfl) (pe_op op_mod (pe_op op_mul (pe_op op_add (pe_op op_add (pv 3) (pe_ix ix_list (pv 0) pe_int (fun _ _ => rfl))) (pe_op op_fdiv (pe_ix ix_list (pv 0) pe_int (fun _ _ => rfl)) pe_int))
          (pe_op op_add (pe_op op_mod (pv 3) pe_int) pe_int)) pe_int))
      (pss_one (ps_ret (pe_op op_mod (pe_op op_fdiv (pe_op op_mod (pe_op op_add (pe_op op_mul (pv 4) pe_int) (pv 3)) pe_int) pe_int) (pv 1)))))))), ?_⟩
    have look : ∀ {H1 : Hp} {a b c : Int}, H1 p = some (.lst [.int a, .int b, .int c]) → SqL K H1 p [.int a, .int b, .int c] := fun e => SqL.of e
    -- source[0] > 0
    refine ⟨_, rfl, p, _, _, _, rfl, rfl, look hp, rfl, _, _, rfl, rfl, _, rfl, ?_⟩
    refine ite2 (fun h0 => ?_) (fun h0 => ?_)
    · have a1 : (0 : Int) < a := of_decide_eq_true h0
      refine ⟨_, rfl, p, _, _, _, rfl, rfl, look hp, rfl, _, rfl, _, _, rfl, rfl, hm, ?_⟩
      refine ⟨_, rfl, p, _, _, _, rfl, rfl, look hp, rfl, _, rfl, _, _, rfl, rfl, ?_, ?_⟩
      · exact wide_div (b := 50) hm (by omega) (by decide) (by decide)
      refine ⟨_, rfl, p, _, _, 0, rfl, rfl, hp, rfl, ?_⟩
      refine ⟨_, rfl, ?_⟩
      have h1 := Int.emod_nonneg a (show m ≠ 0 by omega)
      have h2 := Int.emod_lt_of_pos a hm
      have h3 : 0 ≤ a / m := Int.ediv_nonneg ha (by omega)
      exact q _ c _ h1 h2 (Int.le_refl _) (by omega) (fun _ => by omega) ⟨_, _, upd_same, h3, hb, hb2, hc⟩
    · refine ⟨_, rfl, _, _, rfl, rfl, ⟨by decide, by decide, by decide⟩, _, _, rfl, rfl, _, rfl, ?_⟩
      refine ite2 (fun h1 => ?_) (fun h1 => ?_)
      · have m1 : (10 : Int) ^ 7 < m := of_decide_eq_true h1
        have m1' : (10000000 : Int) < m := m1
        obtain ⟨d1, d2⟩ : 1 < n + 1 ∧ m ≤ 100000000000000 := by
          rcases hd with hd | hd
          · omega
          · exact hd
        refine ⟨_, rfl, _, _, rfl, rfl, ⟨by decide, by decide, by decide⟩, ?_⟩
        refine ⟨p, c, 10000000, rfl, ⟨a, b, hp, ha, hb, hb2, hc⟩, by omega, by decide, by omega, .inl (by decide), fun r c1 xs r0 r1 c10 c11 c12 S1 => ?_⟩
        have c13 := c12 (by decide)
        have e7 : (10 : Int) ^ (7 : Int).toNat = 10000000 := rfl
        refine ⟨_, _, rfl, rfl, ⟨by decide, by decide, by decide⟩, _, rfl, _, rfl, _, _, rfl, rfl, _, _, rfl, rfl, ⟨by decide, by decide, by decide⟩, _, _, rfl, rfl, ⟨by decide, by decide⟩, _, _, rfl, rfl, ?_⟩
        rw [e7]
        have d3 := Int.ediv_nonneg (show 0 ≤ m - 1 by omega) (show (0 : Int) ≤ 10000000 by decide)
        have d4 : (m - 1) / 10000000 < 10000000 := by omega
        refine ⟨p, c1, (m - 1) / 10000000 + 1, rfl, S1, by omega, by omega, by omega, .inl (by omega), fun r2 c2 ys r20 r21 c20 c21 c22 S2 => ?_⟩
        have c23 := c22 (by omega)
        refine ⟨_, _, rfl, rfl, .inl ⟨by decide, by decide⟩, _, _, rfl, rfl, _, rfl, _, _, rfl, rfl, hm, ?_⟩
        rw [upd_twice] at S2 ⊢
        refine q _ c2 ys (Int.emod_nonneg _ (by omega)) (Int.emod_lt_of_pos _ hm) (by omega) (by omega) (fun z => by omega) S2
      · -- source[2] = source[2] + 1
        refine ⟨_, rfl, p, _, _, _, rfl, rfl, look hp, rfl, _, _, rfl, rfl, _, rfl, p, _, _, 2, rfl, rfl, hp, rfl, ?_⟩
        have h1 : upd H p (.lst [.int a, .int b, .int (c + 1)]) p = some (.lst [.int a, .int b, .int (c + 1)]) := upd_same
        -- once
        refine ⟨_, rfl, p, _, _, _, rfl, rfl, look h1, rfl, _, rfl, p, _, _, _, rfl, rfl, look h1, rfl, _, _, rfl, rfl, .inl ⟨by decide, by decide⟩, _, _, rfl, rfl,
          _, rfl, p, _, _, _, rfl, rfl, look h1, rfl, _, _, rfl, rfl, _, _, rfl, rfl, .inr ⟨by omega, by omega⟩, _, _, rfl, rfl, (show (0 : Int) < 2147483647 by decide), ?_⟩
        -- twice
        refine ⟨_, rfl, _, rfl, p, _, _, _, rfl, rfl, look h1, rfl, _, _, rfl, rfl, _, rfl, p, _, _, _, rfl, rfl, look h1, rfl, _, _, rfl, rfl, ⟨by decide, by decide⟩, _, _, rfl, rfl,
          _, rfl, _, _, rfl, rfl, (show (0 : Int) < 40009 by decide), _, _, rfl, rfl, _, _, rfl, rfl, .inr ?_, _, _, rfl, rfl, (show (0 : Int) < 2147483629 by decide), ?_⟩
        · have z1 := Int.emod_nonneg ((b + 48271 * (c + 1)) * (39373 + (c + 1)) % 2147483647) (show (40009 : Int) ≠ 0 by decide)
          have z2 := Int.emod_lt_of_pos ((b + 48271 * (c + 1)) * (39373 + (c + 1)) % 2147483647) (show (0 : Int) < 40009 by decide)
          exact ⟨by omega, by omega⟩
        · refine ⟨_, rfl, _, _, rfl, rfl, .inr ⟨by decide, by decide⟩, _, rfl, _, _, rfl, rfl, _, _, rfl, rfl, (show (0 : Int) < 2147483587 by decide), _, _, rfl, rfl, ⟨by decide, by decide⟩, _, rfl, _, _, rfl, rfl, hm, ?_⟩
          exact q _ (c + 1) _ (Int.emod_nonneg _ (by omega)) (Int.emod_lt_of_pos _ hm) (by omega) (by omega) (fun _ => by omega) ⟨a, b, upd_same, ha, hb, hb2, by omega⟩
end
end K01
set_option Elab.async false
set_option linter.all false
set_option maxRecDepth 100000
set_option maxHeartbeats 4000000
namespace K01
open PySem PySem.Spec PyProof.Rows L2
abbrev sStream : Stmt := topS 11
theorem scStream : FnScope ["_law_script", "_law_k", "_law_cell"] ["_law_script", "_law_k"] (defScope sStream) :=
  ⟨rfl, rfl, rfl, by decide +kernel, rfl, by decide +kernel, by decide +kernel⟩
theorem b01 (k : Bool) : (0 : Int) ≤ (if k = true then 1 else 0) ∧ (if k = true then (1 : Int) else 0) ≤ 1 := by
  cases k <;> decide
def spPick : Sp := fun vs H Q _ => ∃ (p l : Addr) (c : Int) (xs : List V), vs = [.ref p, .ref l] ∧ Src H p c ∧ c + 3 < 2 ^ 60 ∧ l ≠ p ∧ H l = some (.lst xs) ∧ 0 < xs.length ∧ xs.length ≤ 1000 ∧
  ∀ (j : Nat) (v : V) (c' : Int) (zs : List V), xs[j]? = some v → c ≤ c' → c' ≤ c + 1 → Src (upd H p (.lst zs)) p c' → Q v (upd H p (.lst zs))
def spStream (K : PySem.W.Frag) : Sp := fun vs H Q _ => ∃ (l : Addr) (ns : List Int) (k : Nat), vs = [.ref l, .int (k : Int)] ∧ SqL K H l (ns.map V.int) ∧ k < 1000 ∧
  ∀ (p : Addr) (a b : Int), H p = none → 0 ≤ a → 0 ≤ b → b < 2 ^ 63 → Q (.ref p) (upd H p (.lst [.int a, .int b, .int 0]))
section
variable {P : Program} {w : World} {K : PySem.W.Frag} {mg : Str → Option Value} {base : Heap} {f fD : Addr} {fd fdD : FuncData}
theorem ok_pick (F : Fun K "_law_pick" "_law_pick" sPick f fd) (G : FnOk P w K mg base CX0 2 fD fdD ["_law_source", "_law_bound"] (spDraw 2))
    (bG : Binds K fdD ["_law_source", "_law_bound"] []) (kG : PySem.W.keepIn K (.ref fD) = true) (mG : mg "_law_draw" = some (.ref fD)) (mL : mg "len" = none) :
    FnOk P w K mg base CX0 3 f fd ["_law_source", "_law_some"] spPick := by
  refine F.ok scPick (fun vs H Q E h => ?_) (fun cdv A outer s H vs Q E hr h => ?_)
  · obtain ⟨p, l, c, xs, rfl, _⟩ := h
    rfl
  · obtain ⟨p, l, c, xs, rfl, S, hc, hne, hl, h0, h1, q⟩ := h
    refine ⟨_, pss_one (ps_ret (pe_ix ix_list (pv 1) (pe_call G hr rfl mG kG bG .nil pass0 (pa_cons (pv 0) (pa_cons (pe_callB call_len_seq (by rfl) mL PySem.boot_len (pa_cons (pv 1) pa_nil)) pa_nil))) (fun _ _ => rfl))), ?_⟩
    refine ⟨_, rfl, _, rfl, _, rfl, l, xs, rfl, .inl (SqL.of hl), ?_⟩
    refine ⟨p, c, _, rfl, S, by omega, by omega, by decide, .inl (by omega), fun r c' zs r0 r1 c0 c1 c2 S' => ?_⟩
    obtain ⟨j, rfl⟩ : ∃ j : Nat, r = (j : Int) := ⟨r.toNat, by omega⟩
    have hj : j < xs.length := by omega
    refine ⟨l, xs, _, xs[j], rfl, rfl, SqL.of ((upd_ne hne).trans hl), atI_nat (List.getElem?_eq_getElem hj), ?_⟩
    exact q j _ c' zs (List.getElem?_eq_getElem hj) c0 (c2 (by omega)) S'
theorem ok_stream (F : Fun K "_law_stream" "_law_stream" sStream f fd) (mL : mg "len" = none) (mA : mg "abs" = none) (mI : mg "int" = none) :
    FnOk P w K mg base CX0 1 f fd ["_law_script", "_law_k"] (spStream K) := by
  refine F.ok scStream (fun vs H Q E h => ?_) (fun cdv A outer s H vs Q E hr h => ?_)
  · obtain ⟨l, ns, k, rfl, _⟩ := h
    rfl
  · obtain ⟨l, ns, k, rfl, hl, hk, q⟩ := h
    refine ⟨_, pss_cons (ps_set (i := 2) scStream.nd rfl (.inl rfl) pe_int)
      (pss_cons (ps_if (pt_cmpR op_lt (pv 1) (pe_callB call_len_seq (by rfl) mL PySem.boot_len (pa_cons (pv 0) pa_nil)) (nomark _))
        (pss_one (ps_set (i := 2) scStream.nd rfl (.inl rfl) (pe_ix ix_list (pv 0) (pv 1) (fun _ _ => rfl)))) pss_nil)
      (pss_one (ps_ret (pe_lst (pa_cons (pe_op op_mul (pe_callB call_abs (by rfl) mA (by decide +kernel) (pa_cons (pv 2) pa_nil))
          (pe_callTy call_int1 (by rfl) mI (by decide +kernel) (pa_cons (pe_cmpR op_ge (pe_callB call_abs (by rfl) mA (by decide +kernel) (pa_cons (pv 2) pa_nil)) (pe_op op_pow pe_int pe_int) (nomark _)) pa_nil)))
        (pa_cons (pe_op op_add (pe_op op_add (pe_op op_mod (pv 2) pe_int) (pe_op op_mul pe_int (pv 1))) pe_int) (pa_cons pe_int pa_nil))))))), ?_⟩
    have fin : ∀ (cell : Int) (σ : L2.St), σ[1]? = some (some (V.int (k : Int))) → σ[2]? = some (some (V.int cell)) → ∀ D : Ends, D.rt = Q →
        tRet (tLst (tCons (tOp (rI CMul fun i j => .int (i * j)) (tCB (fun xs H Q => ∃ i, xs = [.int i] ∧ Q (.int (if i < 0 then -i else i)) H) (tCons (tVar 2) tNil))
          (tCB (fun xs H Q => (∃ i, xs = [.int i] ∧ Q (.int i) H) ∨ ∃ k, xs = [.bl k] ∧ Q (.int (if k then 1 else 0)) H) (tCons (tOp (rI0 fun i j => .bl (decide (j ≤ i))) (tCB (fun xs H Q => ∃ i, xs = [.int i] ∧ Q (.int (if i < 0 then -i else i)) H) (tCons (tVar 2) tNil)) (tOp (rI CPow fun i j => .int (i ^ j.toNat)) (tC (.int 10)) (tC (.int 18)))) tNil)))
          (tCons (tOp (rI0 fun i j => .int (i + j)) (tOp (rI0 fun i j => .int (i + j)) (tOp (rI (fun _ j => 0 < j) fun i j => .int (i % j)) (tVar 2) (tC (.int 2305843009213693951))) (tOp (rI CMul fun i j => .int (i * j)) (tC (.int 39373)) (tVar 1))) (tC (.int 29))) (tCons (tC (.int 0)) tNil)))) D σ H := by
      intro cell σ s1 s2 D eD
      refine ⟨_, s2, _, rfl, _, s2, _, rfl, _, _, rfl, rfl, ⟨by decide, by decide, by decide⟩, _, _, rfl, rfl, .inr ⟨_, rfl, _, _, rfl, rfl, .inr ?_, ?_⟩⟩
      · exact ⟨Int.lt_of_lt_of_le (by decide) (b01 _).1, Int.lt_of_le_of_lt (b01 _).2 (by decide)⟩
      · refine ⟨_, s2, _, _, rfl, rfl, (show (0 : Int) < 2305843009213693951 by decide), _, s1, _, _, rfl, rfl, .inl ⟨by decide, by decide⟩, _, _, rfl, rfl, _, _, rfl, rfl, (by show 3 ≤ sizeLine; decide), fun p hp => ?_⟩
        rw [eD]
        have z1 := Int.emod_nonneg cell (show (2305843009213693951 : Int) ≠ 0 by decide)
        have z2 := Int.emod_lt_of_pos cell (show (0 : Int) < 2305843009213693951 by decide)
        refine q p _ _ hp ?_ (by omega) (by omega)
        refine Int.mul_nonneg ?_ ?_
        · split <;> omega
        · exact (b01 _).1
    refine ⟨_, rfl, _, rfl, l, _, rfl, .inl hl, _, _, rfl, rfl, _, rfl, ?_⟩
    refine ite2 (fun h1 => ?_) (fun h1 => ?_)
    · have h2 := of_decide_eq_true h1
      rw [List.length_map] at h2
      have h3 : k < ns.length := by omega
      refine ⟨_, rfl, _, rfl, l, _, _, .int ns[k], rfl, rfl, hl, atI_nat (by rw [List.getElem?_map, List.getElem?_eq_getElem h3]; rfl), ?_⟩
      exact fin ns[k] _ rfl rfl _ rfl
    · exact fin 0 _ rfl rfl _ rfl
end
end K01
set_option Elab.async false
set_option linter.all false
set_option maxRecDepth 100000
set_option maxHeartbeats 4000000
namespace K01
open PySem PySem.Spec PyProof.Rows L2
abbrev sFolded : Stmt := topS 13
theorem scFolded : FnScope ["_law_script", "_law_most", "_law_cells", "_law_k", "_law_cell"] ["_law_script", "_law_most"] (defScope sFolded) :=
  ⟨rfl, rfl, rfl, by decide +kernel, rfl, by decide +kernel, by decide +kernel⟩
def spFolded (K : PySem.W.Frag) : Sp := fun vs H Q _ => ∃ (l : Addr) (ns : List Int) (m : Nat), vs = [.ref l, .int (m : Int)] ∧ SqL K H l (ns.map V.int) ∧ ns.length ≤ 63 ∧ 0 < m ∧ m ≤ 10 ∧
  ∀ (p : Addr) (ms : List Int) (H' : Hp), H p = none → Same H H' → H' p = some (.lst (ms.map V.int)) → 0 < ms.length → ms.length ≤ m → Q (.ref p) H'
theorem cut_ints (ns : List Int) (lo hi : Option Int) : cutV (ns.map V.int) lo hi = ((ns.drop (HT.sIx ns.length 0 lo)).take (HT.sIx ns.length ns.length hi - HT.sIx ns.length 0 lo)).map V.int := by
  unfold cutV
  rw [List.length_map, List.map_take, List.map_drop]
theorem same_new {H : Hp} {p : Addr} {o : HO} (h : H p = none) : Same H (upd H p o) := fun b x e => by
  rw [upd_ne (ne_of_none e h)]
  exact e
theorem same_mut {H H' : Hp} {p : Addr} {o : HO} (s : Same H H') (h : H p = none) : Same H (upd H' p o) := fun b x e => by
  rw [upd_ne (ne_of_none e h)]
  exact s b x e
section
variable {P : Program} {w : World} {K : PySem.W.Frag} {mg : Str → Option Value} {base : Heap} {f : Addr} {fd : FuncData}
theorem ok_folded (F : Fun K "_law_folded" "_law_folded" sFolded f fd) (mL : mg "list" = none) (mE : mg "enumerate" = none) :
    FnOk P w K mg base CX0 1 f fd ["_law_script", "_law_most"] (spFolded K) := by
  refine F.ok scFolded (fun vs H Q E h => ?_) (fun cdv A outer s H vs Q E hr h => ?_)
  · obtain ⟨l, ns, m, rfl, _⟩ := h
    rfl
  · obtain ⟨l, ns, m, rfl, hl, hn, hm0, hm1, q⟩ := h
    refine ⟨_, pss_cons (ps_set (i := 2) scFolded.nd rfl (.inl rfl) (pe_orT (pe_callTy call_list_of (by rfl) mL (by decide +kernel) (pa_cons (pe_slice sl_list (pv 0) po_none (po_some (pv 1))) pa_nil)) (pe_one (pe_lst (pa_cons pe_int pa_nil)))))
      (pss_cons (ps_for PassesOwn.never rfl (pi_enum (by rfl) mE (pa_cons (pe_slice sl_list (pv 0) (po_some (pv 1)) (po_some pe_int)) pa_nil))
          (pg_tup rfl (pgs_cons (pg_name (i := 3) scFolded.nd rfl (.inl rfl)) (pgs_cons (pg_name (i := 4) scFolded.nd rfl (.inl rfl)) pgs_nil)))
        (pss_one (ps_asg (pe_op op_add (pe_ix ix_list (pv 2) (pe_op op_mod (pv 3) (pv 1)) (fun _ _ => rfl)) (pe_op op_mul (pv 4) (pe_op op_add (pv 3) pe_int))) (pg_sub (pv 2) (pe_op op_mod (pv 3) (pv 1)) set_list))))
      (pss_one (ps_ret (pv 2)))), ?_⟩
    -- the loop, from cells of ms at p
    have loop : ∀ (p : Addr) (ms : List Int) (H1 : Hp) (D : Ends), D.rt = Q → H p = none → Same H H1 → H1 p = some (.lst (ms.map V.int)) → 0 < ms.length → ms.length ≤ m → (m ≤ ns.length → ms.length = m) →
        tSeq (tFor (iEnum K (tCons (tSl (rSlL K) (tVar 0) (tPart (tVar 1)) (tPart (tC (.int 63)))) tNil)) (gTup K 2 (gCons (gName 3) (gCons (gName 4) gNil)))
          (tAsg (tOp (rI0 fun i j => .int (i + j)) (tOp (rIxL K) (tVar 2) (tOp (rI (fun _ j => 0 < j) fun i j => .int (i % j)) (tVar 3) (tVar 1))) (tOp (rI CMul fun i j => .int (i * j)) (tVar 4) (tOp (rI0 fun i j => .int (i + j)) (tVar 3) (tC (.int 2)))))
            (gSub (tVar 2) (tOp (rI (fun _ j => 0 < j) fun i j => .int (i % j)) (tVar 3) (tVar 1)) rSetL))) (tRet (tVar 2)) D [some (.ref l), some (.int (m : Int)), some (.ref p), none, none] H1 := by
      intro p ms H1 D eD hp s1 hc h0 h1 h2
      obtain ⟨ks, eks, hks, hk0⟩ : ∃ ks : List Int, cutV (ns.map V.int) (some (m : Int)) (some 63) = ks.map V.int ∧ ks.length ≤ 63 ∧ (ns.length < m → ks.length = 0) := by
        refine ⟨_, cut_ints ns _ _, ?_, fun z => ?_⟩
        · rw [List.length_take, List.length_drop]
          omega
        · rw [List.length_take, List.length_drop, HT.sIx_nat]
          omega
      refine ⟨_, rfl, _, rfl, _, rfl, 63, rfl, l, _, rfl, s1.seq hl, fun c nc => ?_⟩
      rw [eks]
      refine ⟨c, _, rfl, SqL.of upd_same, ?_⟩
      have ncp : c ≠ p := fun e => by
        rw [e, hc] at nc
        cases nc
      refine for_it (walk_enum (K := K) (a := c) (xs := ks.map V.int)) (fun i σ H3 => ∃ (y3 y4 : Option V) (zs : List Int), σ = [some (.ref l), some (.int (m : Int)), some (.ref p), y3, y4] ∧ Same H H3 ∧ H3 c = some (.lst (ks.map V.int)) ∧ H3 p = some (.lst (zs.map V.int)) ∧ zs.length = ms.length)
        ⟨none, none, ms, rfl, s1.trans (same_new nc), upd_same, by rw [upd_ne ncp.symm]; exact hc, rfl⟩ (fun i σ H3 _ ⟨_, _, _, _, _, e, _⟩ => SqL.of e) ?_ ?_
      · rintro i x σ H3 H4 hi ⟨y3, y4, zs, rfl, s3, e3, e4, e5⟩ ⟨T, x1, x2, rfl, nT, rfl, f1, f2⟩
        rw [List.length_map] at hi
        obtain rfl : V.int ((i : Nat) : Int) = x1 := Option.some.inj f1
        obtain rfl : V.int ks[i] = x2 := by
          have f3 : (ks.map V.int)[i]? = some x2 := f2
          rw [List.getElem?_map, List.getElem?_eq_getElem hi] at f3
          exact Option.some.inj f3
        have nTp : p ≠ T := ne_of_none e4 nT
        have nTc : c ≠ T := ne_of_none e3 nT
        have e4' : upd H3 T (.tup [.int ((i : Nat) : Int), .int ks[i]]) p = some (.lst (zs.map V.int)) := (upd_ne nTp).trans e4
        have hmn : m ≤ ns.length := by
          by_cases z : ns.length < m
          · have := hk0 z
            omega
          · omega
        have hz := h2 hmn
        have i1 := Int.emod_nonneg (i : Int) (show (m : Int) ≠ 0 by omega)
        have i2 := Int.emod_lt_of_pos (i : Int) (show (0 : Int) < (m : Int) by omega)
        obtain ⟨j, ej⟩ : ∃ j : Nat, (i : Int) % (m : Int) = (j : Int) := ⟨((i : Int) % (m : Int)).toNat, by omega⟩
        have hj : j < zs.length := by omega
        have hjm : j < (zs.map V.int).length := by rw [List.length_map]; exact hj
        refine ⟨T, _, rfl, .inl (.inl upd_same), rfl, _, _, rfl, _, _, rfl, rfl, ?_⟩
        refine ⟨_, rfl, _, rfl, _, rfl, _, _, rfl, rfl, (show (0 : Int) < (m : Int) by omega), p, _, _, .int zs[j], rfl, rfl, SqL.of e4', ?_, ?_⟩
        · rw [ej]
          exact atI_nat (by rw [List.getElem?_map, List.getElem?_eq_getElem hj]; rfl)
        refine ⟨_, rfl, _, rfl, _, _, rfl, rfl, _, _, rfl, rfl, .inr ⟨by omega, by omega⟩, _, _, rfl, rfl, ?_⟩
        refine ⟨_, rfl, _, rfl, _, rfl, _, _, rfl, rfl, (show (0 : Int) < (m : Int) by omega), p, _, _, j, rfl, rfl, e4', ?_, ?_⟩
        · rw [ej]
          unfold ixN
          rw [if_pos (by omega), if_pos (by omega), Int.toNat_natCast]
        refine ⟨_, _, zs.set j (zs[j] + ks[i] * ((i : Int) + 2)), rfl, fun b o e => ?_, ?_, ?_, by rw [List.length_set]; exact e5⟩
        · rw [upd_ne (ne_of_none e hp), upd_ne (ne_of_none (s3 b o e) nT)]
          exact s3 b o e
        · rw [upd_ne ncp, upd_ne nTc]
          exact e3
        · rw [upd_same, List.map_set]
      · rintro σ H3 ⟨y3, y4, zs, rfl, s3, e3, e4, e5⟩
        refine ⟨_, rfl, ?_⟩
        rw [eD]
        exact q p zs H3 hp s3 e4 (by omega) (by omega)
    -- list(script[:most]) or [0]
    obtain ⟨ts, ets, hts⟩ : ∃ ts : List Int, cutV (ns.map V.int) none (some (m : Int)) = ts.map V.int ∧ ts.length = min m ns.length := by
      refine ⟨_, cut_ints ns _ _, ?_⟩
      rw [List.length_take, List.length_drop, HT.sIx_nat, HT.sIx_none]
      omega
    refine ⟨_, rfl, _, rfl, _, rfl, l, _, rfl, hl, fun c nc => ?_⟩
    rw [ets]
    refine ⟨c, _, rfl, .inl (SqL.of upd_same), fun p np => ?_⟩
    have s2 := same_new (o := HO.lst (ts.map V.int)) nc
    have hp : H p = none := s2.free np
    have s3 := s2.trans (same_new (o := HO.lst (ts.map V.int)) np)
    refine ⟨_, .inl ⟨_, SqL.of upd_same, rfl⟩, ?_⟩
    cases ts with
    | nil =>
      refine iteF ⟨by show 1 ≤ sizeLine; decide, fun p2 np2 => ?_⟩
      rw [List.length_nil] at hts
      exact loop p2 [0] _ _ rfl (s3.free np2) (s3.trans (same_new np2)) upd_same (by decide) hm0 (fun z => by omega)
    | cons t ts => exact iteT (loop p (t :: ts) _ _ rfl hp s3 upd_same (Nat.succ_pos _) (by omega) (fun z => by omega))
end
end K01
set_option Elab.async false
set_option linter.all false
set_option maxRecDepth 100000
set_option maxHeartbeats 4000000
namespace K01
open PySem PySem.Spec PyProof.Rows L2
mutual
/-- data at any depth, all of it tracked -/
inductive Dx (H : Hp) : V → PyData → Prop
  | non : Dx H .non .none
  | bl (b : Bool) : Dx H (.bl b) (.bool b)
  | int (i : Int) : Dx H (.int i) (.int i)
  | str (x : Str) : Dx H (.str x) (.str x)
  | lst {a : Addr} {xs : List V} {ds : List PyData} : H a = some (.lst xs) → DxAll H xs ds → Dx H (.ref a) (.list ds)
  | tup {a : Addr} {xs : List V} {ds : List PyData} : H a = some (.tup xs) → DxAll H xs ds → Dx H (.ref a) (.tuple ds)
inductive DxAll (H : Hp) : List V → List PyData → Prop
  | nil : DxAll H [] []
  | cons {v : V} {vs : List V} {d : PyData} {ds : List PyData} : Dx H v d → DxAll H vs ds → DxAll H (v :: vs) (d :: ds)
end
mutual
theorem Dx.mono {H H' : Hp} (s : Same H H') : ∀ {v : V} {d : PyData}, Dx H v d → Dx H' v d
  | _, _, .non => .non
  | _, _, .bl b => .bl b
  | _, _, .int i => .int i
  | _, _, .str x => .str x
  | _, _, .lst e h => .lst (s _ _ e) (DxAll.mono s h)
  | _, _, .tup e h => .tup (s _ _ e) (DxAll.mono s h)
theorem DxAll.mono {H H' : Hp} (s : Same H H') : ∀ {vs : List V} {ds : List PyData}, DxAll H vs ds → DxAll H' vs ds
  | _, _, .nil => .nil
  | _, _, .cons h t => .cons (Dx.mono s h) (DxAll.mono s t)
end
theorem DxAll.length {H : Hp} : ∀ {vs : List V} {ds : List PyData}, DxAll H vs ds → vs.length = ds.length
  | _, _, .nil => rfl
  | _, _, .cons _ t => by rw [List.length_cons, List.length_cons, DxAll.length t]
theorem DxAll.get {H : Hp} : ∀ {vs : List V} {ds : List PyData} {i : Nat} {v : V}, DxAll H vs ds → vs[i]? = some v → ∃ d, ds[i]? = some d ∧ Dx H v d
  | _, _, _, _, .nil, e => by simp at e
  | _, _, 0, _, .cons h _, e => by
    simp at e
    subst e
    exact ⟨_, rfl, h⟩
  | _, _, i + 1, v, .cons _ t, e => by
    obtain ⟨d, h1, h2⟩ := DxAll.get (i := i) (v := v) t (by simpa using e)
    exact ⟨d, by simpa using h1, h2⟩
theorem DxAll.snoc {H : Hp} {v : V} {d : PyData} (h : Dx H v d) : ∀ {vs : List V} {ds : List PyData}, DxAll H vs ds → DxAll H (vs ++ [v]) (ds ++ [d])
  | _, _, .nil => .cons h .nil
  | _, _, .cons h1 t => .cons h1 (DxAll.snoc h t)
/-- of nesting below n -/
def Sh : Nat → PyData → Prop
  | 0, _ => False
  | n + 1, .list ds => ds.length ≤ 1000 ∧ ∀ d ∈ ds, Sh n d
  | n + 1, .tuple ds => ds.length ≤ 1000 ∧ ∀ d ∈ ds, Sh n d
  | _ + 1, .dict _ => False
  | _ + 1, _ => True
/-- the heap without the objects of M -/
def mask (H : Hp) (M : List Addr) : Hp := fun b => if b ∈ M then none else H b
theorem mask_nil (H : Hp) : mask H [] = H := funext fun b => if_neg List.not_mem_nil
theorem mask_at {H : Hp} {M : List Addr} {a : Addr} {o : HO} (e : mask H M a = some o) : H a = some o ∧ a ∉ M := by
  unfold mask at e
  by_cases h : a ∈ M
  · rw [if_pos h] at e
    cases e
  · rw [if_neg h] at e
    exact ⟨e, h⟩
theorem mask_of {H : Hp} {M : List Addr} {a : Addr} {o : HO} (e : H a = some o) (h : a ∉ M) : mask H M a = some o := (if_neg h).trans e
theorem mask_same {H H' : Hp} {M M' : List Addr} (s : Same H H') (h : ∀ b o, H b = some o → b ∈ M' → b ∈ M) : Same (mask H M) (mask H' M') := fun b o e => by
  obtain ⟨e1, e2⟩ := mask_at e
  exact mask_of (s b o e1) fun z => e2 (h b o e1 z)
theorem mask_upd {H : Hp} {M : List Addr} {a : Addr} {o : HO} (h : a ∈ M) : mask (upd H a o) M = mask H M := funext fun b => by
  unfold mask
  by_cases z : b ∈ M
  · rw [if_pos z, if_pos z]
  · have ne : b ≠ a := fun e => z (e ▸ h)
    rw [if_neg z, if_neg z, upd_ne ne]
end K01
set_option Elab.async false
set_option linter.all false
set_option maxRecDepth 100000
set_option maxHeartbeats 4000000
namespace K01
open PySem PySem.Spec PyProof.Rows L2
abbrev sSame : Stmt := topS 15
abbrev nSame : List Str := ["_law_found", "_law_due", "_law_mine", "_law_its"]
theorem scSame : FnScope nSame ["_law_found", "_law_due"] (defScope sSame) := ⟨rfl, rfl, rfl, by decide +kernel, rfl, by decide +kernel, by decide +kernel⟩
/-- equal data: True -/
def spSame (n : Nat) : Sp := fun vs H Q _ => ∃ (x y : V) (d : PyData), vs = [x, y] ∧ Dx H x d ∧ Dx H y d ∧ Sh n d ∧ ∀ H', Same H H' → Q (.bl true) H'
theorem kit2 {K : PySem.W.Frag} {T a b : String} {r1 r2 : Bool} (h1 : kitB T a = some r1) (h2 : kitB T b = some r2) : PySem.W.kitAny K (.type T) [.type a, .type b] = some (r1 || r2) := by
  refine kitAny_cons (kit_ty h1) (fun e => ?_) (fun e => by rw [e]; rfl)
  rw [e]
  refine kitAny_cons (kit_ty h2) (fun e2 => by rw [e2]; exact kitAny_nil) (fun e2 => by rw [e2]; rfl)
theorem walk_zipT2 {K : PySem.W.Frag} {a b : Addr} {xs ys : List V} (hl : xs.length = ys.length) : Walk (RZ.ItzT K a b) xs.length (fun H => SqT K H a xs ∧ SqT K H b ys) (YPair (fun i => xs[i]?) (fun i => ys[i]?)) := by
  refine ⟨fun i _ hi q => ?_, fun _ q => ⟨xs, ys, q.1, q.2, .inl (Nat.le_refl _)⟩, fun i H v H' _ q y => ?_⟩
  · have h2 : i < ys.length := by omega
    exact ⟨xs, ys, xs[i], ys[i], q.1, q.2, List.getElem?_eq_getElem hi, List.getElem?_eq_getElem h2⟩
  · obtain ⟨T, x, z, h1, h2, h3, h4, h5⟩ := y
    exact ⟨T, x, z, h1, h2, h3, h4 xs q.1, h5 ys q.2⟩
section
variable {P : Program} {w : World} {K : PySem.W.Frag} {mg : Str → Option Value} {base : Heap} {f : Addr} {fd : FuncData}
theorem no_same : FnOk P w K mg base CX0 0 f fd ["_law_found", "_law_due"] (spSame 0) :=
  ⟨fun vs H Q E ⟨_, _, _, _, _, _, h, _⟩ => h.elim, fun _ _ _ _ _ _ _ _ _ _ _ _ _ ⟨_, _, _, _, _, _, h, _⟩ => h.elim⟩
theorem ok_same {n : Nat} (F : Fun K "_law_same" "_law_same" sSame f fd) (G : FnOk P w K mg base CX0 n f fd ["_law_found", "_law_due"] (spSame n)) (bG : Binds K fd ["_law_found", "_law_due"] []) (mG : mg "_law_same" = some (.ref f))
    (mI : mg "isinstance" = none) (mL : mg "list" = none) (mT : mg "tuple" = none) (mN : mg "len" = none) (mA : mg "all" = none) (mZ : mg "zip" = none) (mB : mg "bool" = none) (mS : mg "str" = none) (mi : mg "int" = none) :
    FnOk P w K mg base CX0 (n + 1) f fd ["_law_found", "_law_due"] (spSame (n + 1)) := by
  refine F.ok scSame (fun vs H Q E h => ?_) (fun cdv A outer s H vs Q E hr h => ?_)
  · obtain ⟨x, y, d, rfl, _⟩ := h
    rfl
  · obtain ⟨x, y, d, rfl, hx, hy, hs, q⟩ := h
    refine ⟨_, pss_cons (ps_if (pt_val (pe_callB call_isiT (by rfl) mI (by decide +kernel) (pa_cons (pv 1) (pa_cons (pe_tup (pa_cons (pe_bltn (v := .ty "list") (by rfl) mL (by decide +kernel) rfl) (pa_cons (pe_bltn (v := .ty "tuple") (by rfl) mT (by decide +kernel) rfl) pa_nil))) pa_nil))))
        (pss_cons (ps_if (PW.pt (pw_or (pt_cmpR op_ne (pe_callB call_isi (by rfl) mI (by decide +kernel) (pa_cons (pv 0) (pa_cons (pe_bltn (v := .ty "list") (by rfl) mL (by decide +kernel) rfl) pa_nil))) (pe_callB call_isi (by rfl) mI (by decide +kernel) (pa_cons (pv 1) (pa_cons (pe_bltn (v := .ty "list") (by rfl) mL (by decide +kernel) rfl) pa_nil))) (nomark _)) (pw_or1 (pt_cmpR op_ne (pe_callB call_isi (by rfl) mI (by decide +kernel) (pa_cons (pv 0) (pa_cons (pe_bltn (v := .ty "tuple") (by rfl) mT (by decide +kernel) rfl) pa_nil))) (pe_callB call_isi (by rfl) mI (by decide +kernel) (pa_cons (pv 1) (pa_cons (pe_bltn (v := .ty "tuple") (by rfl) mT (by decide +kernel) rfl) pa_nil))) (nomark _)))))
          (pss_one (ps_ret pe_bl)) pss_nil)
        (pss_one (ps_ret (pe_and (pe_cmpR op_eq (pe_callB call_len_seq (by rfl) mN PySem.boot_len (pa_cons (pv 0) pa_nil)) (pe_callB call_len_seq (by rfl) mN PySem.boot_len (pa_cons (pv 1) pa_nil)) (nomark _)) (pe_one (pe_callB (cr_all rfl) (by rfl) mA (by decide +kernel) (pa_cons
          (pe_lc (own := [("_law_mine", 2), ("_law_its", 3)]) (g := gTup _ 2 (gCons (gName 2) (gCons (gName 3) gNil))) (tt := tYes) rfl scSame.nd (RZ.pi_zipA (by rfl) mZ (pa_cons (pv 0) (pa_cons (pv 1) pa_nil))) (blkOk_by (N := nSame) (sc := defScope sSame) (by decide +kernel))
            (fun _ _ _ _ _ => pg_tup rfl (pgs_cons (pg_name (i := 2) scSame.nd rfl (Or.inl rfl)) (pgs_cons (pg_name (i := 3) scSame.nd rfl (Or.inl rfl)) pgs_nil))) (fun _ _ _ _ _ => pts_nil) (fun _ _ _ _ _ => pe_call G hr rfl mG F.kp bG .nil pass0 (pa_cons (pv 2) (pa_cons (pv 3) pa_nil)))) pa_nil))))))) pss_nil)
      (pss_cons (ps_if (PW.pt (pw_or (pt_cmp (pc_isN (pv 1))) (pw_or1 (pt_val (pe_callB call_isiT (by rfl) mI (by decide +kernel) (pa_cons (pv 1) (pa_cons (pe_tup (pa_cons (pe_bltn (v := .ty "bool") (by rfl) mB (by decide +kernel) rfl) (pa_cons (pe_bltn (v := .ty "str") (by rfl) mS (by decide +kernel) rfl) pa_nil))) pa_nil)))))))
        (pss_one (ps_ret (pe_and (pe_cmpR op_eq (pv 0) (pv 1) (nomark _)) (pe_and (pe_cmpR op_eq (pe_callB call_isi (by rfl) mI (by decide +kernel) (pa_cons (pv 0) (pa_cons (pe_bltn (v := .ty "bool") (by rfl) mB (by decide +kernel) rfl) pa_nil))) (pe_callB call_isi (by rfl) mI (by decide +kernel) (pa_cons (pv 1) (pa_cons (pe_bltn (v := .ty "bool") (by rfl) mB (by decide +kernel) rfl) pa_nil))) (nomark _)) (pe_one (pe_cmpR op_eq (pe_cmp (pc_isN (pv 0))) (pe_cmp (pc_isN (pv 1))) (nomark _)))))))  pss_nil)
      (pss_one (ps_ret (pe_and (pe_callB call_isi (by rfl) mI (by decide +kernel) (pa_cons (pv 0) (pa_cons (pe_bltn (v := .ty "int") (by rfl) mi (by decide +kernel) rfl) pa_nil))) (pe_and (pe_not (pe_callB call_isi (by rfl) mI (by decide +kernel) (pa_cons (pv 0) (pa_cons (pe_bltn (v := .ty "bool") (by rfl) mB (by decide +kernel) rfl) pa_nil)))) (pe_one (pe_cmpR op_eq (pv 0) (pv 1) (nomark _)))))))), ?_⟩
    cases hx with
    | non =>
      cases hy
      refine ⟨_, rfl, by show 2 ≤ sizeLine; decide, fun t1 n1 => ⟨_, t1, _, _, _, false, rfl, upd_same, .cons (.ty _) (.cons (.ty _) .nil), .base .non, kit2 (T := "NoneType") (a := "list") (b := "tuple") (r1 := false) (r2 := false) (by decide +kernel) (by decide +kernel), _, rfl, iteF ?_⟩⟩
      have s1 := same_new (o := HO.tup [.ty "list", .ty "tuple"]) n1
      refine ⟨_, rfl, _, rfl, iteT (iteT ?_)⟩
      refine ⟨_, rfl, _, rfl, rfl, _, rfl, iteT ?_⟩
      refine ⟨_, rfl, _, _, _, _, false, rfl, .ty _, .base .non, kit_ty (by decide +kernel), _, rfl, _, _, _, _, false, rfl, .ty _, .base .non, kit_ty (by decide +kernel), rfl, _, rfl, iteT ?_⟩
      exact ⟨_, rfl, _, rfl, rfl, q _ s1⟩
    | bl b =>
      cases hy
      refine ⟨_, rfl, by show 2 ≤ sizeLine; decide, fun t1 n1 => ⟨_, t1, _, _, _, false, rfl, upd_same, .cons (.ty _) (.cons (.ty _) .nil), .base (.bl b), kit2 (T := "bool") (a := "list") (b := "tuple") (r1 := false) (r2 := false) (by decide +kernel) (by decide +kernel), _, rfl, iteF ?_⟩⟩
      have s1 := same_new (o := HO.tup [.ty "list", .ty "tuple"]) n1
      refine ⟨_, rfl, _, rfl, iteF ?_⟩
      refine ⟨_, rfl, by show 2 ≤ sizeLine; decide, fun t2 n2 => ⟨_, t2, _, _, _, true, rfl, upd_same, .cons (.ty _) (.cons (.ty _) .nil), .base (.bl b), kit2 (T := "bool") (a := "bool") (b := "str") (r1 := true) (r2 := false) (by decide +kernel) (by decide +kernel), _, rfl, iteT ?_⟩⟩
      have s2 := s1.trans (same_new (o := HO.tup [.ty "bool", .ty "str"]) n2)
      refine ⟨_, rfl, _, rfl, rfl, _, rfl, ?_⟩
      rw [decide_eq_true (rfl : (V.bl b) = V.bl b)]
      refine iteT ⟨_, rfl, _, _, _, _, true, rfl, .ty _, .base (.bl b), kit_ty (by decide +kernel), _, rfl, _, _, _, _, true, rfl, .ty _, .base (.bl b), kit_ty (by decide +kernel), rfl, _, rfl, iteT ?_⟩
      exact ⟨_, rfl, _, rfl, rfl, q _ s2⟩
    | str z =>
      cases hy
      refine ⟨_, rfl, by show 2 ≤ sizeLine; decide, fun t1 n1 => ⟨_, t1, _, _, _, false, rfl, upd_same, .cons (.ty _) (.cons (.ty _) .nil), .base (.str z), kit2 (T := "str") (a := "list") (b := "tuple") (r1 := false) (r2 := false) (by decide +kernel) (by decide +kernel), _, rfl, iteF ?_⟩⟩
      have s1 := same_new (o := HO.tup [.ty "list", .ty "tuple"]) n1
      refine ⟨_, rfl, _, rfl, iteF ?_⟩
      refine ⟨_, rfl, by show 2 ≤ sizeLine; decide, fun t2 n2 => ⟨_, t2, _, _, _, true, rfl, upd_same, .cons (.ty _) (.cons (.ty _) .nil), .base (.str z), kit2 (T := "str") (a := "bool") (b := "str") (r1 := false) (r2 := true) (by decide +kernel) (by decide +kernel), _, rfl, iteT ?_⟩⟩
      have s2 := s1.trans (same_new (o := HO.tup [.ty "bool", .ty "str"]) n2)
      refine ⟨_, rfl, _, rfl, rfl, _, rfl, ?_⟩
      rw [decide_eq_true (rfl : (V.str z) = V.str z)]
      refine iteT ⟨_, rfl, _, _, _, _, false, rfl, .ty _, .base (.str z), kit_ty (by decide +kernel), _, rfl, _, _, _, _, false, rfl, .ty _, .base (.str z), kit_ty (by decide +kernel), rfl, _, rfl, iteT ?_⟩
      exact ⟨_, rfl, _, rfl, rfl, q _ s2⟩
    | int i =>
      cases hy
      refine ⟨_, rfl, by show 2 ≤ sizeLine; decide, fun t1 n1 => ⟨_, t1, _, _, _, false, rfl, upd_same, .cons (.ty _) (.cons (.ty _) .nil), .base (.int i), kit2 (T := "int") (a := "list") (b := "tuple") (r1 := false) (r2 := false) (by decide +kernel) (by decide +kernel), _, rfl, iteF ?_⟩⟩
      have s1 := same_new (o := HO.tup [.ty "list", .ty "tuple"]) n1
      refine ⟨_, rfl, _, rfl, iteF ?_⟩
      refine ⟨_, rfl, by show 2 ≤ sizeLine; decide, fun t2 n2 => ⟨_, t2, _, _, _, false, rfl, upd_same, .cons (.ty _) (.cons (.ty _) .nil), .base (.int i), kit2 (T := "int") (a := "bool") (b := "str") (r1 := false) (r2 := false) (by decide +kernel) (by decide +kernel), _, rfl, iteF ?_⟩⟩
      have s2 := s1.trans (same_new (o := HO.tup [.ty "bool", .ty "str"]) n2)
      refine ⟨_, rfl, _, _, _, _, true, rfl, .ty _, .base (.int i), kit_ty (by decide +kernel), _, rfl, iteT ?_⟩
      refine ⟨_, rfl, _, _, _, _, false, rfl, .ty _, .base (.int i), kit_ty (by decide +kernel), _, rfl, _, rfl, iteT ?_⟩
      refine ⟨_, rfl, _, rfl, rfl, ?_⟩
      rw [decide_eq_true (rfl : (V.int i) = V.int i)]
      exact q _ s2
    | @lst a xs ds ea hxs =>
      cases hy with
      | @lst b ys _ eb hys =>
        have hlen : xs.length = ys.length := hxs.length.trans hys.length.symm
        refine ⟨_, rfl, by show 2 ≤ sizeLine; decide, fun t1 n1 => ?_⟩
        have s1 := same_new (o := HO.tup [.ty "list", .ty "tuple"]) n1
        refine ⟨_, t1, _, _, _, true, rfl, upd_same, .cons (.ty _) (.cons (.ty _) .nil), .base (.lst (s1 _ _ eb)), kit2 (T := "list") (a := "list") (b := "tuple") (r1 := true) (r2 := false) (by decide +kernel) (by decide +kernel), _, rfl, iteT ?_⟩
        refine ⟨_, rfl, _, _, _, _, true, rfl, .ty _, .base (.lst (s1 _ _ ea)), kit_ty (by decide +kernel), _, rfl, _, _, _, _, true, rfl, .ty _, .base (.lst (s1 _ _ eb)), kit_ty (by decide +kernel), rfl, _, rfl, iteF ?_⟩
        refine ⟨_, rfl, _, _, _, _, false, rfl, .ty _, .base (.lst (s1 _ _ ea)), kit_ty (by decide +kernel), _, rfl, _, _, _, _, false, rfl, .ty _, .base (.lst (s1 _ _ eb)), kit_ty (by decide +kernel), rfl, _, rfl, iteF ?_⟩
        refine ⟨_, rfl, a, xs, rfl, .inl (SqL.of (s1 _ _ ea)), _, rfl, b, ys, rfl, .inl (SqL.of (s1 _ _ eb)), rfl, _, rfl, ?_⟩
        rw [hlen, decide_eq_true (rfl : (V.int (ys.length : Int)) = V.int (ys.length : Int))]
        refine iteT ?_
        refine ⟨_, rfl, _, rfl, a, b, xs, ys, rfl, .inl ⟨SqL.of (s1 _ _ ea), SqL.of (s1 _ _ eb), fun D nD => ?_⟩⟩
        have nDH : H D = none := s1.free nD
        refine lc_it (walk_zip (n := xs.length) (by omega)) (fun i H3 => Same H H3 ∧ H3 D = some (.lst ((List.replicate i true).map V.bl)))
          ⟨s1.trans (same_new nD), upd_same⟩ (fun i H3 _ p => ⟨SqL.of (p.1 _ _ ea), SqL.of (p.1 _ _ eb)⟩) ?_ ?_
        · rintro i x H3 H4 hi ⟨s3, eD⟩ ⟨t, x1, x2, rfl, nt, rfl, f1, f2⟩
          have f1' : xs[i]? = some x1 := f1
          have f2' : ys[i]? = some x2 := f2
          obtain ⟨d1, e1, g1⟩ := hxs.get f1'
          obtain ⟨d2, e2, g2⟩ := hys.get f2'
          obtain rfl : d1 = d2 := Option.some.inj (e1.symm.trans e2)
          have s4 := s3.trans (same_new (o := HO.tup [x1, x2]) nt)
          refine ⟨t, _, rfl, .inl (.inl upd_same), rfl, _, _, rfl, _, _, rfl, rfl, rfl, _, rfl, _, rfl, x1, x2, d1, rfl, g1.mono s4, g2.mono s4, hs.2 d1 (List.mem_of_getElem? e1), fun H5 s5 => ?_⟩
          refine ⟨_, s5 _ _ ((upd_ne (ne_of_none eD nt)).trans eD), ?_, same_mut (s4.trans s5) nDH, ?_⟩
          · rw [List.length_map, List.length_replicate]
            have z := hs.1
            have z2 := hxs.length
            exact Nat.lt_of_le_of_lt (show i ≤ 1000 by omega) (by decide)
          · rw [upd_same, List.replicate_succ', List.map_append]
            rfl
        · rintro H3 ⟨s3, eD⟩
          refine ⟨D, _, rfl, SqL.of eD, ?_⟩
          have al : (List.replicate xs.length true).all id = true := by
            rw [List.all_eq_true]
            intro z hz
            rw [List.eq_of_mem_replicate hz]
            rfl
          rw [al]
          exact q _ s3
    | @tup a xs ds ea hxs =>
      cases hy with
      | @tup b ys _ eb hys =>
        have hlen : xs.length = ys.length := hxs.length.trans hys.length.symm
        refine ⟨_, rfl, by show 2 ≤ sizeLine; decide, fun t1 n1 => ?_⟩
        have s1 := same_new (o := HO.tup [.ty "list", .ty "tuple"]) n1
        refine ⟨_, t1, _, _, _, true, rfl, upd_same, .cons (.ty _) (.cons (.ty _) .nil), .base (.tup (s1 _ _ eb)), kit2 (T := "tuple") (a := "list") (b := "tuple") (r1 := false) (r2 := true) (by decide +kernel) (by decide +kernel), _, rfl, iteT ?_⟩
        refine ⟨_, rfl, _, _, _, _, false, rfl, .ty _, .base (.tup (s1 _ _ ea)), kit_ty (by decide +kernel), _, rfl, _, _, _, _, false, rfl, .ty _, .base (.tup (s1 _ _ eb)), kit_ty (by decide +kernel), rfl, _, rfl, iteF ?_⟩
        refine ⟨_, rfl, _, _, _, _, true, rfl, .ty _, .base (.tup (s1 _ _ ea)), kit_ty (by decide +kernel), _, rfl, _, _, _, _, true, rfl, .ty _, .base (.tup (s1 _ _ eb)), kit_ty (by decide +kernel), rfl, _, rfl, iteF ?_⟩
        refine ⟨_, rfl, a, xs, rfl, .inr (SqT.of (s1 _ _ ea)), _, rfl, b, ys, rfl, .inr (SqT.of (s1 _ _ eb)), rfl, _, rfl, ?_⟩
        rw [hlen, decide_eq_true (rfl : (V.int (ys.length : Int)) = V.int (ys.length : Int))]
        refine iteT ?_
        refine ⟨_, rfl, _, rfl, a, b, xs, ys, rfl, .inr ⟨SqT.of (s1 _ _ ea), SqT.of (s1 _ _ eb), fun D nD => ?_⟩⟩
        have nDH : H D = none := s1.free nD
        refine lc_it (walk_zipT2 hlen) (fun i H3 => Same H H3 ∧ H3 D = some (.lst ((List.replicate i true).map V.bl)))
          ⟨s1.trans (same_new nD), upd_same⟩ (fun i H3 _ p => ⟨SqT.of (p.1 _ _ ea), SqT.of (p.1 _ _ eb)⟩) ?_ ?_
        · rintro i x H3 H4 hi ⟨s3, eD⟩ ⟨t, x1, x2, rfl, nt, rfl, f1, f2⟩
          have f1' : xs[i]? = some x1 := f1
          have f2' : ys[i]? = some x2 := f2
          obtain ⟨d1, e1, g1⟩ := hxs.get f1'
          obtain ⟨d2, e2, g2⟩ := hys.get f2'
          obtain rfl : d1 = d2 := Option.some.inj (e1.symm.trans e2)
          have s4 := s3.trans (same_new (o := HO.tup [x1, x2]) nt)
          refine ⟨t, _, rfl, .inl (.inl upd_same), rfl, _, _, rfl, _, _, rfl, rfl, rfl, _, rfl, _, rfl, x1, x2, d1, rfl, g1.mono s4, g2.mono s4, hs.2 d1 (List.mem_of_getElem? e1), fun H5 s5 => ?_⟩
          refine ⟨_, s5 _ _ ((upd_ne (ne_of_none eD nt)).trans eD), ?_, same_mut (s4.trans s5) nDH, ?_⟩
          · rw [List.length_map, List.length_replicate]
            have z := hs.1
            have z2 := hxs.length
            exact Nat.lt_of_le_of_lt (show i ≤ 1000 by omega) (by decide)
          · rw [upd_same, List.replicate_succ', List.map_append]
            rfl
        · rintro H3 ⟨s3, eD⟩
          refine ⟨D, _, rfl, SqL.of eD, ?_⟩
          have al : (List.replicate xs.length true).all id = true := by
            rw [List.all_eq_true]
            intro z hz
            rw [List.eq_of_mem_replicate hz]
            rfl
          rw [al]
          exact q _ s3
end
end K01
set_option Elab.async false
set_option linter.all false
set_option maxRecDepth 100000
set_option maxHeartbeats 4000000
namespace K01
open PySem PySem.Spec PyProof.Rows L2
/-- the sorts of arguments -/
inductive Kd where
  | count | natural | number | kind | path | text | words
  deriving DecidableEq
def shapeOf : Kd → String
  | .count => "count" | .natural => "natural" | .number => "number" | .kind => "kind" | .path => "path" | .text => "text" | .words => "words"
def signOf : Kd → Nat
  | .count => 49 | .natural => 48 | .number => 110 | .kind => 107 | .path => 112 | .text => 116 | .words => 108
def table : List (Str × List Kd) := [("fork", [.count]), ("lead", []), ("adopt", []), ("join", [.natural, .natural]), ("end", [.number]), ("wait", [.natural]), ("send", [.kind, .natural]), ("sendall", [.kind, .natural]),
  ("about", [.natural]), ("get", [.natural]), ("set", [.natural, .number]), ("make", [.path, .text]), ("remove", [.path]), ("open", [.path]), ("seek", [.natural, .natural]),
  ("pipe", []), ("pair", []), ("area", []), ("copy", [.natural, .natural]), ("close", [.natural]), ("handles", []), ("same", [.natural, .natural, .natural]),
  ("peek", [.natural, .natural]), ("poke", [.natural, .natural, .number]), ("read", [.natural, .count]), ("write", [.natural, .words]), ("pass", [.natural, .natural]), ("take", [.natural])]
def lows (l : List Nat) : Bool := l.all fun c => decide (97 ≤ c ∧ c ≤ 122)
def isPath (s : Str) : Bool := !decide (s = "") && lows s.cps.toList
def fours : List Str := ["stop", "go", "end", "wake"]
def fitsK (k : Kd) : PyData → Bool
  | .int i => match k with | .count => decide (1 ≤ i) | .natural => decide (0 ≤ i) | .number => true | _ => false
  | .str s => match k with | .kind => decide (s ∈ fours) | .path => isPath s | .text => true | .words => !decide (s = "") | _ => false
  | _ => false
def fitAll : List Kd → List PyData → Bool
  | [], [] => true
  | k :: ks, d :: ds => fitsK k d && fitAll ks ds
  | _, _ => false
/-- a call as sections 4 and 5 show it -/
def okCall : PyData → Bool
  | .tuple (.str n :: ds) => match table.lookup n with | some ks => fitAll ks ds | none => false
  | _ => false
theorem fitAll_len : ∀ {ks : List Kd} {ds : List PyData}, ks.length ≠ ds.length → fitAll ks ds = false
  | [], [], h => absurd rfl h
  | [], _ :: _, _ => rfl
  | _ :: _, [], _ => rfl
  | k :: ks, d :: ds, h => by
    have e := fitAll_len (ks := ks) (ds := ds) (fun z => h (by rw [List.length_cons, List.length_cons, z]))
    show (fitsK k d && fitAll ks ds) = false
    rw [e, Bool.and_false]
theorem shape_inj : ∀ {a b : Kd}, decide (V.str (shapeOf a) = V.str (shapeOf b)) = decide (a = b) := by
  intro a b
  cases a <;> cases b <;> decide +kernel
abbrev sIsNum : Stmt := topS 3
abbrev sIsPath : Stmt := topS 4
abbrev sNumFits : Stmt := topS 5
abbrev sTextFits : Stmt := topS 6
abbrev sFits : Stmt := topS 7
theorem scIsNum : FnScope ["value"] ["value"] (defScope sIsNum) := ⟨rfl, rfl, rfl, by decide +kernel, rfl, by decide +kernel, by decide +kernel⟩
theorem scIsPath : FnScope ["text", "letter"] ["text"] (defScope sIsPath) := ⟨rfl, rfl, rfl, by decide +kernel, rfl, by decide +kernel, by decide +kernel⟩
theorem scNumFits : FnScope ["shape", "value"] ["shape", "value"] (defScope sNumFits) := ⟨rfl, rfl, rfl, by decide +kernel, rfl, by decide +kernel, by decide +kernel⟩
theorem scTextFits : FnScope ["shape", "value"] ["shape", "value"] (defScope sTextFits) := ⟨rfl, rfl, rfl, by decide +kernel, rfl, by decide +kernel, by decide +kernel⟩
theorem scFits : FnScope ["shape", "value"] ["shape", "value"] (defScope sFits) := ⟨rfl, rfl, rfl, by decide +kernel, rfl, by decide +kernel, by decide +kernel⟩
def isInt : PyData → Bool
  | .int _ => true
  | _ => false
def tyName : PyData → String
  | .none => "NoneType" | .bool _ => "bool" | .int _ => "int" | .str _ => "str" | .list _ => "list" | .tuple _ => "tuple" | .dict _ => "dict"
theorem Dx.ty {K : PySem.W.Frag} {H : Hp} {v : V} {d : PyData} (h : Dx H v d) : TyX K H v (.type (tyName d)) := by
  cases h with
  | non => exact .base .non
  | bl b => exact .base (.bl b)
  | int i => exact .base (.int i)
  | str x => exact .base (.str x)
  | lst e _ => exact .base (.lst e)
  | tup e _ => exact .base (.tup e)
def spIsNum : Sp := fun vs H Q _ => ∃ (v : V) (d : PyData), vs = [v] ∧ Dx H v d ∧ Q (.bl (isInt d)) H
def spIsPath : Sp := fun vs H Q _ => ∃ s : Str, vs = [.str s] ∧ s.length ≤ 1000 ∧ ∀ H', Same H H' → Q (.bl (isPath s)) H'
def spNumFits : Sp := fun vs H Q _ => ∃ (k : Kd) (i : Int), vs = [.str (shapeOf k), .int i] ∧ Q (.bl (fitsK k (.int i))) H
def spTextFits : Sp := fun vs H Q _ => ∃ (k : Kd) (s : Str), vs = [.str (shapeOf k), .str s] ∧ s.length ≤ 1000 ∧ ∀ H', Same H H' → Q (.bl (fitsK k (.str s))) H'
/-- all texts of it are short -/
def Brief : PyData → Prop
  | .str s => s.length ≤ 1000
  | _ => True
def spFits : Sp := fun vs H Q _ => ∃ (k : Kd) (v : V) (d : PyData), vs = [.str (shapeOf k), v] ∧ Dx H v d ∧ Brief d ∧ ∀ H', Same H H' → Q (.bl (fitsK k d)) H'
section
variable {P : Program} {w : World} {K : PySem.W.Frag} {mg : Str → Option Value} {base : Heap} {f fN fP fT : Addr} {fd dN dP dT : FuncData}
theorem ok_isnum (F : Fun K "is_number" "is_number" sIsNum f fd) (mI : mg "isinstance" = none) (mi : mg "int" = none) (mB : mg "bool" = none) : FnOk P w K mg base CX0 1 f fd ["value"] spIsNum := by
  refine F.ok scIsNum (fun vs H Q E h => ?_) (fun cdv A outer s H vs Q E hr h => ?_)
  · obtain ⟨v, d, rfl, _⟩ := h
    rfl
  · obtain ⟨v, d, rfl, hd, q⟩ := h
    refine ⟨_, pss_one (ps_ret (pe_and (pe_callB call_isi (by rfl) mI (by decide +kernel) (pa_cons (pv 0) (pa_cons (pe_bltn (v := .ty "int") (by rfl) mi (by decide +kernel) rfl) pa_nil)))
      (pe_one (pe_not (pe_callB call_isi (by rfl) mI (by decide +kernel) (pa_cons (pv 0) (pa_cons (pe_bltn (v := .ty "bool") (by rfl) mB (by decide +kernel) rfl) pa_nil))))))), ?_⟩
    cases hd with
    | non => exact ⟨_, rfl, _, _, _, _, false, rfl, .ty _, .base .non, kit_ty (by decide +kernel), _, rfl, iteF q⟩
    | bl b => exact ⟨_, rfl, _, _, _, _, true, rfl, .ty _, .base (.bl b), kit_ty (by decide +kernel), _, rfl, iteT ⟨_, rfl, _, _, _, _, true, rfl, .ty _, .base (.bl b), kit_ty (by decide +kernel), _, rfl, q⟩⟩
    | int i => exact ⟨_, rfl, _, _, _, _, true, rfl, .ty _, .base (.int i), kit_ty (by decide +kernel), _, rfl, iteT ⟨_, rfl, _, _, _, _, false, rfl, .ty _, .base (.int i), kit_ty (by decide +kernel), _, rfl, q⟩⟩
    | str x => exact ⟨_, rfl, _, _, _, _, false, rfl, .ty _, .base (.str x), kit_ty (by decide +kernel), _, rfl, iteF q⟩
    | lst e h2 => exact ⟨_, rfl, _, _, _, _, false, rfl, .ty _, .base (.lst e), kit_ty (by decide +kernel), _, rfl, iteF q⟩
    | tup e h2 => exact ⟨_, rfl, _, _, _, _, false, rfl, .ty _, .base (.tup e), kit_ty (by decide +kernel), _, rfl, iteF q⟩
theorem ok_numfits (F : Fun K "number_fits" "number_fits" sNumFits f fd) : FnOk P w K mg base CX0 1 f fd ["shape", "value"] spNumFits := by
  refine F.ok scNumFits (fun vs H Q E h => ?_) (fun cdv A outer s H vs Q E hr h => ?_)
  · obtain ⟨k, i, rfl, _⟩ := h
    rfl
  · obtain ⟨k, i, rfl, q⟩ := h
    refine ⟨_, pss_cons (ps_if (pt_cmpR op_eq (pv 0) pe_str (nomark _)) (pss_one (ps_ret (pe_cmpR op_ge (pv 1) pe_int (nomark _)))) pss_nil)
      (pss_cons (ps_if (pt_cmpR op_eq (pv 0) pe_str (nomark _)) (pss_one (ps_ret (pe_cmpR op_ge (pv 1) pe_int (nomark _)))) pss_nil)
      (pss_one (ps_ret (pe_cmpR op_eq (pv 0) pe_str (nomark _))))), ?_⟩
    have e1 : decide (V.str (shapeOf k) = V.str "count") = decide (k = .count) := shape_inj (a := k) (b := .count)
    have e2 : decide (V.str (shapeOf k) = V.str "natural") = decide (k = .natural) := shape_inj (a := k) (b := .natural)
    have e3 : decide (V.str (shapeOf k) = V.str "number") = decide (k = .number) := shape_inj (a := k) (b := .number)
    refine ⟨_, rfl, rfl, _, rfl, ?_⟩
    rw [e1]
    refine ite2 (fun h1 => ?_) (fun h1 => ?_)
    · obtain rfl := of_decide_eq_true h1
      exact ⟨_, rfl, _, _, rfl, rfl, q⟩
    refine ⟨_, rfl, rfl, _, rfl, ?_⟩
    rw [e2]
    refine ite2 (fun h2 => ?_) (fun h2 => ?_)
    · obtain rfl := of_decide_eq_true h2
      exact ⟨_, rfl, _, _, rfl, rfl, q⟩
    refine ⟨_, rfl, rfl, ?_⟩
    rw [e3]
    cases k with
    | count => exact absurd rfl h1
    | natural => exact absurd rfl h2
    | number => exact q
    | kind => exact q
    | path => exact q
    | text => exact q
    | words => exact q
end
end K01
set_option Elab.async false
set_option linter.all false
set_option maxRecDepth 100000
set_option maxHeartbeats 4000000
namespace K01
open PySem PySem.Spec PyProof.Rows L2
def inLow (c : Nat) : Bool := decide (97 ≤ c ∧ c ≤ 122)
theorem le_a (c : Nat) : (!decide (([c] : List Nat) < [97])) = decide (97 ≤ c) := by
  by_cases h : c < 97
  · rw [decide_eq_true (show ([c] : List Nat) < [97] from List.Lex.rel h), decide_eq_false (by omega)]
    rfl
  · have n : ¬ ([c] : List Nat) < [97] := fun z => by
      cases z with
      | rel r => exact h r
      | cons r => cases r
    rw [decide_eq_false n, decide_eq_true (by omega)]
    rfl
theorem le_z (c : Nat) : (!decide (([122] : List Nat) < [c])) = decide (c ≤ 122) := by
  by_cases h : 122 < c
  · rw [decide_eq_true (show ([122] : List Nat) < [c] from List.Lex.rel h), decide_eq_false (by omega)]
    rfl
  · have n : ¬ ([122] : List Nat) < [c] := fun z => by
      cases z with
      | rel r => exact h r
      | cons r => cases r
    rw [decide_eq_false n, decide_eq_true (by omega)]
    rfl
theorem lows_eq : ∀ l : List Nat, ((l.map inLow).all id) = lows l
  | [] => rfl
  | c :: l => by
    rw [List.map_cons, List.all_cons, lows_eq l]
    rfl
section
variable {P : Program} {w : World} {K : PySem.W.Frag} {mg : Str → Option Value} {base : Heap} {f fN fP fT fF kA dA : Addr} {fd dN dP dT dF : FuncData}
theorem ok_ispath (F : Fun K "is_path" "is_path" sIsPath f fd) (mA : mg "all" = none) : FnOk P w K mg base CX0 1 f fd ["text"] spIsPath := by
  refine F.ok scIsPath (fun vs H Q E h => ?_) (fun cdv A outer s H vs Q E hr h => ?_)
  · obtain ⟨z, rfl, _⟩ := h
    rfl
  · obtain ⟨z, rfl, hz, q⟩ := h
    refine ⟨_, pss_one (ps_ret (pe_and (pe_cmpR op_ne (pv 0) pe_str (nomark _)) (pe_one (pe_callB (cr_all rfl) (by rfl) mA (by decide +kernel) (pa_cons (pe_lc (own := [("letter", 1)]) (g := gName 1) (tt := tYes) rfl scIsPath.nd (pi_str (pv 0)) (blkOk_by (N := ["text", "letter"]) (sc := defScope sIsPath) (by decide +kernel))
      (fun _ _ _ _ _ => pg_name (i := 1) scIsPath.nd rfl (Or.inl rfl)) (fun _ _ _ _ _ => pts_nil) (fun _ _ _ _ _ => pe_chain op_le_str op_le_str pe_str (pv 1) pe_str)) pa_nil))))), ?_⟩
    refine ⟨_, rfl, rfl, _, rfl, ?_⟩
    have e0 : decide (V.str z = V.str "") = decide (z = "") := by
      by_cases h : z = ""
      · rw [decide_eq_true h, decide_eq_true (congrArg V.str h)]
      · rw [decide_eq_false h, decide_eq_false fun e => h (V.str.inj e)]
    rw [e0]
    have en : isPath z = (!decide (z = "") && lows z.cps.toList) := rfl
    cases hd : (!decide (z = "")) with
    | false =>
      refine iteF ?_
      have := q H (Same.refl H)
      rw [en, hd] at this
      exact this
    | true =>
      refine iteT ?_
      refine ⟨_, rfl, z, rfl, fun D nD => ?_⟩
      refine lc_it (walk_str (z := z)) (fun i H3 => Same H H3 ∧ H3 D = some (.lst (((z.cps.toList.take i).map inLow).map V.bl))) ⟨same_new nD, upd_same⟩ (fun _ _ _ _ => True.intro) ?_ ?_
      · rintro i x H3 H4 hi ⟨s3, e3⟩ ⟨rfl, c, hc, rfl⟩
        have hc2 : z.cps.toList[i]? = some c := by simpa using hc
        have put : ∀ b : Bool, b = inLow c → ∃ acc, H4 D = some (.lst acc) ∧ acc.length < sizeLine ∧ Same H (upd H4 D (.lst (acc ++ [V.bl b]))) ∧ upd H4 D (.lst (acc ++ [V.bl b])) D = some (.lst (((z.cps.toList.take (i + 1)).map inLow).map V.bl)) := by
          rintro b rfl
          refine ⟨_, e3, ?_, same_mut s3 nD, ?_⟩
          · rw [List.length_map, List.length_map, List.length_take]
            have : z.cps.toList.length = z.length := by simp [Str.length]
            exact Nat.lt_of_le_of_lt (show min i z.cps.toList.length ≤ 1000 by omega) (by decide)
          · rw [upd_same, List.take_add_one, hc2, List.map_append, List.map_append]
            rfl
        refine ⟨rfl, _, rfl, _, _, rfl, rfl, _, rfl, ?_⟩
        have l1 : (!decide ((⟨#[c]⟩ : Str).cps.toList < ("a" : Str).cps.toList)) = decide (97 ≤ c) := le_a c
        have l2 : (!decide (("z" : Str).cps.toList < (⟨#[c]⟩ : Str).cps.toList)) = decide (c ≤ 122) := le_z c
        rw [l1]
        by_cases h1 : 97 ≤ c
        · rw [decide_eq_true h1]
          refine iteT ⟨_, _, rfl, rfl, ?_⟩
          rw [l2]
          refine put _ ?_
          unfold inLow
          by_cases h2 : c ≤ 122
          · rw [decide_eq_true h2, decide_eq_true ⟨h1, h2⟩]
          · rw [decide_eq_false h2, decide_eq_false fun z => h2 z.2]
        · rw [decide_eq_false h1]
          refine iteF (put _ ?_)
          unfold inLow
          rw [decide_eq_false fun z => h1 z.1]
      · rintro H3 ⟨s3, e3⟩
        refine ⟨D, _, rfl, SqL.of e3, ?_⟩
        have et : z.cps.toList.take z.cps.size = z.cps.toList := by rw [← Array.length_toList, List.take_length]
        rw [et, lows_eq]
        have := q H3 s3
        rw [en, hd] at this
        exact this
end
end K01
set_option Elab.async false
set_option linter.all false
set_option maxRecDepth 100000
set_option maxHeartbeats 4000000
namespace K01
open PySem PySem.Spec PyProof.Rows L2
theorem in_fours (s : Str) : inV (.str s) (fours.map V.str) = decide (s ∈ fours) := by
  have key : ∀ l : List Str, inV (.str s) (l.map V.str) = decide (s ∈ l) := by
    intro l
    induction l with
    | nil => rfl
    | cons a l ih =>
      unfold inV at ih ⊢
      rw [List.map_cons, List.any_cons, ih]
      by_cases h : s = a
      · subst h
        show (s == s || _) = _
        rw [beq_self_eq_true, Bool.true_or, decide_eq_true List.mem_cons_self]
      · show (a == s || _) = _
        rw [beq_eq_false_iff_ne.mpr (fun z => h z.symm), Bool.false_or]
        by_cases h2 : s ∈ l
        · rw [decide_eq_true h2, decide_eq_true (List.mem_cons_of_mem _ h2)]
        · rw [decide_eq_false h2, decide_eq_false fun z => (List.mem_cons.mp z).elim h h2]
  exact key fours
theorem no_text (z : Str) : decide (V.str z = V.str "") = decide (z = "") := by
  by_cases h : z = ""
  · rw [decide_eq_true h, decide_eq_true (congrArg V.str h)]
  · rw [decide_eq_false h, decide_eq_false fun e => h (V.str.inj e)]
section
variable {P : Program} {w : World} {K : PySem.W.Frag} {mg : Str → Option Value} {base : Heap} {f fN fP fT fF kA dA : Addr} {fd dN dP dT dF : FuncData}
theorem ok_textfits (F : Fun K "text_fits" "text_fits" sTextFits f fd) (G : FnOk P w K mg base CX0 1 fP dP ["text"] spIsPath) (bG : Binds K dP ["text"] []) (kG : PySem.W.keepIn K (.ref fP) = true) (mG : mg "is_path" = some (.ref fP))
    (mK : mg "KINDS" = some (.ref kA)) (hK : ∀ H, SqT K H kA (fours.map V.str)) : FnOk P w K mg base CX0 2 f fd ["shape", "value"] spTextFits := by
  refine F.ok scTextFits (fun vs H Q E h => ?_) (fun cdv A outer s H vs Q E hr h => ?_)
  · obtain ⟨k, z, rfl, _⟩ := h
    rfl
  · obtain ⟨k, z, rfl, hz, q⟩ := h
    refine ⟨_, pss_cons (ps_if (pt_cmpR op_eq (pv 0) pe_str (nomark _)) (pss_one (ps_ret (pe_call G hr rfl mG kG bG .nil pass0 (pa_cons (pv 1) pa_nil)))) pss_nil)
      (pss_cons (ps_if (pt_cmpR op_eq (pv 0) pe_str (nomark _)) (pss_one (ps_ret (pe_cmpR op_in_seq (pv 1) (pe_glob (v := .ref kA) rfl mK rfl) rfl))) pss_nil)
      (pss_cons (ps_if (pt_cmpR op_eq (pv 0) pe_str (nomark _)) (pss_one (ps_ret (pe_cmpR op_ne (pv 1) pe_str (nomark _)))) pss_nil)
      (pss_one (ps_ret (pe_cmpR op_eq (pv 0) pe_str (nomark _)))))), ?_⟩
    have e1 : decide (V.str (shapeOf k) = V.str "path") = decide (k = .path) := shape_inj (a := k) (b := .path)
    have e2 : decide (V.str (shapeOf k) = V.str "kind") = decide (k = .kind) := shape_inj (a := k) (b := .kind)
    have e3 : decide (V.str (shapeOf k) = V.str "words") = decide (k = .words) := shape_inj (a := k) (b := .words)
    have e4 : decide (V.str (shapeOf k) = V.str "text") = decide (k = .text) := shape_inj (a := k) (b := .text)
    have qq := q H (Same.refl H)
    refine ⟨_, rfl, rfl, _, rfl, ?_⟩
    rw [e1]
    refine ite2 (fun h1 => ?_) (fun h1 => ?_)
    · obtain rfl := of_decide_eq_true h1
      exact ⟨_, rfl, z, rfl, hz, fun H' s' => q H' s'⟩
    refine ⟨_, rfl, rfl, _, rfl, ?_⟩
    rw [e2]
    refine ite2 (fun h2 => ?_) (fun h2 => ?_)
    · obtain rfl := of_decide_eq_true h2
      refine ⟨_, rfl, kA, _, rfl, .inr (hK H), rfl, by decide +kernel, ?_⟩
      show Q (.bl (inV (.str z) (fours.map V.str))) H
      rw [in_fours]
      exact qq
    refine ⟨_, rfl, rfl, _, rfl, ?_⟩
    rw [e3]
    refine ite2 (fun h3 => ?_) (fun h3 => ?_)
    · obtain rfl := of_decide_eq_true h3
      refine ⟨_, rfl, rfl, ?_⟩
      rw [no_text]
      exact qq
    refine ⟨_, rfl, rfl, ?_⟩
    rw [e4]
    cases k with
    | count => exact qq
    | natural => exact qq
    | number => exact qq
    | kind => exact absurd rfl h2
    | path => exact absurd rfl h1
    | text => exact qq
    | words => exact absurd rfl h3
theorem ok_fits (F : Fun K "fits" "fits" sFits f fd) (GN : FnOk P w K mg base CX0 1 fN dN ["value"] spIsNum) (bN : Binds K dN ["value"] []) (kN : PySem.W.keepIn K (.ref fN) = true) (mN : mg "is_number" = some (.ref fN))
    (GF : FnOk P w K mg base CX0 1 fF dF ["shape", "value"] spNumFits) (bF : Binds K dF ["shape", "value"] []) (kF : PySem.W.keepIn K (.ref fF) = true) (mF : mg "number_fits" = some (.ref fF))
    (GT : FnOk P w K mg base CX0 2 fT dT ["shape", "value"] spTextFits) (bT : Binds K dT ["shape", "value"] []) (kT : PySem.W.keepIn K (.ref fT) = true) (mT : mg "text_fits" = some (.ref fT))
    (mI : mg "isinstance" = none) (mS : mg "str" = none) : FnOk P w K mg base CX0 3 f fd ["shape", "value"] spFits := by
  refine F.ok scFits (fun vs H Q E h => ?_) (fun cdv A outer s H vs Q E hr h => ?_)
  · obtain ⟨k, v, d, rfl, _⟩ := h
    rfl
  · obtain ⟨k, v, d, rfl, hd, hb, q⟩ := h
    have h1 : Room 1 _ := hr.mono (by decide)
    refine ⟨_, pss_cons (ps_if (pt_val (pe_call GN h1 rfl mN kN bN .nil pass0 (pa_cons (pv 1) pa_nil))) (pss_one (ps_ret (pe_call GF h1 rfl mF kF bF .nil pass0 (pa_cons (pv 0) (pa_cons (pv 1) pa_nil))))) pss_nil)
      (pss_one (ps_ret (pe_and (pe_callB call_isi (by rfl) mI (by decide +kernel) (pa_cons (pv 1) (pa_cons (pe_bltn (v := .ty "str") (by rfl) mS (by decide +kernel) rfl) pa_nil))) (pe_one (pe_call GT hr rfl mT kT bT .nil pass0 (pa_cons (pv 0) (pa_cons (pv 1) pa_nil))))))), ?_⟩
    refine ⟨_, rfl, v, d, rfl, hd, _, rfl, ?_⟩
    have qq := q H (Same.refl H)
    cases hd with
    | non => exact iteF ⟨_, rfl, _, _, _, _, false, rfl, .ty _, .base .non, kit_ty (by decide +kernel), _, rfl, iteF qq⟩
    | bl b => exact iteF ⟨_, rfl, _, _, _, _, false, rfl, .ty _, .base (.bl b), kit_ty (by decide +kernel), _, rfl, iteF qq⟩
    | int i => exact iteT ⟨_, rfl, _, rfl, k, i, rfl, qq⟩
    | str z => exact iteF ⟨_, rfl, _, _, _, _, true, rfl, .ty _, .base (.str z), kit_ty (by decide +kernel), _, rfl, iteT ⟨_, rfl, _, rfl, k, z, rfl, hb, fun H' s' => q H' s'⟩⟩
    | lst e h2 => exact iteF ⟨_, rfl, _, _, _, _, false, rfl, .ty _, .base (.lst e), kit_ty (by decide +kernel), _, rfl, iteF qq⟩
    | tup e h2 => exact iteF ⟨_, rfl, _, _, _, _, false, rfl, .ty _, .base (.tup e), kit_ty (by decide +kernel), _, rfl, iteF qq⟩
end
end K01
set_option Elab.async false
set_option linter.all false
set_option maxRecDepth 100000
set_option maxHeartbeats 4000000
namespace K01
open PySem PySem.Spec PyProof.Rows L2
abbrev sIsCall : Stmt := topS 9
abbrev nIsCall : List Str := ["thing", "shapes", "shape", "value"]
theorem scIsCall : FnScope nIsCall ["thing"] (defScope sIsCall) := ⟨rfl, rfl, rfl, by decide +kernel, rfl, by decide +kernel, by decide +kernel⟩
/-- what the table of arguments holds, in the written part -/
structure ArgT (K : PySem.W.Frag) (w : World) (dA : Addr) (es : Array DictEntry) (n : Nat) : Prop where
  D : KDict K w dA es n
  yes : ∀ z ks, table.lookup z = some ks → ∃ a, PySem.W.nsIn K dA z = some (some (.ref a)) ∧ ∀ H, SqT K H a (ks.map fun k => V.str (shapeOf k))
  no : ∀ z, table.lookup z = none → PySem.W.nsIn K dA z = some none
def BriefT : PyData → Prop
  | .tuple ds => ds.length ≤ 1000 ∧ ∀ e ∈ ds, Brief e
  | _ => True
def spIsCall : Sp := fun vs H Q _ => ∃ (v : V) (d : PyData), vs = [v] ∧ Dx H v d ∧ BriefT d ∧ ∀ H', Same H H' → Q (.bl (okCall d)) H'
theorem cut_one (x : V) (xs : List V) : cutV (x :: xs) (some 1) none = xs := by
  unfold cutV
  rw [show HT.sIx (x :: xs).length 0 (some 1) = min 1 (x :: xs).length from HT.sIx_nat (x :: xs).length 0 1, HT.sIx_none, List.length_cons]
  rw [show min 1 (xs.length + 1) = 1 by omega]
  show xs.take (xs.length + 1 - 1) = xs
  rw [Nat.add_sub_cancel, List.take_length]
theorem cut_part (x : V) (xs : List V) : ¬ (HT.sIx (x :: xs).length 0 (some 1) = 0 ∧ HT.sIx (x :: xs).length (x :: xs).length none = (x :: xs).length) := fun z => by
  have e := z.1
  rw [show HT.sIx (x :: xs).length 0 (some 1) = min 1 (x :: xs).length from HT.sIx_nat (x :: xs).length 0 1, List.length_cons] at e
  omega
theorem fit_all : ∀ (ks : List Kd) (ds : List PyData), ks.length = ds.length → ((ks.zip ds).map fun p => fitsK p.1 p.2).all id = fitAll ks ds
  | [], [], _ => rfl
  | k :: ks, d :: ds, h => by
    have e := fit_all ks ds (by simpa using h)
    rw [List.zip_cons_cons, List.map_cons, List.all_cons, e]
    rfl
theorem zip_take (ks : List Kd) (ds : List PyData) {i : Nat} {k : Kd} {d : PyData} (hk : ks[i]? = some k) (hd : ds[i]? = some d) :
    ((ks.zip ds).take (i + 1)).map (fun p => fitsK p.1 p.2) = ((ks.zip ds).take i).map (fun p => fitsK p.1 p.2) ++ [fitsK k d] := by
  have e : (ks.zip ds)[i]? = some (k, d) := by
    rw [List.getElem?_zip_eq_some]
    exact ⟨hk, hd⟩
  rw [List.take_add_one, e, List.map_append]
  rfl
section
variable {P : Program} {w : World} {K : PySem.W.Frag} {mg : Str → Option Value} {base : Heap} {f fF dA : Addr} {fd dF : FuncData} {es : Array DictEntry} {nn : Nat}
theorem ok_iscall (F : Fun K "is_call" "is_call" sIsCall f fd) (G : FnOk P w K mg base CX0 3 fF dF ["shape", "value"] spFits) (bG : Binds K dF ["shape", "value"] []) (kG : PySem.W.keepIn K (.ref fF) = true) (mG : mg "fits" = some (.ref fF))
    (mA : mg "ARGUMENTS" = some (.ref dA)) (T : ArgT K w dA es nn) (mI : mg "isinstance" = none) (mT : mg "tuple" = none) (mS : mg "str" = none) (mL : mg "len" = none) (ma : mg "all" = none) (mZ : mg "zip" = none) :
    FnOk P w K mg base CX0 4 f fd ["thing"] spIsCall := by
  refine F.ok scIsCall (fun vs H Q E h => ?_) (fun cdv A outer s H vs Q E hr h => ?_)
  · obtain ⟨v, d, rfl, _⟩ := h
    rfl
  · obtain ⟨v, d, rfl, hd, hb, q⟩ := h
    refine ⟨_, pss_cons (ps_if (PW.pt (pw_or (pt_not (pt_val (pe_callB call_isi (by rfl) mI (by decide +kernel) (pa_cons (pv 0) (pa_cons (pe_bltn (v := .ty "tuple") (by rfl) mT (by decide +kernel) rfl) pa_nil))))) (pw_or1 (pt_cmpR op_eq (pe_callB call_len_seq (by rfl) mL PySem.boot_len (pa_cons (pv 0) pa_nil)) pe_int (nomark _))))) (pss_one (ps_ret pe_bl)) pss_nil)
      (pss_cons (ps_if (PW.pt (pw_or (pt_not (pt_val (pe_callB call_isi (by rfl) mI (by decide +kernel) (pa_cons (pe_ix ix_tup (pv 0) pe_int (fun _ _ => rfl)) (pa_cons (pe_bltn (v := .ty "str") (by rfl) mS (by decide +kernel) rfl) pa_nil))))) (pw_or1 (pt_cmpR (op_notIn_kd T.D) (pe_ix ix_tup (pv 0) pe_int (fun _ _ => rfl)) (pe_glob (v := .ref dA) rfl mA rfl) rfl)))) (pss_one (ps_ret pe_bl)) pss_nil)
      (pss_cons (ps_set (i := 1) scIsCall.nd rfl (.inl rfl) (pe_ix ix_kdict (pe_glob (v := .ref dA) rfl mA rfl) (pe_ix ix_tup (pv 0) pe_int (fun _ _ => rfl)) (fun _ _ => rfl)))
      (pss_cons (ps_if (pt_cmpR op_ne (pe_callB call_len_seq (by rfl) mL PySem.boot_len (pa_cons (pv 0) pa_nil)) (pe_op op_add (pe_callB call_len_seq (by rfl) mL PySem.boot_len (pa_cons (pv 1) pa_nil)) pe_int) (nomark _)) (pss_one (ps_ret pe_bl)) pss_nil)
      (pss_one (ps_ret (pe_callB (cr_all rfl) (by rfl) ma (by decide +kernel) (pa_cons (pe_lc (own := [("shape", 2), ("value", 3)]) (g := gTup _ 2 (gCons (gName 2) (gCons (gName 3) gNil))) (tt := tYes) rfl scIsCall.nd
          (RZ.pi_zipA (by rfl) mZ (pa_cons (pv 1) (pa_cons (pe_slice sl_tupA (pv 0) (po_some pe_int) po_none) pa_nil))) (blkOk_by (N := nIsCall) (sc := defScope sIsCall) (by decide +kernel))
          (fun _ _ _ _ _ => pg_tup rfl (pgs_cons (pg_name (i := 2) scIsCall.nd rfl (Or.inl rfl)) (pgs_cons (pg_name (i := 3) scIsCall.nd rfl (Or.inl rfl)) pgs_nil))) (fun _ _ _ _ _ => pts_nil) (fun _ _ _ _ _ => pe_call G hr rfl mG kG bG .nil pass0 (pa_cons (pv 2) (pa_cons (pv 3) pa_nil)))) pa_nil))))))), ?_⟩
    have qq := q H (Same.refl H)
    cases hd with
    | non => exact ⟨_, rfl, _, _, _, _, false, rfl, .ty _, .base .non, kit_ty (by decide +kernel), _, rfl, iteT (iteT qq)⟩
    | bl b => exact ⟨_, rfl, _, _, _, _, false, rfl, .ty _, .base (.bl b), kit_ty (by decide +kernel), _, rfl, iteT (iteT qq)⟩
    | int i => exact ⟨_, rfl, _, _, _, _, false, rfl, .ty _, .base (.int i), kit_ty (by decide +kernel), _, rfl, iteT (iteT qq)⟩
    | str z => exact ⟨_, rfl, _, _, _, _, false, rfl, .ty _, .base (.str z), kit_ty (by decide +kernel), _, rfl, iteT (iteT qq)⟩
    | lst e h2 => exact ⟨_, rfl, _, _, _, _, false, rfl, .ty _, .base (.lst e), kit_ty (by decide +kernel), _, rfl, iteT (iteT qq)⟩
    | @tup a xs ds e hx =>
      refine ⟨_, rfl, _, _, _, _, true, rfl, .ty _, .base (.tup e), kit_ty (by decide +kernel), _, rfl, iteF ⟨_, rfl, a, xs, rfl, .inr (SqT.of e), rfl, _, rfl, ?_⟩⟩
      cases hx with
      | nil => exact iteT qq
      | @cons x xs d ds hx0 hxs =>
        have l0 : decide (V.int (((x :: xs).length : Nat) : Int) = V.int 0) = false := decide_eq_false fun z => by
          have z2 := V.int.inj z
          rw [List.length_cons] at z2
          omega
        rw [l0]
        refine iteF ?_
        have at0 : atI (x :: xs) 0 = some x := atI_nat (j := 0) rfl
        cases hx0 with
        | non => exact ⟨_, rfl, a, _, _, _, rfl, rfl, SqT.of e, at0, _, _, _, _, false, rfl, .ty _, .base .non, kit_ty (by decide +kernel), _, rfl, iteT (iteT qq)⟩
        | bl b => exact ⟨_, rfl, a, _, _, _, rfl, rfl, SqT.of e, at0, _, _, _, _, false, rfl, .ty _, .base (.bl b), kit_ty (by decide +kernel), _, rfl, iteT (iteT qq)⟩
        | int i => exact ⟨_, rfl, a, _, _, _, rfl, rfl, SqT.of e, at0, _, _, _, _, false, rfl, .ty _, .base (.int i), kit_ty (by decide +kernel), _, rfl, iteT (iteT qq)⟩
        | lst e1 h2 => exact ⟨_, rfl, a, _, _, _, rfl, rfl, SqT.of e, at0, _, _, _, _, false, rfl, .ty _, .base (.lst e1), kit_ty (by decide +kernel), _, rfl, iteT (iteT qq)⟩
        | tup e1 h2 => exact ⟨_, rfl, a, _, _, _, rfl, rfl, SqT.of e, at0, _, _, _, _, false, rfl, .ty _, .base (.tup e1), kit_ty (by decide +kernel), _, rfl, iteT (iteT qq)⟩
        | str z =>
          refine ⟨_, rfl, a, _, _, _, rfl, rfl, SqT.of e, at0, _, _, _, _, true, rfl, .ty _, .base (.str z), kit_ty (by decide +kernel), _, rfl, iteF ?_⟩
          cases ht : table.lookup z with
          | none =>
            have ok : okCall (.tuple (.str z :: ds)) = false := by
              show (match table.lookup z with | some ks => fitAll ks ds | none => false) = false
              rw [ht]
            rw [ok] at qq
            exact ⟨_, rfl, a, _, _, _, rfl, rfl, SqT.of e, at0, z, none, rfl, rfl, T.no z ht, _, rfl, iteT qq⟩
          | some ks =>
            have ok : okCall (.tuple (.str z :: ds)) = fitAll ks ds := by
              show (match table.lookup z with | some ks => fitAll ks ds | none => false) = _
              rw [ht]
            rw [ok] at qq q
            obtain ⟨ta, nsz, sqt⟩ := T.yes z ks ht
            refine ⟨_, rfl, a, _, _, _, rfl, rfl, SqT.of e, at0, z, _, rfl, rfl, nsz, _, rfl, iteF ?_⟩
            refine ⟨_, rfl, a, _, _, _, rfl, rfl, SqT.of e, at0, dA, z, .ref ta, rfl, rfl, ⟨es, nn, _, T.D.at_, T.D.lit, nsz, rfl⟩, ?_⟩
            refine ⟨_, rfl, a, _, rfl, .inr (SqT.of e), _, rfl, ta, _, rfl, .inr (sqt H), _, _, rfl, rfl, rfl, _, rfl, ?_⟩
            have lds := hxs.length
            by_cases hl : ks.length = ds.length
            · have le : decide (V.int (((V.str z :: xs).length : Nat) : Int) = V.int ((((ks.map fun k => V.str (shapeOf k)).length : Nat) : Int) + 1)) = true := decide_eq_true (by
                rw [List.length_cons, List.length_map, lds, hl]
                rfl)
              rw [le]
              refine iteF ?_
              refine ⟨_, rfl, _, rfl, _, rfl, a, _, rfl, SqT.of e, (fun w => absurd w (cut_part _ _)), fun _ p np => ?_⟩
              rw [cut_one]
              have sp : Same H (upd H p (.tup xs)) := same_new np
              refine ⟨ta, p, _, _, rfl, .inr ⟨sqt _, SqT.of upd_same, fun D nD => ?_⟩⟩
              have nD0 : H D = none := sp.free nD
              refine lc_it (walk_zipT2 (K := K) (a := ta) (b := p) (xs := ks.map fun k => V.str (shapeOf k)) (ys := xs) (by rw [List.length_map, hl, lds])) (fun i H3 => Same (upd H p (.tup xs)) H3 ∧ H3 D = some (.lst ((((ks.zip ds).take i).map fun p => fitsK p.1 p.2).map V.bl)))
                ⟨same_new nD, upd_same⟩ (fun i H3 _ p3 => ⟨sqt _, SqT.of (p3.1 _ _ upd_same)⟩) ?_ ?_
              · rintro i x H3 H4 hi ⟨s3, e3⟩ ⟨t, x1, x2, rfl, nt, rfl, f1, f2⟩
                have f1' : (ks.map fun k => V.str (shapeOf k))[i]? = some x1 := f1
                have f2' : xs[i]? = some x2 := f2
                rw [List.getElem?_map] at f1'
                obtain ⟨k, ek, rfl⟩ := Option.map_eq_some_iff.mp f1'
                obtain ⟨di, edi, hdi⟩ := hxs.get f2'
                have s4 := (sp.trans s3).trans (same_new (o := HO.tup [V.str (shapeOf k), x2]) nt)
                refine ⟨t, _, rfl, .inl (.inl upd_same), rfl, _, _, rfl, _, _, rfl, rfl, rfl, _, rfl, _, rfl, k, x2, di, rfl, hdi.mono s4, hb.2 di (List.mem_cons_of_mem _ (List.mem_of_getElem? edi)), fun H5 s5 => ?_⟩
                refine ⟨_, s5 _ _ ((upd_ne (ne_of_none e3 nt)).trans e3), ?_, same_mut (s3.trans ((same_new nt).trans s5)) nD, ?_⟩
                · rw [List.length_map, List.length_map, List.length_take, List.length_zip]
                  have hb1 := hb.1
                  rw [List.length_cons] at hb1
                  exact Nat.lt_of_le_of_lt (show min i (min ks.length ds.length) ≤ 1000 by omega) (by decide)
                · rw [upd_same, zip_take ks ds ek edi, List.map_append]
                  rfl
              · rintro H3 ⟨s3, e3⟩
                refine ⟨D, _, rfl, SqL.of e3, ?_⟩
                have et : (ks.zip ds).take (ks.map fun k => V.str (shapeOf k)).length = ks.zip ds := by
                  rw [List.length_map]
                  exact List.take_of_length_le (by rw [List.length_zip]; omega)
                rw [et, fit_all ks ds hl]
                exact q H3 (sp.trans s3)
            · have le : decide (V.int (((V.str z :: xs).length : Nat) : Int) = V.int ((((ks.map fun k => V.str (shapeOf k)).length : Nat) : Int) + 1)) = false := decide_eq_false fun w => by
                have w2 := V.int.inj w
                rw [List.length_cons, List.length_map, lds] at w2
                omega
              rw [le]
              rw [fitAll_len hl] at qq
              exact iteT qq
end
end K01
set_option Elab.async false
set_option linter.all false
set_option maxRecDepth 100000
set_option maxHeartbeats 4000000
namespace K01
open PySem PySem.Spec PyProof.Rows L2
abbrev sForms : Stmt := topS 16
theorem scForms : FnScope ["_law_known"] [] (defScope sForms) := ⟨rfl, rfl, rfl, by decide +kernel, rfl, by decide +kernel, by decide +kernel⟩
def signsOf (ks : List Kd) : Str := ⟨(ks.map signOf).toArray⟩
def formsKV : List (Key × V) := table.map fun p => (Sum.inr p.1, V.str (signsOf p.2))
def part0 : List (Key × V) := [(Sum.inr "fork", .str "1"), (Sum.inr "lead", .str ""), (Sum.inr "adopt", .str ""), (Sum.inr "join", .str "00"), (Sum.inr "end", .str "n"), (Sum.inr "wait", .str "0"), (Sum.inr "send", .str "k0"), (Sum.inr "sendall", .str "k0")]
def part1 : List (Key × V) := [(Sum.inr "about", .str "0"), (Sum.inr "get", .str "0"), (Sum.inr "set", .str "0n"), (Sum.inr "make", .str "pt"), (Sum.inr "remove", .str "p"), (Sum.inr "open", .str "p"), (Sum.inr "seek", .str "00")]
def part2 : List (Key × V) := [(Sum.inr "pipe", .str ""), (Sum.inr "pair", .str ""), (Sum.inr "area", .str ""), (Sum.inr "copy", .str "00"), (Sum.inr "close", .str "0"), (Sum.inr "handles", .str ""), (Sum.inr "same", .str "000")]
def part3 : List (Key × V) := [(Sum.inr "peek", .str "00"), (Sum.inr "poke", .str "00n"), (Sum.inr "read", .str "01"), (Sum.inr "write", .str "0l"), (Sum.inr "pass", .str "00"), (Sum.inr "take", .str "0")]
theorem parts_all : part0 ++ part1 ++ part2 ++ part3 = formsKV := by decide +kernel
theorem parts_nd : ((part0 ++ part1 ++ part2 ++ part3).map (·.1)).Nodup := by decide +kernel
theorem merge0 : mergeK [] part0 = part0 := by decide +kernel
theorem merge1 : mergeK [] part1 = part1 := by decide +kernel
theorem merge2 : mergeK [] part2 = part2 := by decide +kernel
theorem merge3 : mergeK [] part3 = part3 := by decide +kernel
theorem nd_left {α : Type} {a b : List α} (h : (a ++ b).Nodup) : a.Nodup := (List.nodup_append.mp h).1
def spForms : Sp := fun vs H Q _ => vs = [] ∧ ∀ (p : Addr) (H' : Hp), H p = none → Same H H' → H' p = some (.dK formsKV) → Q (.ref p) H'
section
variable {P : Program} {w : World} {K : PySem.W.Frag} {mg : Str → Option Value} {base : Heap} {f : Addr} {fd : FuncData}
theorem ok_forms (F : Fun K "_law_forms" "_law_forms" sForms f fd) : FnOk P w K mg base CX0 1 f fd [] spForms := by
  refine F.ok scForms (fun vs H Q E h => ?_) (fun cdv A outer s H vs Q E hr h => ?_)
  · rw [h.1]
    rfl
  · obtain ⟨rfl, q⟩ := h
    refine ⟨_, pss_cons (ps_set (i := 0) scForms.nd rfl (.inl rfl) (pe_disp (pps_cons pe_str pe_str (pps_cons pe_str pe_str (pps_cons pe_str pe_str (pps_cons pe_str pe_str (pps_cons pe_str pe_str (pps_cons pe_str pe_str (pps_cons pe_str pe_str (pps_cons pe_str pe_str pps_nil)))))))) rfl rfl (by simp) (by decide)))
      (pss_cons (ps_expr (pe_bm PySem.F.plainAttrs_dict PySem.F.slot_dict_update PySem.F.type_dict_update mt_update (pv 0) (pa_cons (pe_disp (pps_cons pe_str pe_str (pps_cons pe_str pe_str (pps_cons pe_str pe_str (pps_cons pe_str pe_str (pps_cons pe_str pe_str (pps_cons pe_str pe_str (pps_cons pe_str pe_str pps_nil))))))) rfl rfl (by simp) (by decide)) pa_nil)))
      (pss_cons (ps_expr (pe_bm PySem.F.plainAttrs_dict PySem.F.slot_dict_update PySem.F.type_dict_update mt_update (pv 0) (pa_cons (pe_disp (pps_cons pe_str pe_str (pps_cons pe_str pe_str (pps_cons pe_str pe_str (pps_cons pe_str pe_str (pps_cons pe_str pe_str (pps_cons pe_str pe_str (pps_cons pe_str pe_str pps_nil))))))) rfl rfl (by simp) (by decide)) pa_nil)))
      (pss_cons (ps_expr (pe_bm PySem.F.plainAttrs_dict PySem.F.slot_dict_update PySem.F.type_dict_update mt_update (pv 0) (pa_cons (pe_disp (pps_cons pe_str pe_str (pps_cons pe_str pe_str (pps_cons pe_str pe_str (pps_cons pe_str pe_str (pps_cons pe_str pe_str (pps_cons pe_str pe_str pps_nil)))))) rfl rfl (by simp) (by decide)) pa_nil)))
      (pss_one (ps_ret (pv 0)))))), ?_⟩
    intro p np
    refine ⟨upd_same, part0, rfl, by decide, ?_⟩
    rw [merge0]
    have g0 : upd (upd H p (.dK [])) p (.dK part0) p = _ := upd_same
    have s0 : Same H (upd (upd H p (.dK [])) p (.dK part0)) := same_mut (same_new np) np
    generalize upd (upd H p (.dK [])) p (.dK part0) = H0 at g0 s0 ⊢
    refine ⟨_, rfl, .inr (.inr (.inl ⟨rfl, .inl ⟨_, g0⟩⟩)), ?_⟩
    intro p1 n1
    refine ⟨upd_same, part1, rfl, by decide, ?_⟩
    rw [merge1]
    have f1 : upd (upd H0 p1 (.dK [])) p1 (.dK part1) p1 = _ := upd_same
    have t1 : Same H0 (upd (upd H0 p1 (.dK [])) p1 (.dK part1)) := same_mut (same_new n1) n1
    generalize upd (upd H0 p1 (.dK [])) p1 (.dK part1) = G1 at f1 t1 ⊢
    have e1 : p ≠ p1 := fun z => by
      rw [← z, g0] at n1
      cases n1
    refine ⟨p, p1, _, _, rfl, rfl, e1, t1 _ _ g0, f1, by decide, ?_, ?_⟩
    · exact nd_left (b := (part2.map (·.1)) ++ (part3.map (·.1))) (by rw [← List.append_assoc, ← List.map_append, ← List.map_append]; exact parts_nd)
    have g1 : upd G1 p (.dK (part0 ++ part1)) p = _ := upd_same
    have s1 : Same H (upd G1 p (.dK (part0 ++ part1))) := same_mut (s0.trans t1) np
    generalize upd G1 p (.dK (part0 ++ part1)) = H1 at g1 s1 ⊢
    refine ⟨_, rfl, .inr (.inr (.inl ⟨rfl, .inl ⟨_, g1⟩⟩)), ?_⟩
    intro p2 n2
    refine ⟨upd_same, part2, rfl, by decide, ?_⟩
    rw [merge2]
    have f2 : upd (upd H1 p2 (.dK [])) p2 (.dK part2) p2 = _ := upd_same
    have t2 : Same H1 (upd (upd H1 p2 (.dK [])) p2 (.dK part2)) := same_mut (same_new n2) n2
    generalize upd (upd H1 p2 (.dK [])) p2 (.dK part2) = G2 at f2 t2 ⊢
    have e2 : p ≠ p2 := fun z => by
      rw [← z, g1] at n2
      cases n2
    refine ⟨p, p2, _, _, rfl, rfl, e2, t2 _ _ g1, f2, by decide, ?_, ?_⟩
    · exact nd_left (b := (part3.map (·.1))) (by rw [← List.map_append]; exact parts_nd)
    have g2 : upd G2 p (.dK (part0 ++ part1 ++ part2)) p = _ := upd_same
    have s2 : Same H (upd G2 p (.dK (part0 ++ part1 ++ part2))) := same_mut (s1.trans t2) np
    generalize upd G2 p (.dK (part0 ++ part1 ++ part2)) = H2 at g2 s2 ⊢
    refine ⟨_, rfl, .inr (.inr (.inl ⟨rfl, .inl ⟨_, g2⟩⟩)), ?_⟩
    intro p3 n3
    refine ⟨upd_same, part3, rfl, by decide, ?_⟩
    rw [merge3]
    have f3 : upd (upd H2 p3 (.dK [])) p3 (.dK part3) p3 = _ := upd_same
    have t3 : Same H2 (upd (upd H2 p3 (.dK [])) p3 (.dK part3)) := same_mut (same_new n3) n3
    generalize upd (upd H2 p3 (.dK [])) p3 (.dK part3) = G3 at f3 t3 ⊢
    have e3 : p ≠ p3 := fun z => by
      rw [← z, g2] at n3
      cases n3
    refine ⟨p, p3, _, _, rfl, rfl, e3, t3 _ _ g2, f3, by decide, ?_, ?_⟩
    · exact parts_nd
    have g3 : upd G3 p (.dK (part0 ++ part1 ++ part2 ++ part3)) p = _ := upd_same
    have s3 : Same H (upd G3 p (.dK (part0 ++ part1 ++ part2 ++ part3))) := same_mut (s2.trans t3) np
    generalize upd G3 p (.dK (part0 ++ part1 ++ part2 ++ part3)) = H3 at g3 s3 ⊢
    rw [parts_all] at g3
    exact ⟨_, rfl, q p H3 np s3 g3⟩
end
end K01
set_option Elab.async false
set_option linter.all false
set_option maxRecDepth 100000
set_option maxHeartbeats 4000000
namespace K01
open PySem PySem.Spec PyProof.Rows L2
abbrev sLFits : Stmt := topS 17
abbrev nLFits : List Str := ["_law_sort", "_law_part_here", "_law_sign"]
theorem scLFits : FnScope nLFits ["_law_sort", "_law_part_here"] (defScope sLFits) := ⟨rfl, rfl, rfl, by decide +kernel, rfl, by decide +kernel, by decide +kernel⟩
/-- the sign of a sort as a text -/
def signT (k : Kd) : Str := ⟨#[signOf k]⟩
def spLFits : Sp := fun vs H Q _ => ∃ (k : Kd) (v : V) (d : PyData), vs = [.str (signT k), v] ∧ Dx H v d ∧ Brief d ∧ ∀ H', Same H H' → Q (.bl (fitsK k d)) H'
def isNumK : Kd → Bool
  | .count | .natural | .number => true
  | _ => false
theorem num_sign (k : Kd) : decide (signOf k ∈ ("01n" : Str).cps.toList) = isNumK k := by cases k <;> decide +kernel
theorem sign_is (k : Kd) (j : Kd) : decide (V.str (signT k) = V.str (signT j)) = decide (k = j) := by cases k <;> cases j <;> decide +kernel
theorem fits_num {k : Kd} {d : PyData} (hk : isNumK k = true) (hd : isInt d = false) : fitsK k d = false := by
  cases d with
  | int i => exact Bool.noConfusion hd
  | str s => cases k <;> first | rfl | exact Bool.noConfusion hk
  | none => rfl
  | bool b => rfl
  | list l => rfl
  | tuple l => rfl
  | dict l => rfl
theorem fits_txt {k : Kd} {d : PyData} (hk : isNumK k = false) (hd : ∀ z, d ≠ .str z) : fitsK k d = false := by
  cases d with
  | int i => cases k <;> first | rfl | exact Bool.noConfusion hk
  | str s => exact absurd rfl (hd s)
  | none => rfl
  | bool b => rfl
  | list l => rfl
  | tuple l => rfl
  | dict l => rfl
theorem abc_in (c : Nat) : decide (c ∈ ("abcdefghijklmnopqrstuvwxyz" : Str).cps.toList) = inLow c := by
  have e : ("abcdefghijklmnopqrstuvwxyz" : Str).cps.toList = (List.range 26).map (· + 97) := by decide +kernel
  rw [e]
  unfold inLow
  by_cases h : 97 ≤ c ∧ c ≤ 122
  · rw [decide_eq_true h, decide_eq_true]
    exact List.mem_map.mpr ⟨c - 97, List.mem_range.mpr (by omega), by omega⟩
  · rw [decide_eq_false h, decide_eq_false]
    intro z
    obtain ⟨i, hi, rfl⟩ := List.mem_map.mp z
    have := List.mem_range.mp hi
    exact h ⟨by omega, by omega⟩
section
variable {P : Program} {w : World} {K : PySem.W.Frag} {mg : Str → Option Value} {base : Heap} {f : Addr} {fd : FuncData}
theorem ok_lfits (F : Fun K "_law_fits" "_law_fits" sLFits f fd) (mI : mg "isinstance" = none) (mi : mg "int" = none) (mB : mg "bool" = none) (mS : mg "str" = none) (mA : mg "all" = none) : FnOk P w K mg base CX0 1 f fd ["_law_sort", "_law_part_here"] spLFits := by
  refine F.ok scLFits (fun vs H Q E h => ?_) (fun cdv A outer s H vs Q E hr h => ?_)
  · obtain ⟨k, v, d, rfl, _⟩ := h
    rfl
  · obtain ⟨k, v, d, rfl, hd, hb, q⟩ := h
    refine ⟨_, pss_cons (ps_if (pt_cmpR op_inS (pv 0) pe_str rfl)
        (pss_cons (ps_if (PW.pt (pw_or (pt_not (pt_val (pe_callB call_isi (by rfl) mI (by decide +kernel) (pa_cons (pv 1) (pa_cons (pe_bltn (v := .ty "int") (by rfl) mi (by decide +kernel) rfl) pa_nil))))) (pw_or1 (pt_val (pe_callB call_isi (by rfl) mI (by decide +kernel) (pa_cons (pv 1) (pa_cons (pe_bltn (v := .ty "bool") (by rfl) mB (by decide +kernel) rfl) pa_nil))))))) (pss_one (ps_ret pe_bl)) pss_nil)
        (pss_one (ps_ret (pe_or (pe_cmpR op_eq (pv 0) pe_str (nomark _)) (pe_one (pe_cmpR op_ge (pv 1) (pe_callTy call_int_str (by rfl) mi (by decide +kernel) (pa_cons (pv 0) pa_nil)) (nomark _))))))) pss_nil)
      (pss_cons (ps_if (pt_not (pt_val (pe_callB call_isi (by rfl) mI (by decide +kernel) (pa_cons (pv 1) (pa_cons (pe_bltn (v := .ty "str") (by rfl) mS (by decide +kernel) rfl) pa_nil))))) (pss_one (ps_ret pe_bl)) pss_nil)
      (pss_cons (ps_if (pt_cmpR op_eq (pv 0) pe_str (nomark _)) (pss_one (ps_ret (pe_cmpR op_in_seq (pv 1) (pe_tup (pa_cons pe_str (pa_cons pe_str (pa_cons pe_str (pa_cons pe_str pa_nil))))) rfl))) pss_nil)
      (pss_cons (ps_if (pt_cmpR op_eq (pv 0) pe_str (nomark _)) (pss_one (ps_ret (pe_and (pe_cmpR op_ne (pv 1) pe_str (nomark _)) (pe_one (pe_callB (cr_all rfl) (by rfl) mA (by decide +kernel) (pa_cons (pe_lc (own := [("_law_sign", 2)]) (g := gName 2) (tt := tYes) rfl scLFits.nd (pi_str (pv 1)) (blkOk_by (N := nLFits) (sc := defScope sLFits) (by decide +kernel))
          (fun _ _ _ _ _ => pg_name (i := 2) scLFits.nd rfl (Or.inl rfl)) (fun _ _ _ _ _ => pts_nil) (fun _ _ _ _ _ => pe_cmpR op_inS (pv 2) pe_str rfl)) pa_nil)))))) pss_nil)
      (pss_one (ps_ret (pe_or (pe_cmpR op_eq (pv 0) pe_str (nomark _)) (pe_one (pe_cmpR op_ne (pv 1) pe_str (nomark _))))))))), ?_⟩
    have qq := q H (Same.refl H)
    refine ⟨_, rfl, signOf k, _, rfl, rfl, _, rfl, ?_⟩
    rw [num_sign]
    cases hk : isNumK k with
    | true =>
      refine iteT ?_
      have off : ∀ b : Bool, isInt d = false → Q (.bl false) H := fun _ z => by
        rw [fits_num hk z] at qq
        exact qq
      cases hd with
      | non => exact ⟨_, rfl, _, _, _, _, false, rfl, .ty _, .base .non, kit_ty (by decide +kernel), _, rfl, iteT (iteT (off true rfl))⟩
      | bl b => exact ⟨_, rfl, _, _, _, _, true, rfl, .ty _, .base (.bl b), kit_ty (by decide +kernel), _, rfl, iteF ⟨_, rfl, _, _, _, _, true, rfl, .ty _, .base (.bl b), kit_ty (by decide +kernel), _, rfl, iteT (off true rfl)⟩⟩
      | str z => exact ⟨_, rfl, _, _, _, _, false, rfl, .ty _, .base (.str z), kit_ty (by decide +kernel), _, rfl, iteT (iteT (off true rfl))⟩
      | lst e h2 => exact ⟨_, rfl, _, _, _, _, false, rfl, .ty _, .base (.lst e), kit_ty (by decide +kernel), _, rfl, iteT (iteT (off true rfl))⟩
      | tup e h2 => exact ⟨_, rfl, _, _, _, _, false, rfl, .ty _, .base (.tup e), kit_ty (by decide +kernel), _, rfl, iteT (iteT (off true rfl))⟩
      | int i =>
        refine ⟨_, rfl, _, _, _, _, true, rfl, .ty _, .base (.int i), kit_ty (by decide +kernel), _, rfl, iteF ⟨_, rfl, _, _, _, _, false, rfl, .ty _, .base (.int i), kit_ty (by decide +kernel), _, rfl, iteF ?_⟩⟩
        have en : decide (V.str (signT k) = V.str "n") = decide (k = .number) := sign_is k .number
        refine ⟨_, rfl, rfl, _, rfl, ?_⟩
        rw [en]
        cases k with
        | number => exact iteT qq
        | count => exact iteF ⟨_, rfl, _, rfl, _, 1, rfl, by decide +kernel, by decide +kernel, _, _, rfl, rfl, qq⟩
        | natural => exact iteF ⟨_, rfl, _, rfl, _, 0, rfl, by decide +kernel, by decide +kernel, _, _, rfl, rfl, qq⟩
        | kind => cases hk
        | path => cases hk
        | text => cases hk
        | words => cases hk
    | false =>
      refine iteF ?_
      have off : (∀ z, d ≠ .str z) → Q (.bl false) H := fun z => by
        rw [fits_txt hk z] at qq
        exact qq
      cases hd with
      | non => exact ⟨_, rfl, _, _, _, _, false, rfl, .ty _, .base .non, kit_ty (by decide +kernel), _, rfl, iteT (off fun _ e => nomatch e)⟩
      | bl b => exact ⟨_, rfl, _, _, _, _, false, rfl, .ty _, .base (.bl b), kit_ty (by decide +kernel), _, rfl, iteT (off fun _ e => nomatch e)⟩
      | int i => exact ⟨_, rfl, _, _, _, _, false, rfl, .ty _, .base (.int i), kit_ty (by decide +kernel), _, rfl, iteT (off fun _ e => nomatch e)⟩
      | lst e h2 => exact ⟨_, rfl, _, _, _, _, false, rfl, .ty _, .base (.lst e), kit_ty (by decide +kernel), _, rfl, iteT (off fun _ e => nomatch e)⟩
      | tup e h2 => exact ⟨_, rfl, _, _, _, _, false, rfl, .ty _, .base (.tup e), kit_ty (by decide +kernel), _, rfl, iteT (off fun _ e => nomatch e)⟩
      | str z =>
        refine ⟨_, rfl, _, _, _, _, true, rfl, .ty _, .base (.str z), kit_ty (by decide +kernel), _, rfl, iteF ?_⟩
        have ek : decide (V.str (signT k) = V.str "k") = decide (k = .kind) := sign_is k .kind
        have ep : decide (V.str (signT k) = V.str "p") = decide (k = .path) := sign_is k .path
        have et : decide (V.str (signT k) = V.str "t") = decide (k = .text) := sign_is k .text
        refine ⟨_, rfl, rfl, _, rfl, ?_⟩
        rw [ek]
        refine ite2 (fun h1 => ?_) (fun h1 => ?_)
        · obtain rfl := of_decide_eq_true h1
          refine ⟨_, rfl, by show 4 ≤ sizeLine; decide, fun t nt => ⟨t, _, rfl, .inr (SqT.of upd_same), rfl, by decide +kernel, ?_⟩⟩
          show Q (.bl (inV (.str z) (fours.map V.str))) _
          rw [in_fours]
          exact q _ (same_new nt)
        refine ⟨_, rfl, rfl, _, rfl, ?_⟩
        rw [ep]
        refine ite2 (fun h2 => ?_) (fun h2 => ?_)
        · obtain rfl := of_decide_eq_true h2
          refine ⟨_, rfl, rfl, _, rfl, ?_⟩
          rw [no_text]
          have ei : fitsK .path (.str z) = (!decide (z = "") && lows z.cps.toList) := rfl
          cases hd0 : (!decide (z = "")) with
          | false =>
            rw [ei, hd0] at qq
            exact iteF qq
          | true =>
            refine iteT ⟨_, rfl, z, rfl, fun D nD => ?_⟩
            refine lc_it (walk_str (z := z)) (fun i H3 => Same H H3 ∧ H3 D = some (.lst (((z.cps.toList.take i).map inLow).map V.bl))) ⟨same_new nD, upd_same⟩ (fun _ _ _ _ => True.intro) ?_ ?_
            · rintro i x H3 H4 hi ⟨s3, e3⟩ ⟨rfl, c, hc, rfl⟩
              have hc2 : z.cps.toList[i]? = some c := by simpa using hc
              refine ⟨rfl, _, rfl, c, _, rfl, rfl, _, e3, ?_, same_mut s3 nD, ?_⟩
              · rw [List.length_map, List.length_map, List.length_take]
                have hz : z.length ≤ 1000 := hb
                have : z.cps.toList.length = z.length := by simp [Str.length]
                exact Nat.lt_of_le_of_lt (show min i z.cps.toList.length ≤ 1000 by omega) (by decide)
              · rw [upd_same, abc_in, List.take_add_one, hc2, List.map_append, List.map_append]
                rfl
            · rintro H3 ⟨s3, e3⟩
              refine ⟨D, _, rfl, SqL.of e3, ?_⟩
              have ec : z.cps.toList.take z.cps.size = z.cps.toList := by rw [← Array.length_toList, List.take_length]
              rw [ec, lows_eq]
              have q3 := q H3 s3
              rw [ei, hd0] at q3
              exact q3
        refine ⟨_, rfl, rfl, _, rfl, ?_⟩
        rw [et]
        cases k with
        | count => cases hk
        | natural => cases hk
        | number => cases hk
        | kind => exact absurd rfl h1
        | path => exact absurd rfl h2
        | text => exact iteT qq
        | words =>
          refine iteF ⟨_, rfl, rfl, ?_⟩
          rw [no_text]
          exact qq
end
end K01
set_option Elab.async false
set_option linter.all false
set_option maxRecDepth 100000
set_option maxHeartbeats 4000000
namespace K01
open PySem PySem.Spec PyProof.Rows L2
abbrev sDue : Stmt := topS 18
abbrev nDue : List Str := ["_law_matter", "_law_known", "_law_sort", "_law_part_here"]
theorem scDue : FnScope nDue ["_law_matter"] (defScope sDue) := ⟨rfl, rfl, rfl, by decide +kernel, rfl, by decide +kernel, by decide +kernel⟩
theorem forms_at (z : Str) : valV formsKV (Sum.inr z) = (table.lookup z).map fun ks => V.str (signsOf ks) := by
  have key : ∀ l : List (Str × List Kd), valV (l.map fun p => ((Sum.inr p.1 : Key), V.str (signsOf p.2))) (Sum.inr z) = (l.lookup z).map fun ks => V.str (signsOf ks) := by
    intro l
    induction l with
    | nil => rfl
    | cons p l ih =>
      rw [List.map_cons]
      by_cases h : p.1 = z
      · rw [valV_pos (by rw [h])]
        subst h
        simp [List.lookup]
      · have e : (z == p.1) = false := beq_eq_false_iff_ne.mpr fun e => h e.symm
        have n : ¬ ((Sum.inr p.1 : Key) = Sum.inr z) := fun e => h (Sum.inr.inj e)
        rw [show List.lookup z (p :: l) = List.lookup z l by simp [List.lookup, e], ← ih]
        simp [valV, n]
  exact key table
theorem look_mem {z : Str} {ks : List Kd} : ∀ {l : List (Str × List Kd)}, l.lookup z = some ks → (z, ks) ∈ l
  | [], h => nomatch h
  | p :: l, h => by
    by_cases e : z = p.1
    · have e2 : List.lookup z (p :: l) = some p.2 := by simp [List.lookup, e]
      rw [e2] at h
      rw [← Option.some.inj h, e]
      exact List.mem_cons_self
    · have e2 : (z == p.1) = false := beq_eq_false_iff_ne.mpr e
      rw [show List.lookup z (p :: l) = List.lookup z l by simp [List.lookup, e2]] at h
      exact List.mem_cons_of_mem _ (look_mem h)
theorem few {z : Str} {ks : List Kd} (h : table.lookup z = some ks) : ks.length ≤ 10 := by
  have all : ∀ p ∈ table, p.2.length ≤ 3 := by decide +kernel
  have := all _ (look_mem h)
  exact Nat.le_trans this (by decide)
theorem signs_low (ks : List Kd) : (signsOf ks).cps.all (· < 128) = true := by
  rw [Array.all_eq_true']
  intro c hc
  have hc2 : c ∈ ks.map signOf := by simpa [signsOf] using hc
  obtain ⟨k, _, rfl⟩ := List.mem_map.mp hc2
  cases k <;> decide
theorem signs_size (ks : List Kd) : (signsOf ks).cps.size = ks.length := by simp [signsOf]
theorem signs_get {ks : List Kd} {i c : Nat} (h : (signsOf ks).cps[i]? = some c) : ∃ k, ks[i]? = some k ∧ c = signOf k := by
  have h2 : (ks.map signOf)[i]? = some c := by simpa [signsOf] using h
  rw [List.getElem?_map] at h2
  obtain ⟨k, e, rfl⟩ := Option.map_eq_some_iff.mp h2
  exact ⟨k, e, rfl⟩
section
variable {P : Program} {w : World} {K : PySem.W.Frag} {mg : Str → Option Value} {base : Heap} {f fF fL : Addr} {fd dF dL : FuncData}
theorem ok_due (F : Fun K "_law_is_due" "_law_is_due" sDue f fd) (G : FnOk P w K mg base CX0 1 fF dF [] spForms) (bG : Binds K dF [] []) (kG : PySem.W.keepIn K (.ref fF) = true) (mG : mg "_law_forms" = some (.ref fF))
    (GL : FnOk P w K mg base CX0 1 fL dL ["_law_sort", "_law_part_here"] spLFits) (bL : Binds K dL ["_law_sort", "_law_part_here"] []) (kL : PySem.W.keepIn K (.ref fL) = true) (mL : mg "_law_fits" = some (.ref fL))
    (mI : mg "isinstance" = none) (mT : mg "tuple" = none) (mS : mg "str" = none) (ml : mg "len" = none) (ma : mg "all" = none) (mZ : mg "zip" = none) : FnOk P w K mg base CX0 2 f fd ["_law_matter"] spIsCall := by
  refine F.ok scDue (fun vs H Q E h => ?_) (fun cdv A outer s H vs Q E hr h => ?_)
  · obtain ⟨v, d, rfl, _⟩ := h
    rfl
  · obtain ⟨v, d, rfl, hd0, hb, q⟩ := h
    have hu := hu_of hr
    refine ⟨_, pss_cons (ps_set (i := 1) scDue.nd rfl (.inl rfl) (pe_call0 G hr rfl mG kG bG .nil pass0))
      (pss_cons (ps_if (PW.pt (pw_or (pt_not (pt_val (pe_callB call_isi (by rfl) mI (by decide +kernel) (pa_cons (pv 0) (pa_cons (pe_bltn (v := .ty "tuple") (by rfl) mT (by decide +kernel) rfl) pa_nil))))) (pw_or (pt_cmpR op_eq (pe_callB call_len_seq (by rfl) ml PySem.boot_len (pa_cons (pv 0) pa_nil)) pe_int (nomark _))
        (pw_or1 (pt_not (pt_val (pe_callB call_isi (by rfl) mI (by decide +kernel) (pa_cons (pe_ix ix_tup (pv 0) pe_int (fun _ _ => rfl)) (pa_cons (pe_bltn (v := .ty "str") (by rfl) mS (by decide +kernel) rfl) pa_nil))))))))) (pss_one (ps_ret pe_bl)) pss_nil)
      (pss_cons (ps_if (PW.pt (pw_or (pt_cmp (pc_dnotin hu (pe_ix ix_tup (pv 0) pe_int (fun _ _ => rfl)) (pv 1))) (pw_or1 (pt_cmpR op_ne (pe_callB call_len_seq (by rfl) ml PySem.boot_len (pa_cons (pv 0) pa_nil))
        (pe_op op_add (pe_callB call_len_str (by rfl) ml PySem.boot_len (pa_cons (pe_dget hu (pv 1) (pe_ix ix_tup (pv 0) pe_int (fun _ _ => rfl)) (fun _ _ => rfl)) pa_nil)) pe_int) (nomark _))))) (pss_one (ps_ret pe_bl)) pss_nil)
      (pss_one (ps_ret (pe_callB (cr_all rfl) (by rfl) ma (by decide +kernel) (pa_cons (pe_lc (own := [("_law_sort", 2), ("_law_part_here", 3)]) (g := gTup _ 2 (gCons (gName 2) (gCons (gName 3) gNil))) (tt := tYes) rfl scDue.nd
          (pi_zipS (by rfl) mZ (pa_cons (pe_dget hu (pv 1) (pe_ix ix_tup (pv 0) pe_int (fun _ _ => rfl)) (fun _ _ => rfl)) (pa_cons (pe_slice sl_tupA (pv 0) (po_some pe_int) po_none) pa_nil))) (blkOk_by (N := nDue) (sc := defScope sDue) (by decide +kernel))
          (fun _ _ _ _ _ => pg_tup rfl (pgs_cons (pg_name (i := 2) scDue.nd rfl (Or.inl rfl)) (pgs_cons (pg_name (i := 3) scDue.nd rfl (Or.inl rfl)) pgs_nil))) (fun _ _ _ _ _ => pts_nil) (fun _ _ _ _ _ => pe_call GL hr rfl mL kL bL .nil pass0 (pa_cons (pv 2) (pa_cons (pv 3) pa_nil)))) pa_nil)))))), ?_⟩
    refine ⟨rfl, fun kn H1 nk s1 gk => ?_⟩
    have hd := hd0.mono s1
    have qq := q H1 s1
    cases hd with
    | non => exact ⟨_, rfl, _, _, _, _, false, rfl, .ty _, .base .non, kit_ty (by decide +kernel), _, rfl, iteT (iteT qq)⟩
    | bl b => exact ⟨_, rfl, _, _, _, _, false, rfl, .ty _, .base (.bl b), kit_ty (by decide +kernel), _, rfl, iteT (iteT qq)⟩
    | int i => exact ⟨_, rfl, _, _, _, _, false, rfl, .ty _, .base (.int i), kit_ty (by decide +kernel), _, rfl, iteT (iteT qq)⟩
    | str z => exact ⟨_, rfl, _, _, _, _, false, rfl, .ty _, .base (.str z), kit_ty (by decide +kernel), _, rfl, iteT (iteT qq)⟩
    | lst e h2 => exact ⟨_, rfl, _, _, _, _, false, rfl, .ty _, .base (.lst e), kit_ty (by decide +kernel), _, rfl, iteT (iteT qq)⟩
    | @tup a xs ds e hx =>
      refine ⟨_, rfl, _, _, _, _, true, rfl, .ty _, .base (.tup e), kit_ty (by decide +kernel), _, rfl, iteF ⟨_, rfl, a, xs, rfl, .inr (SqT.of e), rfl, _, rfl, ?_⟩⟩
      cases hx with
      | nil => exact iteT (iteT qq)
      | @cons x xs d ds hx0 hxs =>
        have l0 : decide (V.int (((x :: xs).length : Nat) : Int) = V.int 0) = false := decide_eq_false fun z => by
          have z2 := V.int.inj z
          rw [List.length_cons] at z2
          omega
        rw [l0]
        refine iteF ?_
        have at0 : atI (x :: xs) 0 = some x := atI_nat (j := 0) rfl
        cases hx0 with
        | non => exact ⟨_, rfl, a, _, _, _, rfl, rfl, SqT.of e, at0, _, _, _, _, false, rfl, .ty _, .base .non, kit_ty (by decide +kernel), _, rfl, iteT qq⟩
        | bl b => exact ⟨_, rfl, a, _, _, _, rfl, rfl, SqT.of e, at0, _, _, _, _, false, rfl, .ty _, .base (.bl b), kit_ty (by decide +kernel), _, rfl, iteT qq⟩
        | int i => exact ⟨_, rfl, a, _, _, _, rfl, rfl, SqT.of e, at0, _, _, _, _, false, rfl, .ty _, .base (.int i), kit_ty (by decide +kernel), _, rfl, iteT qq⟩
        | lst e1 h2 => exact ⟨_, rfl, a, _, _, _, rfl, rfl, SqT.of e, at0, _, _, _, _, false, rfl, .ty _, .base (.lst e1), kit_ty (by decide +kernel), _, rfl, iteT qq⟩
        | tup e1 h2 => exact ⟨_, rfl, a, _, _, _, rfl, rfl, SqT.of e, at0, _, _, _, _, false, rfl, .ty _, .base (.tup e1), kit_ty (by decide +kernel), _, rfl, iteT qq⟩
        | str z =>
          refine ⟨_, rfl, a, _, _, _, rfl, rfl, SqT.of e, at0, _, _, _, _, true, rfl, .ty _, .base (.str z), kit_ty (by decide +kernel), _, rfl, iteF ?_⟩
          refine ⟨_, rfl, a, _, _, _, rfl, rfl, SqT.of e, at0, _, rfl, kn, _, rfl, DGet.k (k := Sum.inr z) gk, _, rfl, ?_⟩
          rw [forms_at]
          cases ht : table.lookup z with
          | none =>
            have ok : okCall (.tuple (.str z :: ds)) = false := by
              show (match table.lookup z with | some ks => fitAll ks ds | none => false) = false
              rw [ht]
            rw [ok] at qq
            exact iteT (iteT qq)
          | some ks =>
            have ok : okCall (.tuple (.str z :: ds)) = fitAll ks ds := by
              show (match table.lookup z with | some ks => fitAll ks ds | none => false) = _
              rw [ht]
            rw [ok] at qq q
            have got : ∀ {H2 : Hp}, Same H1 H2 → DGet H2 kn (.str z) (some (.str (signsOf ks))) := fun {H2} s2 => by
              have g := DGet.k (k := Sum.inr z) (s2 _ _ gk)
              rw [forms_at, ht] at g
              exact g
            have ls : (signsOf ks).length = ks.length := signs_size ks
            have kz := few ht
            refine iteF ⟨_, rfl, a, _, rfl, .inr (SqT.of e), _, rfl, _, rfl, a, _, _, _, rfl, rfl, SqT.of e, at0, kn, _, rfl, got (Same.refl _), _, rfl, by rw [ls]; exact Nat.le_trans kz (by decide), _, _, rfl, rfl, rfl, _, rfl, ?_⟩
            have lds := hxs.length
            rw [ls]
            by_cases hl : ks.length = ds.length
            · have le : decide (V.int (((V.str z :: xs).length : Nat) : Int) = V.int (((ks.length : Nat) : Int) + 1)) = true := decide_eq_true (by
                rw [List.length_cons, lds, hl]
                rfl)
              rw [le]
              refine iteF ?_
              refine ⟨_, rfl, _, rfl, a, _, _, _, rfl, rfl, SqT.of e, at0, kn, _, rfl, got (Same.refl _), _, rfl, _, rfl, a, _, rfl, SqT.of e, (fun w => absurd w (cut_part _ _)), fun _ p np => ?_⟩
              rw [cut_one]
              have sp : Same H1 (upd H1 p (.tup xs)) := same_new np
              refine ⟨signsOf ks, p, xs, rfl, signs_low ks, SqT.of upd_same, fun D nD => ?_⟩
              refine lc_it (walk_zipS (K := K) (z := signsOf ks) (b := p) (ys := xs) (by rw [signs_size, hl, lds])) (fun i H3 => Same (upd H1 p (.tup xs)) H3 ∧ H3 D = some (.lst ((((ks.zip ds).take i).map fun p => fitsK p.1 p.2).map V.bl)))
                ⟨same_new nD, upd_same⟩ (fun i H3 _ p3 => SqT.of (p3.1 _ _ upd_same)) ?_ ?_
              · rintro i x H3 H4 hi ⟨s3, e3⟩ ⟨t, c, x2, rfl, nt, rfl, f1, f2⟩
                obtain ⟨k, ek, rfl⟩ := signs_get f1
                obtain ⟨di, edi, hdi⟩ := hxs.get f2
                have s4 := (sp.trans s3).trans (same_new (o := HO.tup [V.str ⟨#[signOf k]⟩, x2]) nt)
                refine ⟨t, _, rfl, .inl (.inl upd_same), rfl, _, _, rfl, _, _, rfl, rfl, rfl, _, rfl, _, rfl, k, x2, di, rfl, hdi.mono s4, hb.2 di (List.mem_cons_of_mem _ (List.mem_of_getElem? edi)), fun H5 s5 => ?_⟩
                refine ⟨_, s5 _ _ ((upd_ne (ne_of_none e3 nt)).trans e3), ?_, same_mut (s3.trans ((same_new nt).trans s5)) nD, ?_⟩
                · rw [List.length_map, List.length_map, List.length_take, List.length_zip]
                  exact Nat.lt_of_le_of_lt (show min i (min ks.length ds.length) ≤ 1000 by omega) (by decide)
                · rw [upd_same, zip_take ks ds ek edi, List.map_append]
                  rfl
              · rintro H3 ⟨s3, e3⟩
                refine ⟨D, _, rfl, SqL.of e3, ?_⟩
                have et : (ks.zip ds).take xs.length = ks.zip ds := List.take_of_length_le (by rw [List.length_zip]; omega)
                rw [et, fit_all ks ds hl]
                exact q H3 (s1.trans (sp.trans s3))
            · have le : decide (V.int (((V.str z :: xs).length : Nat) : Int) = V.int (((ks.length : Nat) : Int) + 1)) = false := decide_eq_false fun w => by
                have w2 := V.int.inj w
                rw [List.length_cons, lds] at w2
                omega
              rw [le]
              rw [fitAll_len hl] at qq
              exact iteT qq
end
end K01
set_option Elab.async false
set_option linter.all false
set_option maxRecDepth 100000
set_option maxHeartbeats 4000000
namespace K01
open PySem PySem.Spec PyProof.Rows L2
/-- small data, of nesting at most k -/
def Nice : Nat → PyData → Prop
  | _, .none => True
  | _, .bool _ => True
  | _, .int i => i.natAbs.log2 < 200
  | _, .str s => s.length ≤ 60 ∧ (∀ c ∈ s.cps.toList, c < 16 ^ 8) ∧ PyData.canLay0 (.str s) = true
  | 0, .list _ => False
  | 0, .tuple _ => False
  | k + 1, .list ds => ds.length ≤ 6 ∧ ∀ d ∈ ds, Nice k d
  | k + 1, .tuple ds => ds.length ≤ 6 ∧ ∀ d ∈ ds, Nice k d
  | _, .dict _ => False
theorem Nice.up : ∀ {k : Nat} {d : PyData}, Nice k d → Nice (k + 1) d
  | _, .none, _ => by simp [Nice]
  | _, .bool _, _ => by simp [Nice]
  | _, .int _, h => by simpa [Nice] using h
  | _, .str _, h => by simpa [Nice] using h
  | 0, .list _, h => by simp [Nice] at h
  | 0, .tuple _, h => by simp [Nice] at h
  | k + 1, .list ds, h => by
    have h2 : ds.length ≤ 6 ∧ ∀ d ∈ ds, Nice k d := by simpa [Nice] using h
    show ds.length ≤ 6 ∧ ∀ d ∈ ds, Nice (k + 1) d
    exact ⟨h2.1, fun d hd => Nice.up (h2.2 d hd)⟩
  | k + 1, .tuple ds, h => by
    have h2 : ds.length ≤ 6 ∧ ∀ d ∈ ds, Nice k d := by simpa [Nice] using h
    show ds.length ≤ 6 ∧ ∀ d ∈ ds, Nice (k + 1) d
    exact ⟨h2.1, fun d hd => Nice.up (h2.2 d hd)⟩
  | _, .dict _, h => by simp [Nice] at h
def B : Nat → Nat
  | 0 => 700
  | k + 1 => 6 * (B k + 2) + 10
theorem B_ge : ∀ k, 700 ≤ B k
  | 0 => Nat.le_refl _
  | k + 1 => by
    have := B_ge k
    show 700 ≤ 6 * (B k + 2) + 10
    omega
theorem piled_le {n : Nat} : ∀ ts : List Str, (∀ t ∈ ts, t.length ≤ n) → piled ts ≤ ts.length * (n + 2)
  | [], _ => Nat.zero_le _
  | t :: ts, h => by
    have h1 := h t List.mem_cons_self
    have h2 := piled_le ts fun z hz => h z (List.mem_cons_of_mem _ hz)
    rw [piled_cons, List.length_cons, Nat.succ_mul]
    omega
theorem list_text (ts : List Str) : (listText ts).length ≤ piled ts + 2 := by
  cases ts with
  | nil => decide +kernel
  | cons t r =>
    have e := textFrom_length_pos r 1 (("[" : Str) ++ (if 0 > 0 then ", " else "" : String) ++ t) (by decide)
    show (textFrom 1 (("[" : Str) ++ (if 0 > 0 then ", " else "" : String) ++ t) r ++ "]").length ≤ _
    have e1 : ((("[" : String) : Str)).length = 1 := rfl
    have e2 : ((("]" : String) : Str)).length = 1 := rfl
    have e3 : (((if 0 > 0 then ", " else "" : String) : Str)).length = 0 := by decide +kernel
    rw [strLen_append, e, strLen_append, strLen_append, e1, e2, e3, piled_cons]
    omega
theorem shown_mem : ∀ {ds : List PyData} {t : Str}, t ∈ PyData.shownAll ds → ∃ d ∈ ds, t = d.shown
  | [], t, h => by simp [PyData.shownAll] at h
  | d :: ds, t, h => by
    simp only [PyData.shownAll, List.mem_cons] at h
    rcases h with h | h
    · exact ⟨d, List.mem_cons_self, h⟩
    · obtain ⟨e, he, ht⟩ := shown_mem h
      exact ⟨e, List.mem_cons_of_mem _ he, ht⟩
theorem shown_len : ∀ ds : List PyData, (PyData.shownAll ds).length = ds.length
  | [] => by simp [PyData.shownAll]
  | d :: ds => by simp [PyData.shownAll, shown_len ds]
theorem Nice.len : ∀ {k : Nat} {d : PyData}, Nice k d → d.shown.length ≤ B k
  | k, .none, _ => Nat.le_trans (by decide +kernel) (B_ge k)
  | k, .bool b, _ => Nat.le_trans (by cases b <;> decide +kernel) (B_ge k)
  | k, .int i, h => by
    have h2 : i.natAbs.log2 < 200 := by simpa [Nice] using h
    have e := int_text_length_le (k := 200) (by decide) h2
    refine Nat.le_trans ?_ (B_ge k)
    show (Str.ofString (toString i)).length ≤ 700
    rw [PySem.ofString_length]
    omega
  | k, .str s, h => by
    have h2 : s.length ≤ 60 ∧ (∀ c ∈ s.cps.toList, c < 16 ^ 8) ∧ PyData.canLay0 (.str s) = true := by simpa [Nice] using h
    have e := StrLaws.reprText_len s h2.2.1
    refine Nat.le_trans ?_ (B_ge k)
    show (reprText s).length ≤ 700
    omega
  | 0, .list _, h => by simp [Nice] at h
  | 0, .tuple _, h => by simp [Nice] at h
  | k + 1, .list ds, h => by
    have h2 : ds.length ≤ 6 ∧ ∀ d ∈ ds, Nice k d := by simpa [Nice] using h
    have e := piled_le (n := B k) (PyData.shownAll ds) fun t ht => by
      obtain ⟨d, hd, rfl⟩ := shown_mem ht
      exact Nice.len (h2.2 d hd)
    have f := list_text (PyData.shownAll ds)
    rw [shown_len] at e
    have g : ds.length * (B k + 2) ≤ 6 * (B k + 2) := Nat.mul_le_mul_right _ h2.1
    simp only [PyData.shown]
    show _ ≤ 6 * (B k + 2) + 10
    omega
  | k + 1, .tuple ds, h => by
    have h2 : ds.length ≤ 6 ∧ ∀ d ∈ ds, Nice k d := by simpa [Nice] using h
    have e := piled_le (n := B k) (PyData.shownAll ds) fun t ht => by
      obtain ⟨d, hd, rfl⟩ := shown_mem ht
      exact Nice.len (h2.2 d hd)
    have f := fmt_text (PyData.shownAll ds)
    rw [shown_len] at e
    have g : ds.length * (B k + 2) ≤ 6 * (B k + 2) := Nat.mul_le_mul_right _ h2.1
    simp only [PyData.shown]
    show _ ≤ 6 * (B k + 2) + 10
    omega
  | _, .dict _, h => by simp [Nice] at h
theorem all_of {ds : List PyData} (h : ∀ d ∈ ds, d.showable = true ∧ d.canLay0 = true) : PyData.showableAll ds = true ∧ PyData.canLayAll0 ds = true := by
  induction ds with
  | nil => exact ⟨by simp [PyData.showableAll], by simp [PyData.canLayAll0]⟩
  | cons d ds ih =>
    have h1 := h d List.mem_cons_self
    have h2 := ih fun e he => h e (List.mem_cons_of_mem _ he)
    exact ⟨by simp [PyData.showableAll, h1.1, h2.1], by simp [PyData.canLayAll0, h1.2, h2.2]⟩
theorem depth_of {k : Nat} {ds : List PyData} (h : ∀ d ∈ ds, d.depth ≤ k) : PyData.depthAll ds ≤ k := by
  induction ds with
  | nil => simp [PyData.depthAll]
  | cons d ds ih =>
    have h1 := h d List.mem_cons_self
    have h2 := ih fun e he => h e (List.mem_cons_of_mem _ he)
    simp only [PyData.depthAll]
    omega
theorem Nice.show : ∀ {k : Nat} {d : PyData}, Nice k d → (d.showable = true ∧ d.canLay0 = true) ∧ d.depth ≤ k
  | k, .none, _ => ⟨⟨by simp [PyData.showable], by simp [PyData.canLay0]⟩, by simp [PyData.depth]⟩
  | k, .bool b, _ => ⟨⟨by simp [PyData.showable], by simp [PyData.canLay0]⟩, by simp [PyData.depth]⟩
  | k, .int i, h => by
    have h2 : i.natAbs.log2 < 200 := by simpa [Nice] using h
    exact ⟨⟨by simp only [PyData.showable]; exact decide_eq_true (by omega), by simp [PyData.canLay0]⟩, by simp [PyData.depth]⟩
  | k, .str s, h => by
    have h2 : s.length ≤ 60 ∧ (∀ c ∈ s.cps.toList, c < 16 ^ 8) ∧ PyData.canLay0 (.str s) = true := by simpa [Nice] using h
    exact ⟨⟨by simp [PyData.showable], h2.2.2⟩, by simp [PyData.depth]⟩
  | 0, .list _, h => by simp [Nice] at h
  | 0, .tuple _, h => by simp [Nice] at h
  | k + 1, .list ds, h => by
    have h2 : ds.length ≤ 6 ∧ ∀ d ∈ ds, Nice k d := by simpa [Nice] using h
    have a := all_of fun d hd => (Nice.show (h2.2 d hd)).1
    have b := depth_of fun d hd => (Nice.show (h2.2 d hd)).2
    exact ⟨⟨by simp only [PyData.showable]; exact a.1, by simp only [PyData.canLay0]; exact a.2⟩, by simp only [PyData.depth]; omega⟩
  | k + 1, .tuple ds, h => by
    have h2 : ds.length ≤ 6 ∧ ∀ d ∈ ds, Nice k d := by simpa [Nice] using h
    have a := all_of fun d hd => (Nice.show (h2.2 d hd)).1
    have b := depth_of fun d hd => (Nice.show (h2.2 d hd)).2
    exact ⟨⟨by simp only [PyData.showable]; exact a.1, by simp only [PyData.canLay0]; exact a.2⟩, by simp only [PyData.depth]; omega⟩
  | _, .dict _, h => by simp [Nice] at h
theorem Nice.brief {k : Nat} {d : PyData} (h : Nice k d) : Brief d := by
  cases d with
  | str s =>
    have h2 : s.length ≤ 60 ∧ (∀ c ∈ s.cps.toList, c < 16 ^ 8) ∧ PyData.canLay0 (.str s) = true := by simpa [Nice] using h
    exact Nat.le_trans h2.1 (by decide)
  | none => exact True.intro
  | bool b => exact True.intro
  | int i => exact True.intro
  | list l => exact True.intro
  | tuple l => exact True.intro
  | dict l => exact True.intro
theorem Nice.tup {k : Nat} {ds : List PyData} (h : Nice k (.tuple ds)) : ds.length ≤ 6 ∧ ∀ d ∈ ds, Nice k d := by
  cases k with
  | zero => simp [Nice] at h
  | succ k =>
    have h2 : ds.length ≤ 6 ∧ ∀ d ∈ ds, Nice k d := by simpa [Nice] using h
    exact ⟨h2.1, fun d hd => (h2.2 d hd).up⟩
theorem Nice.briefT {k : Nat} {d : PyData} (h : Nice k d) : BriefT d := by
  cases d with
  | tuple ds => exact ⟨Nat.le_trans h.tup.1 (by decide), fun e he => (h.tup.2 e he).brief⟩
  | none => exact True.intro
  | bool b => exact True.intro
  | int i => exact True.intro
  | list l => exact True.intro
  | str l => exact True.intro
  | dict l => exact True.intro
mutual
theorem Dx.dp {K : PySem.W.Frag} {H : Hp} : ∀ {v : V} {d : PyData}, Dx H v d → Dp K H v d
  | _, _, .non => .non
  | _, _, .bl b => .bl b
  | _, _, .int i => .int i
  | _, _, .str x => .str x
  | _, _, .lst e h => .lst (SqL.of e) (DxAll.dp h)
  | _, _, .tup e h => .tup (SqT.of e) (DxAll.dp h)
theorem DxAll.dp {K : PySem.W.Frag} {H : Hp} : ∀ {vs : List V} {ds : List PyData}, DxAll H vs ds → DpAll K H vs ds
  | _, _, .nil => .nil
  | _, _, .cons h t => .cons (Dx.dp h) (DxAll.dp t)
end
end K01
set_option Elab.async false
set_option linter.all false
set_option maxRecDepth 100000
set_option maxHeartbeats 4000000
namespace L2
open PySem PySem.Spec PyProof.Rows
def x50 : Str := ⟨(List.replicate 50 120).toArray⟩
theorem x50_eq : (⟨(List.replicate 50 ("x" : Str).cps).foldl (· ++ ·) #[]⟩ : Str) = x50 := by decide +kernel
/-- a sign fifty times -/
def rMulS : R2 := fun x y H Q => x = .str "x" ∧ y = .int 50 ∧ Q (.str x50) H
theorem op_mulS {X : Cx} : OpR X (binaryOp .Mult) rMulS := by
  intro pins s σ H x y v u Q I rx ry h
  obtain ⟨rfl, rfl, q⟩ := h
  obtain ⟨t, rfl⟩ := rx
  obtain ⟨t2, rfl⟩ := ry
  have e : ((50 : Int).toNat) = 50 := rfl
  refine PySem.P.mul_str (by decide) (fun _ _ => by decide) (fun _ _ => by decide +kernel) ?_
  rw [if_neg (by decide), if_neg (by decide), e, x50_eq]
  exact ⟨by decide +kernel, .str _, H, I.tok _, ⟨_, rfl⟩, q⟩
end L2
namespace K01
open PySem PySem.Spec PyProof.Rows L2
/-- all but p is as it was -/
def SameBut (p : Addr) (H H' : Hp) : Prop := ∀ b o, b ≠ p → H b = some o → H' b = some o
theorem SameBut.refl {p : Addr} {H : Hp} : SameBut p H H := fun _ _ _ e => e
theorem SameBut.trans {p : Addr} {H H1 H2 : Hp} (a : SameBut p H H1) (b : SameBut p H1 H2) : SameBut p H H2 := fun c o n e => b c o n (a c o n e)
theorem Same.but {p : Addr} {H H' : Hp} (s : Same H H') : SameBut p H H' := fun b o _ e => s b o e
theorem but_upd {p : Addr} {H : Hp} {o : HO} : SameBut p H (upd H p o) := fun b u n e => (upd_ne n).trans e
theorem but_new {p l : Addr} {H H1 : Hp} {o : HO} (s : SameBut p H H1) (n : H1 l = none) : SameBut p H (upd H1 l o) := s.trans (Same.but (same_new n))
theorem SameBut.mask {p : Addr} {H H' : Hp} (s : SameBut p H H') : Same (mask H [p]) (mask H' [p]) := fun b o e => by
  obtain ⟨e1, e2⟩ := mask_at e
  exact mask_of (s b o (fun z => e2 (by rw [z]; exact List.mem_singleton.mpr rfl)) e1) e2
theorem mask_le {H : Hp} {M : List Addr} : Same (K01.mask H M) H := fun b o e => (mask_at e).1
theorem Src.same {H H' : Hp} {p : Addr} {c : Int} (S : Src H p c) (s : Same H H') : Src H' p c := by
  obtain ⟨a, b, e, r⟩ := S
  exact ⟨a, b, s _ _ e, r⟩
theorem Src.ne {H : Hp} {p q : Addr} {c : Int} (S : Src H p c) (h : H q = none) : q ≠ p := fun z => by
  obtain ⟨a, b, e, r⟩ := S
  rw [z, e] at h
  cases h
abbrev sPart : Stmt := topS 19
theorem scPart : FnScope ["_law_source", "_law_sort", "_law_low"] ["_law_source", "_law_sort"] (defScope sPart) := ⟨rfl, rfl, rfl, by decide +kernel, rfl, by decide +kernel, by decide +kernel⟩
/-- an argument of the sort k -/
structure Fit (k : Kd) (v : V) (d : PyData) : Prop where
  dx : ∀ H : Hp, Dx H v d
  ok : fitsK k d = true
  nice : Nice 0 d
def spPart : Sp := fun vs H Q _ => ∃ (p : Addr) (c : Int) (k : Kd), vs = [.ref p, .str (signT k)] ∧ Src H p c ∧ c + 10 < 2 ^ 60 ∧
  ∀ (v : V) (d : PyData) (c' : Int) (H' : Hp), Fit k v d → SameBut p H H' → Src H' p c' → c ≤ c' → c' ≤ c + 2 → Q v H'
def partKV : List (Key × V) := [(Sum.inr "0", .int 0), (Sum.inr "1", .int 1), (Sum.inr "n", .int (-9))]
theorem mergeP : mergeK [] partKV = partKV := by decide +kernel
def lowK : Kd → Int
  | .count => 1
  | .natural => 0
  | _ => -9
theorem part_at {k : Kd} (h : isNumK k = true) : valV partKV (Sum.inr (signT k)) = some (.int (lowK k)) := by
  cases k <;> first | decide +kernel | exact Bool.noConfusion h
theorem fit_int {k : Kd} {i : Int} (h : isNumK k = true) (h1 : lowK k ≤ i) (h2 : i ≤ 10 ^ 30) : Fit k (.int i) (.int i) := by
  refine ⟨fun _ => .int i, ?_, ?_⟩
  · cases k <;> first | exact Bool.noConfusion h | exact decide_eq_true h1 | rfl
  · have h3 : -9 ≤ i := Int.le_trans (by cases k <;> decide) h1
    show i.natAbs.log2 < 200
    by_cases z : i.natAbs = 0
    · rw [z]
      decide
    · rw [Nat.log2_lt z]
      have : (10 : Int) ^ 30 < 2 ^ 200 := by decide
      omega
def niceT (s : Str) : Bool := decide (s.length ≤ 60) && s.cps.toList.all (fun c => decide (c < 16 ^ 8)) && PyData.canLay0 (.str s)
theorem nice_txt {s : Str} (h : niceT s = true) {k : Nat} : Nice k (.str s) := by
  unfold niceT at h
  rw [Bool.and_eq_true, Bool.and_eq_true, List.all_eq_true] at h
  have z : s.length ≤ 60 ∧ (∀ c ∈ s.cps.toList, c < 16 ^ 8) ∧ PyData.canLay0 (.str s) = true := ⟨of_decide_eq_true h.1.1, fun c hc => of_decide_eq_true (h.1.2 c hc), h.2⟩
  simpa [Nice] using z
theorem fit_str {k : Kd} {s : Str} (h : fitsK k (.str s) = true) (n : niceT s = true) : Fit k (.str s) (.str s) := ⟨fun _ => .str s, h, nice_txt n⟩
section
variable {P : Program} {w : World} {K : PySem.W.Frag} {mg : Str → Option Value} {base : Heap} {f fD fP : Addr} {fd fdD fdP : FuncData}
theorem ok_part (F : Fun K "_law_part" "_law_part" sPart f fd) (G : FnOk P w K mg base CX0 2 fD fdD ["_law_source", "_law_bound"] (spDraw 2)) (bG : Binds K fdD ["_law_source", "_law_bound"] []) (kG : PySem.W.keepIn K (.ref fD) = true) (mG : mg "_law_draw" = some (.ref fD))
    (GP : FnOk P w K mg base CX0 3 fP fdP ["_law_source", "_law_some"] spPick) (bP : Binds K fdP ["_law_source", "_law_some"] []) (kP : PySem.W.keepIn K (.ref fP) = true) (mP : mg "_law_pick" = some (.ref fP)) :
    FnOk P w K mg base CX0 4 f fd ["_law_source", "_law_sort"] spPart := by
  refine F.ok scPart (fun vs H Q E h => ?_) (fun cdv A outer s H vs Q E hr h => ?_)
  · obtain ⟨p, c, k, rfl, _⟩ := h
    rfl
  · obtain ⟨p, c, k, rfl, S, hc, q⟩ := h
    have hu := hu_of hr
    refine ⟨_, pss_cons (ps_if (pt_cmpR op_inS (pv 1) pe_str rfl)
        (pss_cons (ps_set (i := 2) scPart.nd rfl (.inl rfl) (pe_dget hu (pe_disp (pps_cons pe_str pe_int (pps_cons pe_str pe_int (pps_cons pe_str (pe_un un_neg pe_int) pps_nil))) rfl rfl (by simp) (by decide)) (pv 1) (fun _ _ => rfl)))
        (pss_one (ps_ret (pe_call GP hr rfl mP kP bP .nil pass0 (pa_cons (pv 0) (pa_cons (pe_lst (pa_cons (pv 2) (pa_cons (pe_op op_add (pv 2) pe_int) (pa_cons (pe_op op_add (pv 2) (pe_call G (hr.mono (by decide)) rfl mG kG bG .nil pass0 (pa_cons (pv 0) (pa_cons pe_int pa_nil)))) (pa_cons (pe_op op_pow pe_int pe_int) pa_nil))))) pa_nil)))))) pss_nil)
      (pss_cons (ps_if (pt_cmpR op_eq (pv 1) pe_str (nomark _)) (pss_one (ps_ret (pe_call GP hr rfl mP kP bP .nil pass0 (pa_cons (pv 0) (pa_cons (pe_lst (pa_cons pe_str (pa_cons pe_str (pa_cons pe_str (pa_cons pe_str pa_nil))))) pa_nil))))) pss_nil)
      (pss_cons (ps_if (pt_cmpR op_eq (pv 1) pe_str (nomark _)) (pss_one (ps_ret (pe_call GP hr rfl mP kP bP .nil pass0 (pa_cons (pv 0) (pa_cons (pe_lst (pa_cons pe_str (pa_cons pe_str (pa_cons pe_str (pa_cons pe_str pa_nil))))) pa_nil))))) pss_nil)
      (pss_one (ps_ret (pe_call GP hr rfl mP kP bP .nil pass0 (pa_cons (pv 0) (pa_cons (pe_lst (pa_cons pe_str (pa_cons pe_str (pa_cons pe_str (pa_cons (pe_op op_mulS pe_str pe_int) (pa_cons (pe_ifExp (pt_cmpR op_eq (pv 1) pe_str (nomark _)) pe_str pe_str) pa_nil)))))) pa_nil))))))), ?_⟩
    have texts : ∀ (xs : List V), xs.length ≤ 1000 → 0 < xs.length → (∀ v ∈ xs, ∃ d, Fit k v d) → ∀ (D : Ends), D.rt = Q → ∀ l, H l = none → spPick [.ref p, .ref l] (upd H l (.lst xs)) D.rt E0 := by
      intro xs h1 h0 hx D eD l nl
      rw [eD]
      refine ⟨p, l, c, xs, rfl, S.same (same_new nl), by omega, S.ne nl, upd_same, h0, h1, fun j v c' zs ej c0 c1 S' => ?_⟩
      obtain ⟨d, hd⟩ := hx v (List.mem_of_getElem? ej)
      exact q v d c' _ hd ((but_new SameBut.refl nl).trans but_upd) S' c0 (by omega)
    refine ⟨_, rfl, signOf k, _, rfl, rfl, _, rfl, ?_⟩
    rw [num_sign]
    cases hk : isNumK k with
    | true =>
      refine iteT ?_
      intro g ng
      refine ⟨_, rfl, upd_same, partKV, rfl, by decide, ?_⟩
      rw [mergeP]
      have S0 : Src (upd (upd H g (.dK [])) g (.dK partKV)) p c := S.same (same_mut (same_new ng) ng)
      have b0 : SameBut p H (upd (upd H g (.dK [])) g (.dK partKV)) := Same.but (same_mut (same_new ng) ng)
      have e0 : upd (upd H g (.dK [])) g (.dK partKV) g = some (.dK partKV) := upd_same
      generalize upd (upd H g (.dK [])) g (.dK partKV) = H0 at S0 b0 e0 ⊢
      have gk : DGet H0 g (.str (signT k)) (some (.int (lowK k))) := by
        have z := DGet.k (k := Sum.inr (signT k)) e0
        rw [part_at hk] at z
        exact z
      refine ⟨_, rfl, g, _, rfl, gk, ?_⟩
      refine ⟨_, rfl, _, rfl, _, rfl, _, _, rfl, rfl, _, rfl, _, rfl, p, c, 99, rfl, S0, by omega, by decide, by decide, .inl (by decide), fun r c1 ys r0 r1 c10 c11 c12 S1 => ?_⟩
      have c13 := c12 (by decide)
      have b1 : SameBut p H (upd H0 p (.lst ys)) := b0.trans but_upd
      generalize upd H0 p (.lst ys) = H1 at S1 b1 ⊢
      refine ⟨_, _, rfl, rfl, _, _, rfl, rfl, ⟨by decide, by decide, by decide⟩, (by show 4 ≤ sizeLine; decide), fun l nl => ?_⟩
      refine ⟨p, l, c1, _, rfl, S1.same (same_new nl), by omega, S1.ne nl, upd_same, (show 0 < 4 by decide), (show 4 ≤ 1000 by decide), fun j v c' zs ej c0 c2 S' => ?_⟩
      have hl : -9 ≤ lowK k ∧ lowK k ≤ 1 := by cases k <;> decide
      have z30 : (10 : Int) ^ 30 = 1000000000000000000000000000000 := by decide
      have e30 : (10 : Int) ^ (30 : Int).toNat = 10 ^ 30 := rfl
      have hv : ∃ d, Fit k v d := by
        have m := List.mem_of_getElem? ej
        simp only [List.mem_cons, List.not_mem_nil, or_false] at m
        rcases m with rfl | rfl | rfl | rfl
        · exact ⟨_, fit_int hk (Int.le_refl _) (by omega)⟩
        · exact ⟨_, fit_int hk (by omega) (by omega)⟩
        · exact ⟨_, fit_int hk (by omega) (by omega)⟩
        · rw [e30]
          exact ⟨_, fit_int hk (by omega) (by omega)⟩
      obtain ⟨d, hd⟩ := hv
      exact q v d c' _ hd ((but_new b1 nl).trans but_upd) S' (by omega) (by omega)
    | false =>
      refine iteF ?_
      have ek : decide (V.str (signT k) = V.str "k") = decide (k = .kind) := sign_is k .kind
      have ep : decide (V.str (signT k) = V.str "p") = decide (k = .path) := sign_is k .path
      have et : decide (V.str (signT k) = V.str "t") = decide (k = .text) := sign_is k .text
      refine ⟨_, rfl, rfl, _, rfl, ?_⟩
      rw [ek]
      refine ite2 (fun h1 => ?_) (fun h1 => ?_)
      · obtain rfl := of_decide_eq_true h1
        refine ⟨_, rfl, by show 4 ≤ sizeLine; decide, fun l nl => texts [.str "stop", .str "go", .str "end", .str "wake"] (by decide) (by decide) (fun v m => ?_) _ rfl l nl⟩
        simp only [List.mem_cons, List.not_mem_nil, or_false] at m
        rcases m with rfl | rfl | rfl | rfl <;> exact ⟨_, fit_str (by decide +kernel) (by decide +kernel)⟩
      refine ⟨_, rfl, rfl, _, rfl, ?_⟩
      rw [ep]
      refine ite2 (fun h2 => ?_) (fun h2 => ?_)
      · obtain rfl := of_decide_eq_true h2
        refine ⟨_, rfl, by show 4 ≤ sizeLine; decide, fun l nl => texts [.str "a", .str "log", .str "abcdefghij", .str "zz"] (by decide) (by decide) (fun v m => ?_) _ rfl l nl⟩
        simp only [List.mem_cons, List.not_mem_nil, or_false] at m
        rcases m with rfl | rfl | rfl | rfl <;> exact ⟨_, fit_str (by decide +kernel) (by decide +kernel)⟩
      refine ⟨_, rfl, rfl, rfl, _, rfl, rfl, _, rfl, ?_⟩
      rw [et]
      cases k with
      | count => cases hk
      | natural => cases hk
      | number => cases hk
      | kind => exact absurd rfl h1
      | path => exact absurd rfl h2
      | text =>
        refine iteT ⟨by show 5 ≤ sizeLine; decide, fun l nl => texts [.str "a", .str "~ ", .str "A\n", .str x50, .str ""] (by decide) (by decide) (fun v m => ?_) _ rfl l nl⟩
        simp only [List.mem_cons, List.not_mem_nil, or_false] at m
        rcases m with rfl | rfl | rfl | rfl | rfl <;> exact ⟨_, fit_str (by decide +kernel) (by decide +kernel)⟩
      | words =>
        refine iteF ⟨by show 5 ≤ sizeLine; decide, fun l nl => texts [.str "a", .str "~ ", .str "A\n", .str x50, .str "0"] (by decide) (by decide) (fun v m => ?_) _ rfl l nl⟩
        simp only [List.mem_cons, List.not_mem_nil, or_false] at m
        rcases m with rfl | rfl | rfl | rfl | rfl <;> exact ⟨_, fit_str (by decide +kernel) (by decide +kernel)⟩
end
end K01
set_option Elab.async false
set_option linter.all false
set_option maxRecDepth 100000
set_option maxHeartbeats 4000000
namespace K01
open PySem PySem.Spec PyProof.Rows L2
/-- v stands for small data, none of it in M -/
def Gd (k : Nat) (M : List Addr) (H : Hp) (v : V) : Prop := ∃ d, Dx (mask H M) v d ∧ Nice k d
theorem SameBut.masks {p : Addr} {M : List Addr} {H H' : Hp} (s : SameBut p H H') (hp : p ∈ M) : Same (K01.mask H M) (K01.mask H' M) := fun b o e => by
  obtain ⟨e1, e2⟩ := mask_at e
  exact mask_of (s b o (fun z => e2 (by rw [z]; exact hp)) e1) e2
theorem fresh {p l : Addr} {M : List Addr} {H H' : Hp} {c : Int} (hM : ∀ a ∈ M, H a ≠ none) (b : SameBut p H H') (S : Src H' p c) (n : H' l = none) : l ∉ M := fun m => by
  cases e : H l with
  | none => exact hM l m e
  | some o =>
    rw [b l o (S.ne n) e] at n
    cases n
theorem Gd.mono {k : Nat} {p : Addr} {M : List Addr} {H H' : Hp} {v : V} (g : Gd k M H v) (s : SameBut p H H') (hp : p ∈ M) : Gd k M H' v := by
  obtain ⟨d, h, n⟩ := g
  exact ⟨d, h.mono (s.masks hp), n⟩
theorem Gd.same {k : Nat} {M : List Addr} {H H' : Hp} {v : V} (g : Gd k M H v) (s : Same H H') : Gd k M H' v := by
  obtain ⟨d, h, n⟩ := g
  exact ⟨d, h.mono (mask_same s fun b o _ z => z), n⟩
theorem Gd.new {k : Nat} {l : Addr} {M : List Addr} {H : Hp} {o : HO} {v : V} (g : Gd k M H v) (n : H l = none) : Gd k M (upd H l o) v := g.same (same_new n)
theorem Gd.up {k : Nat} {M : List Addr} {H : Hp} {v : V} (g : Gd k M H v) : Gd (k + 1) M H v := by
  obtain ⟨d, h, n⟩ := g
  exact ⟨d, h, n.up⟩
theorem all_gd {k : Nat} {M : List Addr} {H : Hp} : ∀ {xs : List V}, (∀ x ∈ xs, Gd k M H x) → ∃ ds, DxAll (mask H M) xs ds ∧ ds.length = xs.length ∧ ∀ d ∈ ds, Nice k d
  | [], _ => ⟨[], .nil, rfl, fun d h => absurd h List.not_mem_nil⟩
  | x :: xs, h => by
    obtain ⟨d, h1, h2⟩ := h x List.mem_cons_self
    obtain ⟨ds, h3, h4, h5⟩ := all_gd fun y hy => h y (List.mem_cons_of_mem _ hy)
    refine ⟨d :: ds, .cons h1 h3, by rw [List.length_cons, List.length_cons, h4], fun e he => ?_⟩
    rcases List.mem_cons.mp he with rfl | he
    · exact h2
    · exact h5 e he
theorem at_mask {l : Addr} {M : List Addr} {H : Hp} {o : HO} (e : H l = some o) (ne : l ∉ M) : mask H M l = some o := mask_of e ne
theorem Gd.tup {k : Nat} {l : Addr} {M : List Addr} {H : Hp} {xs : List V} (e : H l = some (.tup xs)) (ne : l ∉ M) (n : xs.length ≤ 6) (h : ∀ x ∈ xs, Gd k M H x) : Gd (k + 1) M H (.ref l) := by
  obtain ⟨ds, h1, h2, h3⟩ := all_gd h
  exact ⟨.tuple ds, .tup (at_mask e ne) h1, by rw [h2]; exact n, h3⟩
theorem Gd.lst {k : Nat} {l : Addr} {M : List Addr} {H : Hp} {xs : List V} (e : H l = some (.lst xs)) (ne : l ∉ M) (n : xs.length ≤ 6) (h : ∀ x ∈ xs, Gd k M H x) : Gd (k + 1) M H (.ref l) := by
  obtain ⟨ds, h1, h2, h3⟩ := all_gd h
  exact ⟨.list ds, .lst (at_mask e ne) h1, by rw [h2]; exact n, h3⟩
theorem gd_non {k : Nat} {M : List Addr} {H : Hp} : Gd k M H .non := ⟨.none, .non, by simp [Nice]⟩
theorem gd_bl {k : Nat} {M : List Addr} {H : Hp} {b : Bool} : Gd k M H (.bl b) := ⟨.bool b, .bl b, by simp [Nice]⟩
theorem gd_int {k : Nat} {M : List Addr} {H : Hp} {i : Int} (h : i.natAbs.log2 < 200) : Gd k M H (.int i) := ⟨.int i, .int i, by simpa [Nice] using h⟩
theorem gd_str {k : Nat} {M : List Addr} {H : Hp} {s : Str} (h : niceT s = true) : Gd k M H (.str s) := ⟨.str s, .str s, nice_txt h⟩
theorem no_mem {α : Type} {P : α → Prop} : ∀ x ∈ ([] : List α), P x := fun x h => absurd h List.not_mem_nil
theorem one_mem {α : Type} {P : α → Prop} {a : α} (h : P a) : ∀ x ∈ [a], P x := fun x m => by
  rw [List.mem_singleton.mp m]
  exact h
theorem two_mem {α : Type} {P : α → Prop} {a b : α} (h : P a) (g : P b) : ∀ x ∈ [a, b], P x := fun x m => by
  rcases List.mem_cons.mp m with rfl | m
  · exact h
  · rw [List.mem_singleton.mp m]
    exact g
abbrev sOdd : Stmt := topS 20
theorem scOdd : FnScope ["_law_source", "_law_some"] ["_law_source"] (defScope sOdd) := ⟨rfl, rfl, rfl, by decide +kernel, rfl, by decide +kernel, by decide +kernel⟩
/-- such data, a tuple of at most two -/
def tl : PyData → Nat
  | .tuple ds => ds.length
  | _ => 0
def Go (M : List Addr) (H : Hp) (v : V) : Prop := ∃ d, Dx (mask H M) v d ∧ Nice 2 d ∧ tl d ≤ 2
theorem Go.mono {p : Addr} {M : List Addr} {H H' : Hp} {v : V} (g : Go M H v) (s : SameBut p H H') (hp : p ∈ M) : Go M H' v := by
  obtain ⟨d, h, n, z⟩ := g
  exact ⟨d, h.mono (s.masks hp), n, z⟩
theorem Go.same {M : List Addr} {H H' : Hp} {v : V} (g : Go M H v) (s : Same H H') : Go M H' v := by
  obtain ⟨d, h, n, z⟩ := g
  exact ⟨d, h.mono (mask_same s fun b o _ z => z), n, z⟩
theorem Go.new {l : Addr} {M : List Addr} {H : Hp} {o : HO} {v : V} (g : Go M H v) (n : H l = none) : Go M (upd H l o) v := g.same (same_new n)
theorem Go.gd {M : List Addr} {H : Hp} {v : V} (g : Go M H v) : Gd 2 M H v := by
  obtain ⟨d, h, n, z⟩ := g
  exact ⟨d, h, n⟩
theorem Go.len {M : List Addr} {H : Hp} {r : Addr} {ys : List V} (g : Go M H (.ref r)) (e : H r = some (.tup ys)) : ys.length ≤ 2 := by
  obtain ⟨d, h, n, z⟩ := g
  cases h with
  | lst e1 h1 =>
    rw [(mask_at e1).1] at e
    cases e
  | tup e1 h1 =>
    rw [(mask_at e1).1] at e
    cases e
    rw [h1.length]
    exact z
theorem Go.tup {l : Addr} {M : List Addr} {H : Hp} {xs : List V} (e : H l = some (.tup xs)) (ne : l ∉ M) (n : xs.length ≤ 2) (h : ∀ x ∈ xs, Gd 1 M H x) : Go M H (.ref l) := by
  obtain ⟨ds, h1, h2, h3⟩ := all_gd h
  exact ⟨.tuple ds, .tup (at_mask e ne) h1, ⟨by rw [h2]; omega, h3⟩, by show ds.length ≤ 2; rw [h2]; exact n⟩
theorem Go.lst {l : Addr} {M : List Addr} {H : Hp} {xs : List V} (e : H l = some (.lst xs)) (ne : l ∉ M) (n : xs.length ≤ 2) (h : ∀ x ∈ xs, Gd 1 M H x) : Go M H (.ref l) := by
  obtain ⟨ds, h1, h2, h3⟩ := all_gd h
  exact ⟨.list ds, .lst (at_mask e ne) h1, ⟨by rw [h2]; omega, h3⟩, Nat.zero_le _⟩
theorem go_non {M : List Addr} {H : Hp} : Go M H .non := ⟨.none, .non, by simp [Nice], Nat.zero_le _⟩
theorem go_bl {M : List Addr} {H : Hp} {b : Bool} : Go M H (.bl b) := ⟨.bool b, .bl b, by simp [Nice], Nat.zero_le _⟩
theorem go_int {M : List Addr} {H : Hp} {i : Int} (h : i.natAbs.log2 < 200) : Go M H (.int i) := ⟨.int i, .int i, by simpa [Nice] using h, Nat.zero_le _⟩
theorem go_str {M : List Addr} {H : Hp} {s : Str} (h : niceT s = true) : Go M H (.str s) := ⟨.str s, .str s, nice_txt h, Nat.zero_le _⟩
def spOdd : Sp := fun vs H Q _ => ∃ (p : Addr) (c : Int) (M : List Addr), vs = [.ref p] ∧ Src H p c ∧ c + 10 < 2 ^ 60 ∧ p ∈ M ∧ (∀ a ∈ M, H a ≠ none) ∧
  ∀ (v : V) (c' : Int) (H' : Hp), Go M H' v → SameBut p H H' → Src H' p c' → c ≤ c' → c' ≤ c + 1 → Q v H'
section
variable {P : Program} {w : World} {K : PySem.W.Frag} {mg : Str → Option Value} {base : Heap} {f fP : Addr} {fd fdP : FuncData}
theorem ok_odd (F : Fun K "_law_odd" "_law_odd" sOdd f fd)
    (GP : FnOk P w K mg base CX0 3 fP fdP ["_law_source", "_law_some"] spPick) (bP : Binds K fdP ["_law_source", "_law_some"] []) (kP : PySem.W.keepIn K (.ref fP) = true) (mP : mg "_law_pick" = some (.ref fP)) :
    FnOk P w K mg base CX0 4 f fd ["_law_source"] spOdd := by
  refine F.ok scOdd (fun vs H Q E h => ?_) (fun cdv A outer s H vs Q E hr h => ?_)
  · obtain ⟨p, c, M, rfl, _⟩ := h
    rfl
  · obtain ⟨p, c, M, rfl, S, hc, hp, hM, q⟩ := h
    refine ⟨_, pss_cons (ps_set (i := 1) scOdd.nd rfl (.inl rfl) (pe_lst (pa_cons pe_non (pa_cons pe_bl (pa_cons pe_bl (pa_cons (pe_un un_neg pe_int) (pa_cons pe_int (pa_cons pe_int (pa_cons pe_int (pa_cons pe_str (pa_cons pe_str (pa_cons pe_str (pa_cons pe_str (pa_cons pe_str (pa_cons pe_str (pa_cons pe_str (pa_cons pe_str (pa_cons (pe_tup pa_nil) (pa_cons (pe_lst pa_nil) (pa_cons (pe_tup (pa_cons pe_int pa_nil)) (pa_cons (pe_lst (pa_cons pe_int pa_nil)) (pa_cons (pe_tup (pa_cons (pe_tup pa_nil) pa_nil)) pa_nil))))))))))))))))))))))
      (pss_one (ps_ret (pe_call GP hr rfl mP kP bP .nil pass0 (pa_cons (pv 0) (pa_cons (pe_op op_cat (pv 1) (pe_lst (pa_cons (pe_tup (pa_cons pe_str pa_nil)) (pa_cons (pe_lst (pa_cons pe_str pa_nil)) (pa_cons (pe_op op_pow pe_int pe_int) (pa_cons pe_str (pa_cons pe_str (pa_cons (pe_tup (pa_cons pe_str (pa_cons pe_int pa_nil))) (pa_cons pe_str (pa_cons pe_str pa_nil)))))))))) pa_nil))))), ?_⟩
    refine ⟨_, rfl, by show 0 ≤ sizeLine; decide, fun t1 n1 => ?_⟩
    have d1 := fresh hM SameBut.refl S n1
    have b1 : SameBut p H (upd H t1 (.tup [])) := but_new SameBut.refl n1
    have S1 : Src (upd H t1 (.tup [])) p c := S.same (same_new n1)
    have e1 : (upd H t1 (.tup [])) t1 = some (.tup []) := upd_same
    have g1 : Go M (upd H t1 (.tup [])) (.ref t1) := Go.tup upd_same d1 (by decide) no_mem
    generalize upd H t1 (.tup []) = H1 at b1 S1 e1 g1 ⊢
    refine ⟨by show 0 ≤ sizeLine; decide, fun l1 n2 => ?_⟩
    have d2 := fresh hM b1 S1 n2
    have b2 : SameBut p H (upd H1 l1 (.lst [])) := but_new b1 n2
    have S2 : Src (upd H1 l1 (.lst [])) p c := S1.same (same_new n2)
    have g1' : Go M (upd H1 l1 (.lst [])) (.ref t1) := g1.new n2
    have e2 : (upd H1 l1 (.lst [])) l1 = some (.lst []) := upd_same
    have g2 : Go M (upd H1 l1 (.lst [])) (.ref l1) := Go.lst upd_same d2 (by decide) no_mem
    clear g1
    generalize upd H1 l1 (.lst []) = H2 at b2 S2 e2 g1' g2 ⊢
    have g1 := g1'
    clear g1'
    refine ⟨by show 1 ≤ sizeLine; decide, fun t2 n3 => ?_⟩
    have d3 := fresh hM b2 S2 n3
    have b3 : SameBut p H (upd H2 t2 (.tup [.int 0])) := but_new b2 n3
    have S3 : Src (upd H2 t2 (.tup [.int 0])) p c := S2.same (same_new n3)
    have g1' : Go M (upd H2 t2 (.tup [.int 0])) (.ref t1) := g1.new n3
    have g2' : Go M (upd H2 t2 (.tup [.int 0])) (.ref l1) := g2.new n3
    have e3 : (upd H2 t2 (.tup [.int 0])) t2 = some (.tup [.int 0]) := upd_same
    have g3 : Go M (upd H2 t2 (.tup [.int 0])) (.ref t2) := Go.tup upd_same d3 (by decide) (one_mem (gd_int (by decide)))
    clear g1 g2
    generalize upd H2 t2 (.tup [.int 0]) = H3 at b3 S3 e3 g1' g2' g3 ⊢
    have g1 := g1'
    clear g1'
    have g2 := g2'
    clear g2'
    refine ⟨by show 1 ≤ sizeLine; decide, fun l2 n4 => ?_⟩
    have d4 := fresh hM b3 S3 n4
    have b4 : SameBut p H (upd H3 l2 (.lst [.int 1])) := but_new b3 n4
    have S4 : Src (upd H3 l2 (.lst [.int 1])) p c := S3.same (same_new n4)
    have g1' : Go M (upd H3 l2 (.lst [.int 1])) (.ref t1) := g1.new n4
    have g2' : Go M (upd H3 l2 (.lst [.int 1])) (.ref l1) := g2.new n4
    have g3' : Go M (upd H3 l2 (.lst [.int 1])) (.ref t2) := g3.new n4
    have e4 : (upd H3 l2 (.lst [.int 1])) l2 = some (.lst [.int 1]) := upd_same
    have g4 : Go M (upd H3 l2 (.lst [.int 1])) (.ref l2) := Go.lst upd_same d4 (by decide) (one_mem (gd_int (by decide)))
    clear g1 g2 g3
    generalize upd H3 l2 (.lst [.int 1]) = H4 at b4 S4 e4 g1' g2' g3' g4 ⊢
    have g1 := g1'
    clear g1'
    have g2 := g2'
    clear g2'
    have g3 := g3'
    clear g3'
    refine ⟨by show 0 ≤ sizeLine; decide, fun t3 n5 => ?_⟩
    have d5 := fresh hM b4 S4 n5
    have b5 : SameBut p H (upd H4 t3 (.tup [])) := but_new b4 n5
    have S5 : Src (upd H4 t3 (.tup [])) p c := S4.same (same_new n5)
    have g1' : Go M (upd H4 t3 (.tup [])) (.ref t1) := g1.new n5
    have g2' : Go M (upd H4 t3 (.tup [])) (.ref l1) := g2.new n5
    have g3' : Go M (upd H4 t3 (.tup [])) (.ref t2) := g3.new n5
    have g4' : Go M (upd H4 t3 (.tup [])) (.ref l2) := g4.new n5
    have e5 : (upd H4 t3 (.tup [])) t3 = some (.tup []) := upd_same
    have g5 : Gd 1 M (upd H4 t3 (.tup [])) (.ref t3) := Gd.tup upd_same d5 (by decide) no_mem
    clear g1 g2 g3 g4
    generalize upd H4 t3 (.tup []) = H5 at b5 S5 e5 g1' g2' g3' g4' g5 ⊢
    have g1 := g1'
    clear g1'
    have g2 := g2'
    clear g2'
    have g3 := g3'
    clear g3'
    have g4 := g4'
    clear g4'
    refine ⟨by show 1 ≤ sizeLine; decide, fun t4 n6 => ?_⟩
    have d6 := fresh hM b5 S5 n6
    have b6 : SameBut p H (upd H5 t4 (.tup [.ref t3])) := but_new b5 n6
    have S6 : Src (upd H5 t4 (.tup [.ref t3])) p c := S5.same (same_new n6)
    have g1' : Go M (upd H5 t4 (.tup [.ref t3])) (.ref t1) := g1.new n6
    have g2' : Go M (upd H5 t4 (.tup [.ref t3])) (.ref l1) := g2.new n6
    have g3' : Go M (upd H5 t4 (.tup [.ref t3])) (.ref t2) := g3.new n6
    have g4' : Go M (upd H5 t4 (.tup [.ref t3])) (.ref l2) := g4.new n6
    have g5' : Gd 1 M (upd H5 t4 (.tup [.ref t3])) (.ref t3) := g5.new n6
    have e6 : (upd H5 t4 (.tup [.ref t3])) t4 = some (.tup [.ref t3]) := upd_same
    have g6 : Go M (upd H5 t4 (.tup [.ref t3])) (.ref t4) := Go.tup upd_same d6 (show 1 ≤ 2 by decide) (one_mem g5')
    clear g1 g2 g3 g4 g5
    generalize upd H5 t4 (.tup [.ref t3]) = H6 at b6 S6 e6 g1' g2' g3' g4' g5' g6 ⊢
    have g1 := g1'
    clear g1'
    have g2 := g2'
    clear g2'
    have g3 := g3'
    clear g3'
    have g4 := g4'
    clear g4'
    have g5 := g5'
    clear g5'
    refine ⟨by show 20 ≤ sizeLine; decide, fun ls n7 => ?_⟩
    have d7 := fresh hM b6 S6 n7
    have b7 : SameBut p H (upd H6 ls (.lst [.non, .bl true, .bl false, .int (-1), .int 0, .int 1, .int 2, .str "", .str "a", .str "A", .str "a1", .str "stop", .str "fork", .str "lead", .str "go ", .ref t1, .ref l1, .ref t2, .ref l2, .ref t4])) := but_new b6 n7
    have S7 : Src (upd H6 ls (.lst [.non, .bl true, .bl false, .int (-1), .int 0, .int 1, .int 2, .str "", .str "a", .str "A", .str "a1", .str "stop", .str "fork", .str "lead", .str "go ", .ref t1, .ref l1, .ref t2, .ref l2, .ref t4])) p c := S6.same (same_new n7)
    have g1' : Go M (upd H6 ls (.lst [.non, .bl true, .bl false, .int (-1), .int 0, .int 1, .int 2, .str "", .str "a", .str "A", .str "a1", .str "stop", .str "fork", .str "lead", .str "go ", .ref t1, .ref l1, .ref t2, .ref l2, .ref t4])) (.ref t1) := g1.new n7
    have g2' : Go M (upd H6 ls (.lst [.non, .bl true, .bl false, .int (-1), .int 0, .int 1, .int 2, .str "", .str "a", .str "A", .str "a1", .str "stop", .str "fork", .str "lead", .str "go ", .ref t1, .ref l1, .ref t2, .ref l2, .ref t4])) (.ref l1) := g2.new n7
    have g3' : Go M (upd H6 ls (.lst [.non, .bl true, .bl false, .int (-1), .int 0, .int 1, .int 2, .str "", .str "a", .str "A", .str "a1", .str "stop", .str "fork", .str "lead", .str "go ", .ref t1, .ref l1, .ref t2, .ref l2, .ref t4])) (.ref t2) := g3.new n7
    have g4' : Go M (upd H6 ls (.lst [.non, .bl true, .bl false, .int (-1), .int 0, .int 1, .int 2, .str "", .str "a", .str "A", .str "a1", .str "stop", .str "fork", .str "lead", .str "go ", .ref t1, .ref l1, .ref t2, .ref l2, .ref t4])) (.ref l2) := g4.new n7
    have g5' : Gd 1 M (upd H6 ls (.lst [.non, .bl true, .bl false, .int (-1), .int 0, .int 1, .int 2, .str "", .str "a", .str "A", .str "a1", .str "stop", .str "fork", .str "lead", .str "go ", .ref t1, .ref l1, .ref t2, .ref l2, .ref t4])) (.ref t3) := g5.new n7
    have g6' : Go M (upd H6 ls (.lst [.non, .bl true, .bl false, .int (-1), .int 0, .int 1, .int 2, .str "", .str "a", .str "A", .str "a1", .str "stop", .str "fork", .str "lead", .str "go ", .ref t1, .ref l1, .ref t2, .ref l2, .ref t4])) (.ref t4) := g6.new n7
    have e7 : (upd H6 ls (.lst [.non, .bl true, .bl false, .int (-1), .int 0, .int 1, .int 2, .str "", .str "a", .str "A", .str "a1", .str "stop", .str "fork", .str "lead", .str "go ", .ref t1, .ref l1, .ref t2, .ref l2, .ref t4])) ls = some (.lst [.non, .bl true, .bl false, .int (-1), .int 0, .int 1, .int 2, .str "", .str "a", .str "A", .str "a1", .str "stop", .str "fork", .str "lead", .str "go ", .ref t1, .ref l1, .ref t2, .ref l2, .ref t4]) := upd_same
    clear g1 g2 g3 g4 g5 g6
    generalize upd H6 ls (.lst [.non, .bl true, .bl false, .int (-1), .int 0, .int 1, .int 2, .str "", .str "a", .str "A", .str "a1", .str "stop", .str "fork", .str "lead", .str "go ", .ref t1, .ref l1, .ref t2, .ref l2, .ref t4]) = H7 at b7 S7 e7 g1' g2' g3' g4' g5' g6' ⊢
    have g1 := g1'
    clear g1'
    have g2 := g2'
    clear g2'
    have g3 := g3'
    clear g3'
    have g4 := g4'
    clear g4'
    have g5 := g5'
    clear g5'
    have g6 := g6'
    clear g6'
    refine ⟨_, rfl, _, rfl, by show 1 ≤ sizeLine; decide, fun t5 n8 => ?_⟩
    have d8 := fresh hM b7 S7 n8
    have b8 : SameBut p H (upd H7 t5 (.tup [.str "lead"])) := but_new b7 n8
    have S8 : Src (upd H7 t5 (.tup [.str "lead"])) p c := S7.same (same_new n8)
    have g1' : Go M (upd H7 t5 (.tup [.str "lead"])) (.ref t1) := g1.new n8
    have g2' : Go M (upd H7 t5 (.tup [.str "lead"])) (.ref l1) := g2.new n8
    have g3' : Go M (upd H7 t5 (.tup [.str "lead"])) (.ref t2) := g3.new n8
    have g4' : Go M (upd H7 t5 (.tup [.str "lead"])) (.ref l2) := g4.new n8
    have g5' : Gd 1 M (upd H7 t5 (.tup [.str "lead"])) (.ref t3) := g5.new n8
    have g6' : Go M (upd H7 t5 (.tup [.str "lead"])) (.ref t4) := g6.new n8
    have e8 : (upd H7 t5 (.tup [.str "lead"])) t5 = some (.tup [.str "lead"]) := upd_same
    have e7' : (upd H7 t5 (.tup [.str "lead"])) ls = some (.lst [.non, .bl true, .bl false, .int (-1), .int 0, .int 1, .int 2, .str "", .str "a", .str "A", .str "a1", .str "stop", .str "fork", .str "lead", .str "go ", .ref t1, .ref l1, .ref t2, .ref l2, .ref t4]) := (upd_ne (ne_of_none e7 n8)).trans e7
    have g8 : Go M (upd H7 t5 (.tup [.str "lead"])) (.ref t5) := Go.tup upd_same d8 (by decide) (one_mem (gd_str (by decide +kernel)))
    clear g1 g2 g3 g4 g5 g6 e7
    generalize upd H7 t5 (.tup [.str "lead"]) = H8 at b8 S8 e8 g1' g2' g3' g4' g5' g6' g8 e7' ⊢
    have g1 := g1'
    clear g1'
    have g2 := g2'
    clear g2'
    have g3 := g3'
    clear g3'
    have g4 := g4'
    clear g4'
    have g5 := g5'
    clear g5'
    have g6 := g6'
    clear g6'
    have e7 := e7'
    clear e7'
    refine ⟨by show 1 ≤ sizeLine; decide, fun l5 n9 => ?_⟩
    have d9 := fresh hM b8 S8 n9
    have b9 : SameBut p H (upd H8 l5 (.lst [.str "lead"])) := but_new b8 n9
    have S9 : Src (upd H8 l5 (.lst [.str "lead"])) p c := S8.same (same_new n9)
    have g1' : Go M (upd H8 l5 (.lst [.str "lead"])) (.ref t1) := g1.new n9
    have g2' : Go M (upd H8 l5 (.lst [.str "lead"])) (.ref l1) := g2.new n9
    have g3' : Go M (upd H8 l5 (.lst [.str "lead"])) (.ref t2) := g3.new n9
    have g4' : Go M (upd H8 l5 (.lst [.str "lead"])) (.ref l2) := g4.new n9
    have g5' : Gd 1 M (upd H8 l5 (.lst [.str "lead"])) (.ref t3) := g5.new n9
    have g6' : Go M (upd H8 l5 (.lst [.str "lead"])) (.ref t4) := g6.new n9
    have g8' : Go M (upd H8 l5 (.lst [.str "lead"])) (.ref t5) := g8.new n9
    have e9 : (upd H8 l5 (.lst [.str "lead"])) l5 = some (.lst [.str "lead"]) := upd_same
    have e7' : (upd H8 l5 (.lst [.str "lead"])) ls = some (.lst [.non, .bl true, .bl false, .int (-1), .int 0, .int 1, .int 2, .str "", .str "a", .str "A", .str "a1", .str "stop", .str "fork", .str "lead", .str "go ", .ref t1, .ref l1, .ref t2, .ref l2, .ref t4]) := (upd_ne (ne_of_none e7 n9)).trans e7
    have g9 : Go M (upd H8 l5 (.lst [.str "lead"])) (.ref l5) := Go.lst upd_same d9 (by decide) (one_mem (gd_str (by decide +kernel)))
    clear g1 g2 g3 g4 g5 g6 g8 e7
    generalize upd H8 l5 (.lst [.str "lead"]) = H9 at b9 S9 e9 g1' g2' g3' g4' g5' g6' g8' g9 e7' ⊢
    have g1 := g1'
    clear g1'
    have g2 := g2'
    clear g2'
    have g3 := g3'
    clear g3'
    have g4 := g4'
    clear g4'
    have g5 := g5'
    clear g5'
    have g6 := g6'
    clear g6'
    have g8 := g8'
    clear g8'
    have e7 := e7'
    clear e7'
    refine ⟨_, _, rfl, rfl, ⟨by decide, by decide, by decide⟩, by show 2 ≤ sizeLine; decide, fun t6 n10 => ?_⟩
    have d10 := fresh hM b9 S9 n10
    have b10 : SameBut p H (upd H9 t6 (.tup [.str "fork", .int 2])) := but_new b9 n10
    have S10 : Src (upd H9 t6 (.tup [.str "fork", .int 2])) p c := S9.same (same_new n10)
    have g1' : Go M (upd H9 t6 (.tup [.str "fork", .int 2])) (.ref t1) := g1.new n10
    have g2' : Go M (upd H9 t6 (.tup [.str "fork", .int 2])) (.ref l1) := g2.new n10
    have g3' : Go M (upd H9 t6 (.tup [.str "fork", .int 2])) (.ref t2) := g3.new n10
    have g4' : Go M (upd H9 t6 (.tup [.str "fork", .int 2])) (.ref l2) := g4.new n10
    have g5' : Gd 1 M (upd H9 t6 (.tup [.str "fork", .int 2])) (.ref t3) := g5.new n10
    have g6' : Go M (upd H9 t6 (.tup [.str "fork", .int 2])) (.ref t4) := g6.new n10
    have g8' : Go M (upd H9 t6 (.tup [.str "fork", .int 2])) (.ref t5) := g8.new n10
    have g9' : Go M (upd H9 t6 (.tup [.str "fork", .int 2])) (.ref l5) := g9.new n10
    have e10 : (upd H9 t6 (.tup [.str "fork", .int 2])) t6 = some (.tup [.str "fork", .int 2]) := upd_same
    have e7' : (upd H9 t6 (.tup [.str "fork", .int 2])) ls = some (.lst [.non, .bl true, .bl false, .int (-1), .int 0, .int 1, .int 2, .str "", .str "a", .str "A", .str "a1", .str "stop", .str "fork", .str "lead", .str "go ", .ref t1, .ref l1, .ref t2, .ref l2, .ref t4]) := (upd_ne (ne_of_none e7 n10)).trans e7
    have g10 : Go M (upd H9 t6 (.tup [.str "fork", .int 2])) (.ref t6) := Go.tup upd_same d10 (by decide) (two_mem (gd_str (by decide +kernel)) (gd_int (by decide)))
    clear g1 g2 g3 g4 g5 g6 g8 g9 e7
    generalize upd H9 t6 (.tup [.str "fork", .int 2]) = H10 at b10 S10 e10 g1' g2' g3' g4' g5' g6' g8' g9' g10 e7' ⊢
    have g1 := g1'
    clear g1'
    have g2 := g2'
    clear g2'
    have g3 := g3'
    clear g3'
    have g4 := g4'
    clear g4'
    have g5 := g5'
    clear g5'
    have g6 := g6'
    clear g6'
    have g8 := g8'
    clear g8'
    have g9 := g9'
    clear g9'
    have e7 := e7'
    clear e7'
    refine ⟨by show 8 ≤ sizeLine; decide, fun lm n11 => ?_⟩
    have d11 := fresh hM b10 S10 n11
    have b11 : SameBut p H (upd H10 lm (.lst [.ref t5, .ref l5, .int (10 ^ (40 : Int).toNat), .str "stopp", .str "handles", .ref t6, .str "log.", .str "wait"])) := but_new b10 n11
    have S11 : Src (upd H10 lm (.lst [.ref t5, .ref l5, .int (10 ^ (40 : Int).toNat), .str "stopp", .str "handles", .ref t6, .str "log.", .str "wait"])) p c := S10.same (same_new n11)
    have g1' : Go M (upd H10 lm (.lst [.ref t5, .ref l5, .int (10 ^ (40 : Int).toNat), .str "stopp", .str "handles", .ref t6, .str "log.", .str "wait"])) (.ref t1) := g1.new n11
    have g2' : Go M (upd H10 lm (.lst [.ref t5, .ref l5, .int (10 ^ (40 : Int).toNat), .str "stopp", .str "handles", .ref t6, .str "log.", .str "wait"])) (.ref l1) := g2.new n11
    have g3' : Go M (upd H10 lm (.lst [.ref t5, .ref l5, .int (10 ^ (40 : Int).toNat), .str "stopp", .str "handles", .ref t6, .str "log.", .str "wait"])) (.ref t2) := g3.new n11
    have g4' : Go M (upd H10 lm (.lst [.ref t5, .ref l5, .int (10 ^ (40 : Int).toNat), .str "stopp", .str "handles", .ref t6, .str "log.", .str "wait"])) (.ref l2) := g4.new n11
    have g5' : Gd 1 M (upd H10 lm (.lst [.ref t5, .ref l5, .int (10 ^ (40 : Int).toNat), .str "stopp", .str "handles", .ref t6, .str "log.", .str "wait"])) (.ref t3) := g5.new n11
    have g6' : Go M (upd H10 lm (.lst [.ref t5, .ref l5, .int (10 ^ (40 : Int).toNat), .str "stopp", .str "handles", .ref t6, .str "log.", .str "wait"])) (.ref t4) := g6.new n11
    have g8' : Go M (upd H10 lm (.lst [.ref t5, .ref l5, .int (10 ^ (40 : Int).toNat), .str "stopp", .str "handles", .ref t6, .str "log.", .str "wait"])) (.ref t5) := g8.new n11
    have g9' : Go M (upd H10 lm (.lst [.ref t5, .ref l5, .int (10 ^ (40 : Int).toNat), .str "stopp", .str "handles", .ref t6, .str "log.", .str "wait"])) (.ref l5) := g9.new n11
    have g10' : Go M (upd H10 lm (.lst [.ref t5, .ref l5, .int (10 ^ (40 : Int).toNat), .str "stopp", .str "handles", .ref t6, .str "log.", .str "wait"])) (.ref t6) := g10.new n11
    have e11 : (upd H10 lm (.lst [.ref t5, .ref l5, .int (10 ^ (40 : Int).toNat), .str "stopp", .str "handles", .ref t6, .str "log.", .str "wait"])) lm = some (.lst [.ref t5, .ref l5, .int (10 ^ (40 : Int).toNat), .str "stopp", .str "handles", .ref t6, .str "log.", .str "wait"]) := upd_same
    have e7' : (upd H10 lm (.lst [.ref t5, .ref l5, .int (10 ^ (40 : Int).toNat), .str "stopp", .str "handles", .ref t6, .str "log.", .str "wait"])) ls = some (.lst [.non, .bl true, .bl false, .int (-1), .int 0, .int 1, .int 2, .str "", .str "a", .str "A", .str "a1", .str "stop", .str "fork", .str "lead", .str "go ", .ref t1, .ref l1, .ref t2, .ref l2, .ref t4]) := (upd_ne (ne_of_none e7 n11)).trans e7
    clear g1 g2 g3 g4 g5 g6 g8 g9 g10 e7
    generalize upd H10 lm (.lst [.ref t5, .ref l5, .int (10 ^ (40 : Int).toNat), .str "stopp", .str "handles", .ref t6, .str "log.", .str "wait"]) = H11 at b11 S11 e11 g1' g2' g3' g4' g5' g6' g8' g9' g10' e7' ⊢
    have g1 := g1'
    clear g1'
    have g2 := g2'
    clear g2'
    have g3 := g3'
    clear g3'
    have g4 := g4'
    clear g4'
    have g5 := g5'
    clear g5'
    have g6 := g6'
    clear g6'
    have g8 := g8'
    clear g8'
    have g9 := g9'
    clear g9'
    have g10 := g10'
    clear g10'
    have e7 := e7'
    clear e7'
    refine ⟨ls, lm, _, _, rfl, rfl, e7, e11, by show 28 ≤ sizeLine; decide, fun la na => ?_⟩
    have d12 := S11.ne na
    refine ⟨p, la, c, _, rfl, S11.same (same_new na), by omega, d12, upd_same, (show 0 < 28 by decide), (show 28 ≤ 1000 by decide), fun j v c' zs ej c0 c1 S' => ?_⟩
    have bb : SameBut p H11 (upd (upd H11 la (.lst ([.non, .bl true, .bl false, .int (-1), .int 0, .int 1, .int 2, .str "", .str "a", .str "A", .str "a1", .str "stop", .str "fork", .str "lead", .str "go ", .ref t1, .ref l1, .ref t2, .ref l2, .ref t4] ++ [.ref t5, .ref l5, .int (10 ^ (40 : Int).toNat), .str "stopp", .str "handles", .ref t6, .str "log.", .str "wait"]))) p (.lst zs)) := (Same.but (same_new na)).trans but_upd
    refine q v c' _ ?_ (b11.trans bb) S' c0 c1
    refine Go.mono ?_ bb hp
    have m := List.mem_of_getElem? ej
    simp only [List.cons_append, List.nil_append, List.mem_cons, List.not_mem_nil, or_false] at m
    rcases m with rfl | rfl | rfl | rfl | rfl | rfl | rfl | rfl | rfl | rfl | rfl | rfl | rfl | rfl | rfl | rfl | rfl | rfl | rfl | rfl | rfl | rfl | rfl | rfl | rfl | rfl | rfl | rfl
    · exact go_non
    · exact go_bl
    · exact go_bl
    · exact go_int (by decide +kernel)
    · exact go_int (by decide +kernel)
    · exact go_int (by decide +kernel)
    · exact go_int (by decide +kernel)
    · exact go_str (by decide +kernel)
    · exact go_str (by decide +kernel)
    · exact go_str (by decide +kernel)
    · exact go_str (by decide +kernel)
    · exact go_str (by decide +kernel)
    · exact go_str (by decide +kernel)
    · exact go_str (by decide +kernel)
    · exact go_str (by decide +kernel)
    · exact g1
    · exact g2
    · exact g3
    · exact g4
    · exact g6
    · exact g8
    · exact g9
    · exact go_int (by decide +kernel)
    · exact go_str (by decide +kernel)
    · exact go_str (by decide +kernel)
    · exact g10
    · exact go_str (by decide +kernel)
    · exact go_str (by decide +kernel)
end
end K01
set_option Elab.async false
set_option linter.all false
set_option maxRecDepth 100000
set_option maxHeartbeats 4000000
namespace K01
open PySem PySem.Spec PyProof.Rows L2
abbrev sBent : Stmt := topS 21
abbrev nBent : List Str := ["_law_source", "_law_deed", "_law_way", "_law_some", "_law_at"]
theorem scBent : FnScope nBent ["_law_source", "_law_deed"] (defScope sBent) := ⟨rfl, rfl, rfl, by decide +kernel, rfl, by decide +kernel, by decide +kernel⟩
def spBent : Sp := fun vs H Q _ => ∃ (p t : Addr) (c : Int) (xs : List V) (k : Nat) (M : List Addr), vs = [.ref p, .ref t] ∧ Src H p c ∧ c + 20 < 2 ^ 60 ∧ p ∈ M ∧ (∀ a ∈ M, H a ≠ none) ∧ t ∉ M ∧ H t = some (.tup xs) ∧ 0 < xs.length ∧ xs.length ≤ 5 ∧ 2 ≤ k ∧ (∀ x ∈ xs, Gd k M H x) ∧
  ∀ (v : V) (c' : Int) (H' : Hp), Gd (k + 2) M H' v → (∀ r ys, v = .ref r → H' r = some (.tup ys) → ys.length ≤ xs.length + 1) → SameBut p H H' → Src H' p c' → c ≤ c' → c' ≤ c + 5 → Q v H'
theorem Gd.ups {k j : Nat} {M : List Addr} {H : Hp} {v : V} (g : Gd k M H v) (h : k ≤ j) : Gd j M H v := by
  obtain ⟨i, rfl⟩ : ∃ i, j = k + i := ⟨j - k, by omega⟩
  clear h
  induction i with
  | zero => exact g
  | succ i ih => exact ih.up
theorem Gd.less {k : Nat} {M N : List Addr} {H : Hp} {v : V} (g : Gd k M H v) (h : ∀ a ∈ N, a ∈ M) : Gd k N H v := by
  obtain ⟨d, hd, n⟩ := g
  exact ⟨d, hd.mono (mask_same (Same.refl H) fun b _ _ z => h b z), n⟩
theorem Gd.set {k : Nat} {l : Addr} {M : List Addr} {H : Hp} {o : HO} {v : V} (g : Gd k M H v) (h : l ∈ M) : Gd k M (upd H l o) v := by
  obtain ⟨d, hd, n⟩ := g
  exact ⟨d, by rw [mask_upd h]; exact hd, n⟩
theorem cons_mem {α : Type} {P : α → Prop} {a : α} {l : List α} (h : P a) (g : ∀ x ∈ l, P x) : ∀ x ∈ a :: l, P x := fun x m => by
  rcases List.mem_cons.mp m with rfl | m
  · exact h
  · exact g x m
theorem in1 {p : Addr} : p ∈ [p] := List.mem_singleton.mpr rfl
theorem out1 {p l : Addr} (h : l ≠ p) : l ∉ [p] := fun z => h (List.mem_singleton.mp z)
theorem ixN_at {n j : Nat} (hj : j < n) : ixN n (j : Int) = some j := by
  unfold ixN
  rw [if_pos (by omega), if_pos (by omega), Int.toNat_natCast]
theorem alive {p : Addr} {M : List Addr} {H H' : Hp} {c : Int} (hM : ∀ a ∈ M, H a ≠ none) (b : SameBut p H H') (S : Src H' p c) : ∀ a ∈ M, H' a ≠ none := fun a m z => fresh hM b S z m
theorem cat_any {K : PySem.W.Frag} {H : Hp} {a b : Addr} {M : List Addr} {xs ys : List V} {Q : VK} (ea : H a = some (.tup xs)) (eb : H b = some (.tup ys)) (hz : xs.length + ys.length ≤ sizeLine) (na : a ∉ M) (nb : b ∉ M) (hM : ∀ a ∈ M, H a ≠ none)
    (q : ∀ r H', H' r = some (.tup (xs ++ ys)) → Same H H' → r ∉ M → Q (.ref r) H') : rCatA K (.ref a) (.ref b) H Q := by
  refine ⟨a, b, xs, ys, rfl, rfl, SqT.of ea, SqT.of eb, hz, fun z => ?_, fun _ z => ?_, fun _ _ r nr => ?_⟩
  · subst z
    exact q b H eb (Same.refl _) nb
  · subst z
    exact q a H (by rw [List.append_nil]; exact ea) (Same.refl _) na
  · exact q r _ upd_same (same_new nr) fun z => hM r z nr
theorem Src.some {H : Hp} {p : Addr} {c : Int} (S : Src H p c) : H p ≠ none := fun z => by
  obtain ⟨a, b, e, _⟩ := S
  rw [e] at z
  cases z
theorem cut_head {xs : List V} {j : Nat} (h : j < xs.length) : cutV xs none (some (j : Int)) = xs.take j := by
  unfold cutV
  rw [HT.sIx_nat]
  show (xs.drop 0).take (min j xs.length - 0) = _
  rw [List.drop_zero, Nat.sub_zero, Nat.min_eq_left (by omega)]
theorem cut_tail {xs : List V} {j : Nat} (h : j ≤ xs.length) : cutV xs (some (j : Int)) none = xs.drop j := by
  unfold cutV
  rw [HT.sIx_nat, Nat.min_eq_left h]
  show (xs.drop j).take (xs.length - j) = _
  exact List.take_of_length_le (by rw [List.length_drop]; omega)
theorem names_nice : ∀ z ∈ table.map (·.1), niceT z = true := by decide +kernel
theorem names_kv : formsKV.map (·.1) = (table.map (·.1)).map Sum.inr := by decide +kernel
section
variable {P : Program} {w : World} {K : PySem.W.Frag} {mg : Str → Option Value} {base : Heap} {f fD fP fO fF : Addr} {fd fdD fdP fdO fdF : FuncData}
theorem ok_bent (F : Fun K "_law_bent" "_law_bent" sBent f fd) (G : FnOk P w K mg base CX0 2 fD fdD ["_law_source", "_law_bound"] (spDraw 2)) (bG : Binds K fdD ["_law_source", "_law_bound"] []) (kG : PySem.W.keepIn K (.ref fD) = true) (mG : mg "_law_draw" = some (.ref fD))
    (GP : FnOk P w K mg base CX0 3 fP fdP ["_law_source", "_law_some"] spPick) (bP : Binds K fdP ["_law_source", "_law_some"] []) (kP : PySem.W.keepIn K (.ref fP) = true) (mP : mg "_law_pick" = some (.ref fP))
    (GO : FnOk P w K mg base CX0 4 fO fdO ["_law_source"] spOdd) (bO : Binds K fdO ["_law_source"] []) (kO : PySem.W.keepIn K (.ref fO) = true) (mO : mg "_law_odd" = some (.ref fO))
    (GF : FnOk P w K mg base CX0 1 fF fdF [] spForms) (bF : Binds K fdF [] []) (kF : PySem.W.keepIn K (.ref fF) = true) (mF : mg "_law_forms" = some (.ref fF))
    (mL : mg "list" = none) (ml : mg "len" = none) (mS : mg "sorted" = none) (mT : mg "tuple" = none) :
    FnOk P w K mg base CX0 5 f fd ["_law_source", "_law_deed"] spBent := by
  refine F.ok scBent (fun vs H Q E h => ?_) (fun cdv A outer s H vs Q E hr h => ?_)
  · obtain ⟨p, t, c, xs, k, M, rfl, _⟩ := h
    rfl
  · obtain ⟨p, t, c, xs, k, M, rfl, S, hc, hp, hM, ntM, et, h0, h5, hk, hx, q⟩ := h
    have nt : t ≠ p := fun z => ntM (by rw [z]; exact hp)
    refine ⟨_, pss_cons (ps_par (i := 2) (j := 3) rfl scBent.nd rfl rfl (by decide) rfl rfl (pa_cons (pe_call G (hr.mono (by decide)) rfl mG kG bG .nil pass0 (pa_cons (pv 0) (pa_cons pe_int pa_nil))) (pa_cons (pe_callTy call_list_of (by rfl) mL (by decide +kernel) (pa_cons (pv 1) pa_nil)) pa_nil)) rfl)
      (pss_cons (ps_set (i := 4) scBent.nd rfl (.inl rfl) (pe_call G (hr.mono (by decide)) rfl mG kG bG .nil pass0 (pa_cons (pv 0) (pa_cons (pe_callB call_len_seq (by rfl) ml PySem.boot_len (pa_cons (pv 1) pa_nil)) pa_nil))))
      (pss_cons (ps_if (pt_cmpR op_eq (pv 2) pe_int (nomark _)) (pss_one (ps_ret (pv 3))) pss_nil)
      (pss_cons (ps_if (pt_cmpR op_eq (pv 2) pe_int (nomark _)) (pss_one (ps_ret (pe_op op_catA (pv 1) (pe_tup (pa_cons (pe_call GO hr rfl mO kO bO .nil pass0 (pa_cons (pv 0) pa_nil)) pa_nil))))) pss_nil)
      (pss_cons (ps_if (pt_cmpR op_eq (pv 2) pe_int (nomark _)) (pss_one (ps_ret (pe_op op_catA (pe_slice sl_tupA (pv 1) po_none (po_some (pv 4))) (pe_slice sl_tupA (pv 1) (po_some (pe_op op_add (pv 4) pe_int)) po_none)))) pss_nil)
      (pss_cons (ps_if (pt_cmpR op_eq (pv 2) pe_int (nomark _)) (pss_one (ps_ret (pe_tup (pa_cons (pv 1) pa_nil)))) pss_nil)
      (pss_cons (ps_if (pt_cmpR op_eq (pv 2) pe_int (nomark _)) (pss_one (ps_ret (pe_call GO hr rfl mO kO bO .nil pass0 (pa_cons (pv 0) pa_nil)))) pss_nil)
      (pss_cons (ps_if (pt_cmpR op_eq (pv 2) pe_int (nomark _)) (pss_one (ps_ret (pe_op op_catA (pe_tup (pa_cons (pe_call GP (hr.mono (by decide)) rfl mP kP bP .nil pass0 (pa_cons (pv 0) (pa_cons (pe_callB (call_sortedD rfl) (by rfl) mS (by decide +kernel) (pa_cons (pe_call0 GF (hr.mono (by decide)) rfl mF kF bF .nil pass0) pa_nil)) pa_nil))) pa_nil))
          (pe_slice sl_tupA (pv 1) (po_some pe_int) po_none)))) pss_nil)
      (pss_cons (ps_asg (pe_call GO hr rfl mO kO bO .nil pass0 (pa_cons (pv 0) pa_nil)) (pg_sub (pv 3) (pv 4) set_list))
      (pss_one (ps_ret (pe_tupleOf (by rfl) mT (pv 3)))))))))))), ?_⟩
    refine ⟨_, rfl, p, c, 9, rfl, S, by omega, by decide, by decide, .inl (by decide), fun way c1 ys w0 w1 c10 c11 c12 S1 => ?_⟩
    have c13 := c12 (by decide)
    have b1 : SameBut p H (upd H p (.lst ys)) := but_upd
    generalize upd H p (.lst ys) = H1 at S1 b1 ⊢
    have e1 := b1 _ _ nt et
    refine ⟨_, rfl, t, xs, rfl, .inr (SqT.of e1), fun l nl => ?_⟩
    have dl := S1.ne nl
    have S2 : Src (upd H1 l (.lst xs)) p c1 := S1.same (same_new nl)
    have b2 : SameBut p H (upd H1 l (.lst xs)) := but_new b1 nl
    have e2 : upd H1 l (.lst xs) l = some (.lst xs) := upd_same
    generalize upd H1 l (.lst xs) = H2 at S2 b2 e2 ⊢
    have et2 := b2 _ _ nt et
    refine ⟨_, _, rfl, ?_⟩
    refine ⟨_, rfl, _, rfl, t, xs, rfl, .inr (SqT.of et2), p, c1, _, rfl, S2, by omega, by omega, by decide, .inl (by omega), fun at_ c2 zs a0 a1 c20 c21 c22 S3 => ?_⟩
    have c23 := c22 (by omega)
    obtain ⟨j, rfl⟩ : ∃ j : Nat, at_ = (j : Int) := ⟨at_.toNat, by omega⟩
    have hj : j < xs.length := by omega
    have b3 : SameBut p H (upd H2 p (.lst zs)) := b2.trans but_upd
    have e3 : upd H2 p (.lst zs) l = some (.lst xs) := (upd_ne dl).trans e2
    generalize upd H2 p (.lst zs) = H3 at S3 b3 e3 ⊢
    have et3 := b3 _ _ nt et
    have hx3 : ∀ x ∈ xs, Gd k M H3 x := fun x m => (hx x m).mono b3 hp
    have fin : ∀ {r : Addr} {us : List V} {c' : Int} {H' : Hp}, H' r = some (.tup us) → r ∉ M → us.length ≤ xs.length + 1 → (∀ u ∈ us, Gd (k + 1) M H' u) → SameBut p H H' → Src H' p c' → c ≤ c' → c' ≤ c + 5 → Q (.ref r) H' :=
      fun {r us c' H'} er nr hl hu hb hS h1 h2 => q _ c' H' (Gd.tup er nr (by omega) hu) (fun r' ys' z1 z2 => by cases z1; rw [er] at z2; cases z2; exact hl) hb hS h1 h2
    have m3 := alive hM b3 S3
    have dlM : l ∉ M := fresh hM b1 S1 nl
    have oddly : ∀ (N : List Addr) {Q' : VK}, p ∈ N → (∀ a ∈ N, H3 a ≠ none) → (∀ (v : V) (c' : Int) (H' : Hp), Go N H' v → SameBut p H3 H' → Src H' p c' → c2 ≤ c' → c' ≤ c2 + 1 → Q' v H') → spOdd [.ref p] H3 Q' E0 := fun N {_} hm hn g => ⟨p, c2, N, rfl, S3, by omega, hm, hn, g⟩
    -- way 0
    refine ⟨_, rfl, rfl, _, rfl, ite2 (fun _ => ?_) (fun _ => ?_)⟩
    · refine ⟨_, rfl, q _ c2 H3 (Gd.ups (Gd.lst e3 dlM (by omega) hx3) (by omega)) (fun r ys z1 z2 => ?_) b3 S3 (by omega) (by omega)⟩
      cases z1
      rw [e3] at z2
      cases z2
    -- way 1
    refine ⟨_, rfl, rfl, _, rfl, ite2 (fun _ => ?_) (fun _ => ?_)⟩
    · refine ⟨_, rfl, _, rfl, oddly M hp m3 fun v c3 H4 g4 b4 S4 c30 c31 => ⟨by show 1 ≤ sizeLine; decide, fun r nr => ?_⟩⟩
      have d4 := fresh m3 b4 S4 nr
      have et4 : upd H4 r (.tup [v]) t = some (.tup xs) := (same_new nr) _ _ (b4 _ _ nt et3)
      have b5 : SameBut p H3 (upd H4 r (.tup [v])) := but_new b4 nr
      refine cat_any (M := M) et4 upd_same (by rw [sizeLine_eq]; show xs.length + 1 ≤ _; omega) ntM d4 (alive m3 b5 (S4.same (same_new nr))) fun r2 H6 e6 s6 d6 => ?_
      refine fin e6 d6 (by rw [List.length_append]; exact Nat.le_refl _) (fun u m => ?_) (b3.trans (b5.trans (Same.but s6))) ((S4.same (same_new nr)).same s6) (by omega) (by omega)
      rcases List.mem_append.mp m with m | m
      · exact ((hx3 u m).mono (b5.trans (Same.but s6)) hp).up
      · rw [List.mem_singleton.mp m]
        exact ((g4.new nr).same s6).gd.ups (by omega)
    -- way 2
    refine ⟨_, rfl, rfl, _, rfl, ite2 (fun _ => ?_) (fun _ => ?_)⟩
    · refine ⟨_, rfl, _, rfl, _, rfl, t, xs, rfl, SqT.of et3, fun z => ?_, fun _ r1 nr1 => ?_⟩
      · have z2 := z.2
        rw [HT.sIx_nat] at z2
        omega
      rw [cut_head hj]
      have d4 := fresh m3 SameBut.refl S3 nr1
      have S4 : Src (upd H3 r1 (.tup (xs.take j))) p c2 := S3.same (same_new nr1)
      have b4 : SameBut p H3 (upd H3 r1 (.tup (xs.take j))) := Same.but (same_new nr1)
      have e4 : upd H3 r1 (.tup (xs.take j)) r1 = some (.tup (xs.take j)) := upd_same
      generalize upd H3 r1 (.tup (xs.take j)) = H4 at S4 b4 e4 ⊢
      refine ⟨_, rfl, _, rfl, _, _, rfl, rfl, _, rfl, t, xs, rfl, SqT.of (b4 _ _ nt et3), fun z => ?_, fun _ r2 nr2 => ?_⟩
      · have z1 := z.1
        rw [show ((j : Int) + 1) = ((j + 1 : Nat) : Int) from rfl, HT.sIx_nat] at z1
        omega
      rw [show ((j : Int) + 1) = ((j + 1 : Nat) : Int) from rfl, cut_tail hj]
      have d5 := fresh m3 b4 S4 nr2
      refine cat_any (M := M) ((same_new nr2) _ _ e4) upd_same (by rw [sizeLine_eq, List.length_take, List.length_drop]; omega) d4 d5 (alive m3 (but_new b4 nr2) (S4.same (same_new nr2))) fun r3 H6 e6 s6 d6 => ?_
      have b6 : SameBut p H3 H6 := (but_new b4 nr2).trans (Same.but s6)
      refine fin e6 d6 (by rw [List.length_append, List.length_take, List.length_drop]; omega) (fun u m => ?_) (b3.trans b6) ((S4.same (same_new nr2)).same s6) (by omega) (by omega)
      rcases List.mem_append.mp m with m | m
      · exact ((hx3 u (List.mem_of_mem_take m)).mono b6 hp).up
      · exact ((hx3 u (List.mem_of_mem_drop m)).mono b6 hp).up
    -- way 3
    refine ⟨_, rfl, rfl, _, rfl, ite2 (fun _ => ?_) (fun _ => ?_)⟩
    · refine ⟨_, rfl, by show 1 ≤ sizeLine; decide, fun r nr => ?_⟩
      have d4 := fresh m3 SameBut.refl S3 nr
      exact fin upd_same d4 (show 1 ≤ xs.length + 1 by omega) (one_mem ((Gd.tup et3 ntM (by omega) hx3).new nr)) (but_new b3 nr) (S3.same (same_new nr)) (by omega) (by omega)
    -- way 4
    refine ⟨_, rfl, rfl, _, rfl, ite2 (fun _ => ?_) (fun _ => ?_)⟩
    · refine ⟨_, rfl, oddly M hp m3 fun v c3 H4 g4 b4 S4 c30 c31 => ?_⟩
      refine q v c3 H4 (g4.gd.ups (by omega)) (fun r ys z1 z2 => ?_) (b3.trans b4) S4 (by omega) (by omega)
      subst z1
      have := g4.len z2
      omega
    -- way 5
    refine ⟨_, rfl, rfl, _, rfl, ite2 (fun _ => ?_) (fun _ => ?_)⟩
    · refine ⟨_, rfl, rfl, fun g H4 ng s4 eg => ?_⟩
      have S4 := S3.same s4
      have b4 : SameBut p H3 H4 := Same.but s4
      refine ⟨g, formsKV, table.map (·.1), rfl, .inl eg, names_kv, by decide, fun ns l2 perm _ nl2 => ?_⟩
      have d4 := S4.ne nl2
      have lens : (ns.map V.str).length = 28 := by
        rw [List.length_map, perm.length_eq]
        decide
      refine ⟨p, l2, c2, _, rfl, S4.same (same_new nl2), by omega, d4, upd_same, by omega, by omega, fun i v c3 us ei c30 c31 S5 => ?_⟩
      have b5 : SameBut p H3 (upd (upd H4 l2 (.lst (ns.map V.str))) p (.lst us)) := (but_new b4 nl2).trans but_upd
      generalize upd (upd H4 l2 (.lst (ns.map V.str))) p (.lst us) = H5 at S5 b5 ⊢
      obtain ⟨z, hz, rfl⟩ := List.mem_map.mp (List.mem_of_getElem? ei)
      have nz := names_nice z (perm.mem_iff.mp hz)
      refine ⟨by show 1 ≤ sizeLine; decide, fun r1 nr1 => ?_⟩
      have d5 := fresh m3 b5 S5 nr1
      have S6 : Src (upd H5 r1 (.tup [.str z])) p c3 := S5.same (same_new nr1)
      have b6 : SameBut p H3 (upd H5 r1 (.tup [.str z])) := but_new b5 nr1
      have e6 : upd H5 r1 (.tup [.str z]) r1 = some (.tup [.str z]) := upd_same
      generalize upd H5 r1 (.tup [.str z]) = H6 at S6 b6 e6 ⊢
      refine ⟨_, rfl, _, rfl, t, xs, rfl, SqT.of (b6 _ _ nt et3), fun w => ?_, fun _ r2 nr2 => ?_⟩
      · have z1 := w.1
        rw [show (1 : Int) = ((1 : Nat) : Int) from rfl, HT.sIx_nat] at z1
        omega
      rw [show (1 : Int) = ((1 : Nat) : Int) from rfl, cut_tail (by omega)]
      have d6 := fresh m3 b6 S6 nr2
      refine cat_any (M := M) ((same_new nr2) _ _ e6) upd_same (by rw [sizeLine_eq, List.length_drop]; show 1 + _ ≤ _; omega) d5 d6 (alive m3 (but_new b6 nr2) (S6.same (same_new nr2))) fun r3 H7 e7 s7 d7 => ?_
      have b7 : SameBut p H3 H7 := (but_new b6 nr2).trans (Same.but s7)
      refine fin e7 d7 (by rw [List.length_append, List.length_drop]; show 1 + _ ≤ _; omega) (fun u m => ?_) (b3.trans b7) ((S6.same (same_new nr2)).same s7) (by omega) (by omega)
      rcases List.mem_append.mp m with m | m
      · rw [List.mem_singleton.mp m]
        exact gd_str nz
      · exact ((hx3 u (List.mem_of_mem_drop m)).mono b7 hp).up
    -- else
    refine ⟨_, rfl, oddly (l :: M) (List.mem_cons_of_mem _ hp) (cons_mem (by rw [e3]; exact fun z => nomatch z) m3) fun v c3 H4 g4 b4 S4 c30 c31 => ?_⟩
    have e4 := b4 _ _ dl e3
    refine ⟨_, rfl, _, rfl, l, xs, _, j, rfl, rfl, e4, ixN_at hj, ?_⟩
    have g5 : Gd 2 M (upd H4 l (.lst (xs.set j v))) v := (g4.gd.set List.mem_cons_self).less fun a m => List.mem_cons_of_mem _ m
    have b5 : SameBut p H (upd H4 l (.lst (xs.set j v))) := fun b o nb e => by
      have z1 := b1 b o nb e
      have nbl : b ≠ l := fun z => by
        rw [z, nl] at z1
        cases z1
      rw [upd_ne nbl]
      exact b4 b o nb (b3 b o nb e)
    have S5 : Src (upd H4 l (.lst (xs.set j v))) p c3 := by
      obtain ⟨a, b, e, r⟩ := S4
      exact ⟨a, b, (upd_ne (Ne.symm dl)).trans e, r⟩
    have e5 : upd H4 l (.lst (xs.set j v)) l = some (.lst (xs.set j v)) := upd_same
    generalize upd H4 l (.lst (xs.set j v)) = H5 at g5 b5 S5 e5 ⊢
    refine ⟨_, rfl, .inl ⟨l, _, rfl, SqL.of e5, fun r nr => ?_⟩⟩
    have d6 := fresh hM b5 S5 nr
    refine fin upd_same d6 (by rw [List.length_set]; omega) (fun u m => ?_) (but_new b5 nr) (S5.same (same_new nr)) (by omega) (by omega)
    rcases List.mem_or_eq_of_mem_set m with m | m
    · exact ((hx u m).mono (but_new b5 nr) hp).up
    · rw [m]
      exact (g5.new nr).ups (by omega)
end
end K01
set_option Elab.async false
set_option linter.all false
set_option maxRecDepth 100000
set_option maxHeartbeats 4000000
namespace L2
open PySem PySem.Spec PyProof.Rows
def kwG : List Value → List Value → List Value := fun us ws => match us with | [] => ws | _ :: _ => []
def kwV : List V → List V → List V := fun us ws => match us with | [] => ws | _ :: _ => []
theorem kw_one {K : PySem.W.Frag} {fd : FuncData} {kn : Str} (h : ∀ (s : Shared) (v : Value), BindsTo s fd ⟨[], [(kn, v)]⟩ [(kn, v)]) : KBinds K fd [kn] [kn] kwG kwV := by
  refine ⟨fun s us ws _ hl => ?_, fun {vs us zs ws} r rz => ?_⟩
  · match us, ws, hl with
    | [], [w], _ => exact h s w
    | [], [], hl => exact absurd hl (by simp [kwG])
    | [], _ :: _ :: _, hl => exact absurd hl (by simp [kwG])
    | _ :: _, _, hl => exact absurd hl (by simp [kwG])
  · cases r with
    | nil => exact rz
    | cons _ _ => exact .nil
section
variable {X : Cx} {k : Nat} {f : Addr} {fd : FuncData} {ps ks : List Str} {sp : Sp} {x : Str} {p pos : Pos} {kws : List Keyword} {tk : TA} {g : List Value → List Value → List Value} {gV : List V → List V → List V}
theorem pe_callK0 (F : FnOk X.prog X.w X.K X.mg X.base CX0 k f fd ps sp) (hr : Room k X.A) (hg : Gl X x) (hm : X.mg x = some (.ref f)) (hk : PySem.W.keepIn X.K (.ref f) = true) (hb : KBinds X.K fd ps ks g gV) (hkw : PK X kws tk)
    (hall : (backToKw pos (keywordEach kws X.env)).all (·.1.isSome) = true := by rfl) (hks : (backToKw pos (keywordEach kws X.env)).filterMap (·.1) = ks := by rfl) (hdb : (x == ("__debug__" : Str)) = false := by decide)
    (hpl : ((backTo pos (starEach [] X.env)).any (·.1) || (backToKw pos (keywordEach kws X.env)).any (·.1.isNone)) = false := by rfl) :
    PE X (.Call (.Name x p) [] kws pos) (tCallK sp gV E0 tNil tk) := by
  refine ⟨fun pins s σ H Q I h => wpAny_Call_Name_kw (ld_glob I hg hm ?_ hdb)⟩
  refine PySem.W.callWith_KW0 (h₀ := X.base) I.ok.mod.kin hk hall (thn (hkw.run pos pins s σ H _ I h) fun ws s2 ⟨zs, H2, I2, rz, q2⟩ => ⟨I2.kIn, ?_⟩) hpl
  rw [hks]
  exact run_fnk (us := []) (vs := []) F hr hb pass0 I2 .nil rz q2
end
end L2
namespace K01
open PySem PySem.Spec PyProof.Rows L2
/-- arguments that fit the sorts ks, one for each -/
inductive FitL : List Kd → List V → List PyData → Prop
  | nil : FitL [] [] []
  | cons {k : Kd} {v : V} {d : PyData} {ks : List Kd} {vs : List V} {ds : List PyData} : Fit k v d → FitL ks vs ds → FitL (k :: ks) (v :: vs) (d :: ds)
theorem FitL.snoc {k : Kd} {v : V} {d : PyData} (h : Fit k v d) : ∀ {ks : List Kd} {vs : List V} {ds : List PyData}, FitL ks vs ds → FitL (ks ++ [k]) (vs ++ [v]) (ds ++ [d])
  | _, _, _, .nil => .cons h .nil
  | _, _, _, .cons a b => .cons a (FitL.snoc h b)
theorem FitL.dx {H : Hp} : ∀ {ks : List Kd} {vs : List V} {ds : List PyData}, FitL ks vs ds → DxAll H vs ds
  | _, _, _, .nil => .nil
  | _, _, _, .cons a b => .cons (a.dx H) b.dx
theorem FitL.ok : ∀ {ks : List Kd} {vs : List V} {ds : List PyData}, FitL ks vs ds → fitAll ks ds = true
  | _, _, _, .nil => rfl
  | _, _, _, .cons a b => by
    show (fitsK _ _ && fitAll _ _) = true
    rw [a.ok, b.ok]
    rfl
theorem FitL.len : ∀ {ks : List Kd} {vs : List V} {ds : List PyData}, FitL ks vs ds → vs.length = ks.length
  | _, _, _, .nil => rfl
  | _, _, _, .cons a b => by rw [List.length_cons, List.length_cons, b.len]
theorem FitL.gd {k : Nat} {M : List Addr} {H : Hp} : ∀ {ks : List Kd} {vs : List V} {ds : List PyData}, FitL ks vs ds → ∀ v ∈ vs, Gd k M H v
  | _, _, _, .nil, v, m => absurd m List.not_mem_nil
  | _, _, _, .cons (d := d) a b, v, m => by
    rcases List.mem_cons.mp m with rfl | m
    · exact Gd.ups (k := 0) ⟨d, a.dx _, a.nice⟩ (Nat.zero_le _)
    · exact b.gd v m
theorem FitL.nice {k : Nat} : ∀ {ks : List Kd} {vs : List V} {ds : List PyData}, FitL ks vs ds → ∀ d ∈ ds, Brief d
  | _, _, _, .nil, d, m => absurd m List.not_mem_nil
  | _, _, _, .cons a b, e, m => by
    rcases List.mem_cons.mp m with rfl | m
    · exact a.nice.brief
    · exact FitL.nice (k := k) b e m
theorem Gd.inv {k : Nat} {M : List Addr} {H : Hp} {r : Addr} {ys : List V} (g : Gd (k + 1) M H (.ref r)) (e : H r = some (.tup ys)) : (∀ y ∈ ys, Gd k M H y) ∧ r ∉ M := by
  obtain ⟨d, h, n⟩ := g
  cases h with
  | lst e1 h1 =>
    rw [(mask_at e1).1] at e
    cases e
  | @tup _ xs ds e1 h1 =>
    have em := mask_at e1
    rw [em.1] at e
    cases e
    have n2 : ds.length ≤ 6 ∧ ∀ d ∈ ds, Nice k d := by simpa [Nice] using n
    refine ⟨fun y hy => ?_, em.2⟩
    obtain ⟨i, hi, rfl⟩ := List.getElem_of_mem hy
    obtain ⟨d, e2, h2⟩ := h1.get (List.getElem?_eq_getElem hi)
    exact ⟨d, h2, n2.2 d (List.mem_of_getElem? e2)⟩
theorem few3 {z : Str} {ks : List Kd} (h : table.lookup z = some ks) : ks.length ≤ 3 := by
  have all : ∀ p ∈ table, p.2.length ≤ 3 := by decide +kernel
  exact all _ (look_mem h)
theorem has_sorts {z : Str} (h : z ∈ table.map (·.1)) : ∃ ks, table.lookup z = some ks := by
  have all : ∀ z ∈ table.map (·.1), (table.lookup z).isSome = true := by decide +kernel
  exact Option.isSome_iff_exists.mp (all z h)
theorem Src.upd {H : Hp} {p l : Addr} {c : Int} {o : HO} (S : Src H p c) (h : l ≠ p) : Src (L2.upd H l o) p c := by
  obtain ⟨a, b, e, r⟩ := S
  exact ⟨a, b, (upd_ne (Ne.symm h)).trans e, r⟩
theorem but_mut {p l : Addr} {H H' : Hp} {o : HO} (s : SameBut p H H') (n : H l = none) : SameBut p H (upd H' l o) := fun b u nb e => by
  rw [upd_ne (ne_of_none e n)]
  exact s b u nb e
theorem asg_if {tA : TT} {ta tb : TE} {g : TG} {u : TS} {D : Ends} {σ : L2.St} {H : Hp} {R : V → Hp → Prop} (h : ∀ Q' : VK, (∀ v G, R v G → Q' v G) → tIf tA ta tb σ H Q') (k : ∀ v G, R v G → g v σ G fun σ2 H2 => u D σ2 H2) : tSeq (tAsg (tIf tA ta tb) g) u D σ H := h _ k
theorem nice_facts {K : PySem.W.Frag} {H : Hp} {v : V} {k : Nat} {d : PyData} (h : Dx H v d) (n : Nice k d) (hk : k ≤ 5) : Dp K H v d ∧ SeqAt.shaped d = true ∧ d.showable = true ∧ d.hasDict = false ∧ d.shown.length ≤ sizeLine ∧ (∀ i, d = .int i → i.natAbs.log2 < 1920) := by
  have s := n.show
  have l := n.len
  have bk : B k ≤ sizeLine := by
    rw [sizeLine_eq]
    match k, hk with
    | 0, _ => decide
    | 1, _ => decide
    | 2, _ => decide
    | 3, _ => decide
    | 4, _ => decide
    | 5, _ => decide
  refine ⟨h.dp, ?_, s.1.1, PyData.hasDict_of_canLay d s.1.2, Nat.le_trans l bk, fun i e => ?_⟩
  · show (d.canLay0 && decide (d.depth ≤ 64)) = true
    rw [s.1.2, decide_eq_true (by have := s.2; omega)]
    rfl
  · subst e
    have h2 : i.natAbs.log2 < 200 := by simpa [Nice] using n
    omega
abbrev sRight : Stmt := topS 22
abbrev nRight : List Str := ["_law_source", "_law_name", "_law_deed", "_law_matters", "_law_once", "_law_twice", "_law_matter", "_law_before", "_law_due", "_law_sort", "_law_turn"]
theorem scRight : FnScope nRight ["_law_source"] (defScope sRight) := ⟨rfl, rfl, rfl, by decide +kernel, rfl, by decide +kernel, by decide +kernel⟩
def spRight : Sp := fun vs H Q _ => ∃ (p : Addr) (c : Int), vs = [.ref p] ∧ Src H p c ∧ c ≤ 1000 ∧ ∀ H', SameBut p H H' → Q (.bl true) H'
section
variable {P : Program} {w : World} {K : PySem.W.Frag} {mg : Str → Option Value} {base : Heap} {f fP fB fF fU fC fS : Addr} {fd dP dB dF dU dC dS : FuncData}
theorem ok_right (F : Fun K "_law_right" "_law_right" sRight f fd)
    (GP : FnOk P w K mg base CX0 4 fP dP ["_law_source", "_law_sort"] spPart) (bP : Binds K dP ["_law_source", "_law_sort"] []) (kP : PySem.W.keepIn K (.ref fP) = true) (mP : mg "_law_part" = some (.ref fP))
    (GB : FnOk P w K mg base CX0 5 fB dB ["_law_source", "_law_deed"] spBent) (bB : Binds K dB ["_law_source", "_law_deed"] []) (kB : PySem.W.keepIn K (.ref fB) = true) (mB : mg "_law_bent" = some (.ref fB))
    (GF : FnOk P w K mg base CX0 1 fF dF [] spForms) (bF : Binds K dF [] []) (kF : PySem.W.keepIn K (.ref fF) = true) (mF : mg "_law_forms" = some (.ref fF))
    (GU : FnOk P w K mg base CX0 2 fU dU ["_law_matter"] spIsCall) (bU : Binds K dU ["_law_matter"] []) (kU : PySem.W.keepIn K (.ref fU) = true) (mU : mg "_law_is_due" = some (.ref fU))
    (GC : FnOk P w K mg base CX0 4 fC dC ["thing"] spIsCall) (bC : Binds K dC ["thing"] []) (kC : PySem.W.keepIn K (.ref fC) = true) (mC : mg "is_call" = some (.ref fC)) (bK : ∀ (s : Shared) (v : Value), BindsTo s dC ⟨[], [("thing", v)]⟩ [("thing", v)])
    (GS : FnOk P w K mg base CX0 2 fS dS ["_law_found", "_law_due"] (spSame 2)) (bS : Binds K dS ["_law_found", "_law_due"] []) (kS : PySem.W.keepIn K (.ref fS) = true) (mS : mg "_law_same" = some (.ref fS))
    (mo : mg "sorted" = none) (mT : mg "tuple" = none) (mr : mg "range" = none) (mI : mg "isinstance" = none) (ml : mg "len" = none) (mR : mg "repr" = none) :
    FnG P w K mg base 6 f fd ["_law_source"] spRight := by
  refine F.okN scRight (fun vs H Q E h => ?_) (fun cdv A outer s H vs Q E hN hr h => ?_)
  · obtain ⟨p, c, rfl, _⟩ := h
    rfl
  · obtain ⟨p, c, rfl, S, hc, q⟩ := h
    have hu := hu_of hr
    refine ⟨_, pss_cons (ps_for PassesOwn.never rfl (pi_list (pe_callB (call_sortedD rfl) (by rfl) mo (by decide +kernel) (pa_cons (pe_call0 GF (hr.mono (by decide)) rfl mF kF bF .nil pass0) pa_nil))) (pg_name (i := 1) scRight.nd rfl (.inl rfl))
        (pss_cons (ps_set (i := 2) scRight.nd rfl (by first | exact .inl rfl | exact .inr rfl) (pe_op op_catA (pe_tup (pa_cons (pv 1) pa_nil)) (pe_tupleOf (by rfl) mT (pe_lc (own := [("_law_sort", 9)]) (g := gName 9) (tt := tYes) rfl scRight.nd (pi_str (pe_dget hu (pe_call0 GF (hr.mono (by decide)) rfl mF kF bF .nil pass0) (pv 1) (fun _ _ => rfl))) (blkOk_by (N := nRight) (sc := defScope sRight) (by decide +kernel))
          (fun _ _ _ _ _ => pg_name (i := 9) scRight.nd rfl (Or.inl rfl)) (fun _ _ _ _ _ => pts_nil) (fun _ _ _ _ _ => pe_call GP (hr.mono (by decide)) rfl mP kP bP .nil pass0 (pa_cons (pv 0) (pa_cons (pv 9) pa_nil)))))))
        (pss_cons (ps_par (i := 3) (j := 4) rfl scRight.nd rfl rfl (by decide) rfl rfl (pa_cons (pe_op op_cat (pe_lst (pa_cons (pv 2) pa_nil)) (pe_lc (own := [("_law_turn", 10)]) (g := gName 10) (tt := tYes) rfl scRight.nd (pi_range1 (by rfl) mr (pa_cons pe_int pa_nil)) (blkOk_by (N := nRight) (sc := defScope sRight) (by decide +kernel))
          (fun _ _ _ _ _ => pg_name (i := 10) scRight.nd rfl (Or.inl rfl)) (fun _ _ _ _ _ => pts_nil) (fun _ _ _ _ _ => pe_call GB hr rfl mB kB bB .nil pass0 (pa_cons (pv 0) (pa_cons (pv 2) pa_nil))))) (pa_cons (pe_call GB hr rfl mB kB bB .nil pass0 (pa_cons (pv 0) (pa_cons (pv 2) pa_nil))) pa_nil)) rfl)
        (pss_cons (ps_set (i := 5) scRight.nd rfl (by first | exact .inl rfl | exact .inr rfl) (pe_ifExp (PW.pt (pw_and (pt_val (pe_callB call_isi (by rfl) mI (by decide +kernel) (pa_cons (pv 4) (pa_cons (pe_bltn (v := .ty "tuple") (by rfl) mT (by decide +kernel) rfl) pa_nil)))) (pw_and1 (pt_cmpR op_gt (pe_callB call_len_seq (by rfl) ml PySem.boot_len (pa_cons (pv 4) pa_nil)) pe_int (nomark _)))))
            (pe_call GB hr rfl mB kB bB .nil pass0 (pa_cons (pv 0) (pa_cons (pv 4) pa_nil))) pe_non))
        (pss_cons (ps_for PassesOwn.never rfl (pi_list (pe_op op_cat (pv 3) (pe_lst (pa_cons (pv 5) pa_nil)))) (pg_name (i := 6) scRight.nd rfl (.inl rfl))
            (pss_cons (ps_par (i := 7) (j := 8) rfl scRight.nd rfl rfl (by decide) rfl rfl (pa_cons (pe_callB (call_reprN hN hr) (by rfl) mR (by decide +kernel) (pa_cons (pv 6) pa_nil)) (pa_cons (pe_call GU (hr.mono (by decide)) rfl mU kU bU .nil pass0 (pa_cons (pv 6) pa_nil)) pa_nil)) rfl)
            (pss_one (ps_if (PW.pt (pw_or (pt_not (pt_val (pe_call GS (hr.mono (by decide)) rfl mS kS bS .nil pass0 (pa_cons (pe_lst (pa_cons (pe_call GC (hr.mono (by decide)) rfl mC kC bC .nil pass0 (pa_cons (pv 6) pa_nil)) (pa_cons (pe_callK0 GC (hr.mono (by decide)) rfl mC kC (kw_one bK) (pk_cons (pv 6) pk_nil)) pa_nil))) (pa_cons (pe_lst (pa_cons (pv 8) (pa_cons (pv 8) pa_nil))) pa_nil)))))
              (pw_or1 (pt_cmpR op_ne (pe_callB (call_reprN hN hr) (by rfl) mR (by decide +kernel) (pa_cons (pv 6) pa_nil)) (pv 7) (nomark _))))) (pss_one (ps_ret pe_bl)) pss_nil))))
        (pss_one (ps_if (pt_cmpR op_notBl (pe_call GC (hr.mono (by decide)) rfl mC kC bC .nil pass0 (pa_cons (pv 2) pa_nil)) pe_bl (nomark _)) (pss_one (ps_ret pe_bl)) pss_nil)))))))
      (pss_one (ps_ret pe_bl)), ?_⟩
    refine ⟨rfl, fun g H0 ng s0 eg => ?_⟩
    have S0 := S.same s0
    refine ⟨g, formsKV, table.map (·.1), rfl, .inl eg, names_kv, by decide, fun ns L perm _ nL => ?_⟩
    have dL := S0.ne nL
    have lens : (ns.map V.str).length = 28 := by
      rw [List.length_map, perm.length_eq]
      decide
    have S1 : Src (upd H0 L (.lst (ns.map V.str))) p c := S0.same (same_new nL)
    have b1 : SameBut p H (upd H0 L (.lst (ns.map V.str))) := but_new (Same.but s0) nL
    have eL : upd H0 L (.lst (ns.map V.str)) L = some (.lst (ns.map V.str)) := upd_same
    generalize upd H0 L (.lst (ns.map V.str)) = H1 at S1 b1 eL ⊢
    refine ⟨L, rfl, ⟨_, SqL.of eL⟩, ?_⟩
    refine for_it (walk_list (K := K) (a := L) (xs := ns.map V.str)) (fun i σ G => ∃ (y1 y2 y3 y4 y5 y6 y7 y8 : Option V) (c1 : Int), σ = [some (.ref p), y1, y2, y3, y4, y5, y6, y7, y8, none, none] ∧ Src G p c1 ∧ c1 ≤ 1000 + 100 * (i : Int) ∧ SameBut p H1 G)
      ⟨none, none, none, none, none, none, none, none, c, rfl, S1, by omega, SameBut.refl⟩ (fun i σ G _ ⟨_, _, _, _, _, _, _, _, _, _, _, _, b⟩ => SqL.of (b _ _ dL eL)) ?_ ?_
    · rintro i x σ G0 G' hi ⟨y1, y2, y3, y4, y5, y6, y7, y8, c1, rfl, T0, hc1, r0⟩ ⟨rfl, ex⟩
      obtain ⟨z, hz, rfl⟩ := List.mem_map.mp (List.mem_of_getElem? ex)
      obtain ⟨ks, hks⟩ := has_sorts (perm.mem_iff.mp hz)
      have nz := names_nice z (perm.mem_iff.mp hz)
      have k3 := few3 hks
      have i28 : i < 28 := by rw [← lens]; exact hi
      -- (name,)
      refine ⟨_, rfl, by show 1 ≤ sizeLine; decide, fun a0 na0 => ?_⟩
      have d0 := T0.ne na0
      have T1 : Src (upd G' a0 (.tup [.str z])) p c1 := T0.same (same_new na0)
      have r1 : SameBut p H1 (upd G' a0 (.tup [.str z])) := but_new r0 na0
      have e1 : upd G' a0 (.tup [.str z]) a0 = some (.tup [.str z]) := upd_same
      generalize upd G' a0 (.tup [.str z]) = G1 at T1 r1 e1 ⊢
      refine ⟨rfl, fun kn G2 nk s2 ek => ?_⟩
      have got : DGet G2 kn (.str z) (some (.str (signsOf ks))) := by
        have g := DGet.k (k := Sum.inr z) ek
        rw [forms_at, hks] at g
        exact g
      have T2 := T1.same s2
      refine ⟨_, rfl, kn, _, rfl, got, signsOf ks, rfl, fun D nD => ?_⟩
      have dD := T2.ne nD
      refine lc_it (walk_str (z := signsOf ks)) (fun j G => ∃ (c2 : Int) (vs : List V) (ds : List PyData), Src G p c2 ∧ c2 ≤ c1 + 2 * (j : Int) ∧ SameBut p G2 G ∧ G D = some (.lst vs) ∧ FitL (ks.take j) vs ds)
        ⟨c1, [], [], T2.same (same_new nD), by omega, Same.but (same_new nD), upd_same, .nil⟩ (fun _ _ _ _ => True.intro) ?_ ?_
      · rintro j x G3 G4 hj ⟨c2, vs, ds, T3, hc2, b3, e3, ft⟩ ⟨rfl, ch, hch, rfl⟩
        obtain ⟨k, ek2, rfl⟩ := signs_get hch
        rw [signs_size] at hj
        refine ⟨rfl, _, rfl, _, rfl, p, c2, k, rfl, T3, by omega, fun v d c3 G5 hf b5 T5 c30 c31 => ?_⟩
        have lv := ft.len
        refine ⟨vs, b5 _ _ dD e3, ?_, c3, vs ++ [v], ds ++ [d], T5.upd dD, by omega, but_mut (b3.trans b5) nD, upd_same, ?_⟩
        · rw [lv, List.length_take]
          exact Nat.lt_of_le_of_lt (show min j ks.length ≤ 10 by omega) (by decide)
        · rw [List.take_add_one, ek2]
          exact ft.snoc hf
      rintro G3 ⟨c2, vs, ds, T3, hc2, b3, e3, ft⟩
      rw [signs_size] at hc2 ft
      rw [List.take_length] at ft
      have lv := ft.len
      refine .inl ⟨D, vs, rfl, SqL.of e3, fun a1 na1 => ?_⟩
      have d1 := T3.ne na1
      refine cat_any (M := [p]) (same_new na1 _ _ (b3 _ _ d0 (s2 _ _ e1))) upd_same (by rw [sizeLine_eq]; show 1 + _ ≤ _; omega) (out1 d0) (out1 d1) (one_mem (T3.same (same_new na1)).some) fun t G5 et s5 dt => ?_
      have nt : t ≠ p := fun z => dt (by rw [z]; exact in1)
      have T5 : Src G5 p c2 := (T3.same (same_new na1)).same s5
      have r5 : SameBut p H1 G5 := (r1.trans ((Same.but s2).trans b3)).trans ((Same.but (same_new na1)).trans (Same.but s5))
      have lx : (V.str z :: vs).length ≤ 4 := by
        rw [List.length_cons]
        omega
      have et : G5 t = some (.tup (V.str z :: vs)) := et
      have ok : okCall (.tuple (.str z :: ds)) = true := by
        show (match table.lookup z with | some ks => fitAll ks ds | none => false) = true
        rw [hks]
        exact ft.ok
      have gx : ∀ {k : Nat} {M : List Addr} {G : Hp}, ∀ x ∈ V.str z :: vs, Gd k M G x := fun {k M G} => cons_mem (gd_str nz) ft.gd
      have hc5 : c2 ≤ 1000 + 100 * (i : Int) + 6 := by omega
      clear hc2 T3 e3 b3 lv na1
      -- matters
      refine ⟨_, rfl, by show 1 ≤ sizeLine; decide, fun a2 na2 => ?_⟩
      have d2 := T5.ne na2
      have T6 : Src (upd G5 a2 (.lst [.ref t])) p c2 := T5.same (same_new na2)
      have r6 : SameBut p H1 (upd G5 a2 (.lst [.ref t])) := but_new r5 na2
      have e6 : upd G5 a2 (.lst [.ref t]) a2 = some (.lst [.ref t]) := upd_same
      have et6 : upd G5 a2 (.lst [.ref t]) t = some (.tup (V.str z :: vs)) := same_new na2 _ _ et
      generalize upd G5 a2 (.lst [.ref t]) = G6 at T6 r6 e6 et6 ⊢
      refine ⟨12, rfl, by decide, by decide, fun D2 nD2 => ?_⟩
      have dD2 := T6.ne nD2
      have ntD : t ∉ [p, D2] := fun m => by
        rcases List.mem_cons.mp m with m | m
        · exact nt m
        · rw [← List.mem_singleton.mp m, et6] at nD2
          cases nD2
      refine lc_it (walk_range (lo := 0) (n := 12)) (fun j G => ∃ (c3 : Int) (us : List V), Src G p c3 ∧ c3 ≤ c2 + 5 * (j : Int) ∧ SameBut p G6 G ∧ G D2 = some (.lst us) ∧ us.length = j ∧ ∀ u ∈ us, Gd 4 [p, D2] G u)
        ⟨c2, [], T6.same (same_new nD2), by omega, Same.but (same_new nD2), upd_same, rfl, no_mem⟩ (fun _ _ _ _ => True.intro) ?_ ?_
      · rintro j x G7 G8 hj ⟨c3, us, T7, hc3, b7, e7, l7, g7⟩ ⟨rfl, rfl⟩
        refine ⟨rfl, _, rfl, _, rfl, p, t, c3, _, 2, [p, D2], rfl, T7, by omega, List.mem_cons_self, two_mem T7.some (by rw [e7]; exact fun z => nomatch z), ntD, b7 _ _ nt et6, Nat.succ_pos _, by omega, Nat.le_refl _, gx, fun v c4 G9 gv lv b9 T9 c40 c41 => ?_⟩
        refine ⟨us, b9 _ _ dD2 e7, ?_, c4, us ++ [v], T9.upd dD2, by omega, but_mut (b7.trans b9) nD2, upd_same, by rw [List.length_append, l7]; rfl, fun u m => ?_⟩
        · rw [l7]
          exact Nat.lt_of_le_of_lt (show j ≤ 20 by omega) (by decide)
        · have mD : D2 ∈ [p, D2] := List.mem_cons_of_mem _ in1
          rcases List.mem_append.mp m with m | m
          · exact ((g7 u m).mono b9 List.mem_cons_self).set mD
          · rw [List.mem_singleton.mp m]
            exact gv.set mD
      rintro G7 ⟨c3, us, T7, hc3, b7, e7, l7, g7⟩
      refine ⟨a2, D2, _, _, rfl, rfl, b7 _ _ d2 e6, e7, by rw [sizeLine_eq, l7]; show 1 + 12 ≤ 16777216; decide, fun mt nmt => ?_⟩
      have dmt := T7.ne nmt
      have T8 : Src (upd G7 mt (.lst ([.ref t] ++ us))) p c3 := T7.same (same_new nmt)
      have r8 : SameBut p H1 (upd G7 mt (.lst ([.ref t] ++ us))) := (r6.trans b7).trans (Same.but (same_new nmt))
      have e8 : upd G7 mt (.lst ([.ref t] ++ us)) mt = some (.lst ([.ref t] ++ us)) := upd_same
      have et8 : upd G7 mt (.lst ([.ref t] ++ us)) t = some (.tup (V.str z :: vs)) := same_new nmt _ _ (b7 _ _ nt et6)
      have g8 : ∀ u ∈ us, Gd 4 [p] (upd G7 mt (.lst ([.ref t] ++ us))) u := fun u m => ((g7 u m).new nmt).less fun a m => by rw [List.mem_singleton.mp m]; exact List.mem_cons_self
      generalize upd G7 mt (.lst ([.ref t] ++ us)) = G8 at T8 r8 e8 et8 g8 ⊢
      clear T7 e7 g7 b7 nmt
      refine ⟨_, rfl, _, rfl, p, t, c3, _, 2, [p], rfl, T8, by omega, in1, one_mem T8.some, out1 nt, et8, Nat.succ_pos _, by omega, Nat.le_refl _, gx, fun v1 c4 G9 gv1 lv1 b9 T9 c40 c41 => ?_⟩
      refine ⟨_, _, rfl, ?_⟩
      have e9 := b9 _ _ dmt e8
      have et9 := b9 _ _ nt et8
      have r9 := r8.trans b9
      have g9 : ∀ u ∈ [.ref t] ++ us, Gd 5 [p] G9 u := fun u m => by
        rcases List.mem_append.mp m with m | m
        · rw [List.mem_singleton.mp m]
          exact Gd.ups (k := 3) (Gd.tup et9 (out1 nt) (by omega) gx) (by decide)
        · exact ((g8 u m).mono b9 in1).up
      have hc9 : c4 ≤ 1000 + 100 * (i : Int) + 71 := by omega
      clear hc3 g8 b9 r8 e8 et8 T8 c40 c41
      -- twice
      dsimp only
      refine asg_if (R := fun tw G10 => Gd 5 [p] G10 tw ∧ (∃ c5 : Int, Src G10 p c5 ∧ c5 ≤ c4 + 5) ∧ SameBut p G9 G10) (fun Q' hq => ?_) ?_
      · obtain ⟨dv, hdv, nv⟩ := id gv1
        have hd := hdv.mono mask_le
        clear hdv
        have off := hq .non G9 ⟨gd_non, ⟨c4, T9, by omega⟩, SameBut.refl⟩
        cases hd with
        | non => exact ⟨_, rfl, _, _, _, _, false, rfl, .ty _, .base .non, kit_ty (by decide +kernel), _, rfl, iteF (iteF off)⟩
        | bl b => exact ⟨_, rfl, _, _, _, _, false, rfl, .ty _, .base (.bl b), kit_ty (by decide +kernel), _, rfl, iteF (iteF off)⟩
        | int n => exact ⟨_, rfl, _, _, _, _, false, rfl, .ty _, .base (.int n), kit_ty (by decide +kernel), _, rfl, iteF (iteF off)⟩
        | str x => exact ⟨_, rfl, _, _, _, _, false, rfl, .ty _, .base (.str x), kit_ty (by decide +kernel), _, rfl, iteF (iteF off)⟩
        | lst e h2 => exact ⟨_, rfl, _, _, _, _, false, rfl, .ty _, .base (.lst e), kit_ty (by decide +kernel), _, rfl, iteF (iteF off)⟩
        | @tup r ys es e h2 =>
          refine ⟨_, rfl, _, _, _, _, true, rfl, .ty _, .base (.tup e), kit_ty (by decide +kernel), _, rfl, iteT ⟨_, rfl, r, ys, rfl, .inr (SqT.of e), _, _, rfl, rfl, _, rfl, ite2 (fun h => ?_) (fun h => off)⟩⟩
          have h1 := of_decide_eq_true h
          have h3 := lv1 r ys rfl e
          have inv := gv1.inv e
          exact ⟨_, rfl, _, rfl, p, r, c4, ys, 3, [p], rfl, T9, by omega, in1, one_mem T9.some, inv.2, e, by omega, by omega, by decide, inv.1, fun v c5 G10 g l b T _ c1 => hq v G10 ⟨g, ⟨c5, T, c1⟩, b⟩⟩
      rintro tw G10 ⟨gtw, ⟨c5, T10, hc10⟩, b10⟩
      have e10 := b10 _ _ dmt e9
      have et10 := b10 _ _ nt et9
      have r10 := r9.trans b10
      have g10 : ∀ u ∈ [.ref t] ++ us, Gd 5 [p] G10 u := fun u m => (g9 u m).mono b10 in1
      clear g9 e9 et9 r9 b10 T9 gv1 lv1
      refine ⟨_, rfl, _, rfl, by show 1 ≤ sizeLine; decide, fun l3 nl3 => ?_⟩
      have T11 : Src (upd G10 l3 (.lst [tw])) p c5 := T10.same (same_new nl3)
      have s11 : Same G10 (upd G10 l3 (.lst [tw])) := same_new nl3
      have e11 : upd G10 l3 (.lst [tw]) l3 = some (.lst [tw]) := upd_same
      generalize upd G10 l3 (.lst [tw]) = G11 at T11 s11 e11 ⊢
      refine ⟨mt, l3, _, _, rfl, rfl, s11 _ _ e10, e11, by rw [sizeLine_eq, List.length_append, l7]; show 1 + 12 + 1 ≤ 16777216; decide, fun l4 nl4 => ?_⟩
      have T12 : Src (upd G11 l4 (.lst ([.ref t] ++ us ++ [tw]))) p c5 := T11.same (same_new nl4)
      have s12 : Same G10 (upd G11 l4 (.lst ([.ref t] ++ us ++ [tw]))) := s11.trans (same_new nl4)
      have e12 : upd G11 l4 (.lst ([.ref t] ++ us ++ [tw])) l4 = some (.lst ([.ref t] ++ us ++ [tw])) := upd_same
      generalize upd G11 l4 (.lst ([.ref t] ++ us ++ [tw])) = G12 at T12 s12 e12 ⊢
      have g12 : ∀ u ∈ [.ref t] ++ us ++ [tw], Gd 5 [p] G12 u := fun u m => by
        rcases List.mem_append.mp m with m | m
        · exact (g10 u m).same s12
        · rw [List.mem_singleton.mp m]
          exact gtw.same s12
      have et12 := s12 _ _ et10
      have r12 := r10.trans (Same.but s12)
      clear g10 gtw e10 et10 r10 s12 e11 T11 T10 nl4 s11
      refine ⟨l4, rfl, ⟨_, SqL.of e12⟩, ?_⟩
      refine for_it (walk_list (K := K) (a := l4) (xs := [.ref t] ++ us ++ [tw])) (fun j σ G => ∃ (y6 y7 y8 : Option V), σ = [some (.ref p), some (.str z), some (.ref t), some (.ref mt), some v1, some tw, y6, y7, y8, none, none] ∧ Same G12 G)
        ⟨_, _, _, rfl, Same.refl _⟩ (fun j σ G _ ⟨_, _, _, _, s⟩ => SqL.of (s _ _ e12)) ?_ ?_
      · rintro j x σ G13 G14 hj ⟨y6, y7, y8, rfl, s13⟩ ⟨rfl, exj⟩
        obtain ⟨d, hd0, nd⟩ := (g12 x (List.mem_of_getElem? exj)).same s13
        have hd := hd0.mono mask_le
        have f1 := nice_facts (K := K) hd nd (Nat.le_refl _)
        refine ⟨_, rfl, x, d, rfl, f1.1, f1.2.1, f1.2.2.1, f1.2.2.2.1, f1.2.2.2.2.1, f1.2.2.2.2.2, ?_⟩
        refine ⟨_, rfl, x, d, rfl, hd, nd.briefT, fun G15 s15 => ⟨_, _, rfl, ?_⟩⟩
        have hd15 := hd.mono s15
        refine ⟨_, rfl, x, d, rfl, hd15, nd.briefT, fun G16 s16 => ?_⟩
        refine ⟨_, rfl, x, d, rfl, hd15.mono s16, nd.briefT, fun G17 s17 => ⟨by show 2 ≤ sizeLine; decide, fun l5 n5 => ?_⟩⟩
        have s18 : Same G14 (upd G17 l5 (.lst [.bl (okCall d), .bl (okCall d)])) := ((s15.trans s16).trans s17).trans (same_new n5)
        have e18 : upd G17 l5 (.lst [.bl (okCall d), .bl (okCall d)]) l5 = some (.lst [.bl (okCall d), .bl (okCall d)]) := upd_same
        generalize upd G17 l5 (.lst [.bl (okCall d), .bl (okCall d)]) = G18 at s18 e18 ⊢
        refine ⟨_, rfl, _, rfl, by show 2 ≤ sizeLine; decide, fun l6 n6 => ?_⟩
        have s19 : Same G18 (upd G18 l6 (.lst [.bl (okCall d), .bl (okCall d)])) := same_new n6
        have e19 : upd G18 l6 (.lst [.bl (okCall d), .bl (okCall d)]) l6 = some (.lst [.bl (okCall d), .bl (okCall d)]) := upd_same
        generalize upd G18 l6 (.lst [.bl (okCall d), .bl (okCall d)]) = G19 at s19 e19 ⊢
        refine ⟨.ref l5, .ref l6, .list [.bool (okCall d), .bool (okCall d)], rfl, .lst (s19 _ _ e18) (.cons (.bl _) (.cons (.bl _) .nil)), .lst e19 (.cons (.bl _) (.cons (.bl _) .nil)), ⟨by show 2 ≤ 1000; decide, two_mem True.intro True.intro⟩, fun G20 s20 => ?_⟩
        have s21 : Same G14 G20 := (s18.trans s19).trans s20
        have f2 := nice_facts (K := K) (hd.mono s21) nd (Nat.le_refl _)
        refine ⟨_, rfl, iteF ⟨_, rfl, x, d, rfl, f2.1, f2.2.1, f2.2.2.1, f2.2.2.2.1, f2.2.2.2.2.1, f2.2.2.2.2.2, _, rfl, rfl, _, rfl, ?_⟩⟩
        rw [decide_eq_true rfl]
        exact iteF ⟨_, _, _, rfl, s13.trans s21⟩
      · rintro σ G13 ⟨y6, y7, y8, rfl, s13⟩
        refine ⟨_, rfl, .ref t, .tuple (.str z :: ds), rfl, .tup (s13 _ _ et12) (.cons (.str z) ft.dx), ?_, fun G14 s14 => ?_⟩
        · have ld : ds.length = vs.length := (ft.dx (H := G13)).length.symm
          refine ⟨by rw [List.length_cons] at lx ⊢; omega, cons_mem (nice_txt (k := 0) nz).brief (FitL.nice (k := 0) ft)⟩
        · refine ⟨_, _, rfl, rfl, _, rfl, ?_⟩
          rw [ok]
          refine iteF ⟨_, _, _, _, _, _, _, _, c5, rfl, T12.same (s13.trans s14), ?_, r12.trans (Same.but (s13.trans s14))⟩
          omega
    · rintro σ G ⟨y1, y2, y3, y4, y5, y6, y7, y8, c1, rfl, T0, hc1, r0⟩
      exact q _ (b1.trans r0)
end
end K01
set_option Elab.async false
set_option linter.all false
set_option maxRecDepth 100000
set_option maxHeartbeats 4000000
namespace K01
open PySem PySem.Spec PyProof.Rows L2
abbrev sLaw : Stmt := topS 23
abbrev nLaw : List Str := ["_law_script", "_law_cells", "_law_k"]
theorem scLaw : FnScope nLaw ["_law_script"] (defScope sLaw) := ⟨rfl, rfl, rfl, by decide +kernel, rfl, by decide +kernel, by decide +kernel⟩
def spLaw (K : PySem.W.Frag) : Sp := fun vs H Q _ => ∃ (a : Addr) (ns : List Int), vs = [.ref a] ∧ SqL K H a (ns.map V.int) ∧ ns.length ≤ 63 ∧ ∀ H', Q (.bl true) H'
section
variable {P : Program} {w : World} {K : PySem.W.Frag} {mg : Str → Option Value} {base : Heap} {f fF fS fR : Addr} {fd dF dS dR : FuncData}
theorem ok_law (F : Fun K "law" "law" sLaw f fd) (GF : FnOk P w K mg base CX0 1 fF dF ["_law_script", "_law_most"] (spFolded K)) (bF : Binds K dF ["_law_script", "_law_most"] []) (kF : PySem.W.keepIn K (.ref fF) = true) (mF : mg "_law_folded" = some (.ref fF))
    (GS : FnOk P w K mg base CX0 1 fS dS ["_law_script", "_law_k"] (spStream K)) (bS : Binds K dS ["_law_script", "_law_k"] []) (kS : PySem.W.keepIn K (.ref fS) = true) (mS : mg "_law_stream" = some (.ref fS))
    (GR : FnG P w K mg base 6 fR dR ["_law_source"] spRight) (bR : Binds K dR ["_law_source"] []) (kR : PySem.W.keepIn K (.ref fR) = true) (mR : mg "_law_right" = some (.ref fR))
    (mr : mg "range" = none) (ml : mg "len" = none) (ma : mg "all" = none) : FnG P w K mg base 7 f fd ["_law_script"] (spLaw K) := by
  refine F.okN scLaw (fun vs H Q E h => ?_) (fun cdv A outer s H vs Q E hN hr h => ?_)
  · obtain ⟨a, ns, rfl, _⟩ := h
    rfl
  · obtain ⟨a, ns, rfl, hS, hn, q⟩ := h
    have h1 : Room 1 _ := hr.mono (by decide)
    refine ⟨_, pss_cons (ps_set (i := 1) scLaw.nd rfl (by first | exact .inl rfl | exact .inr rfl) (pe_call GF h1 rfl mF kF bF .nil pass0 (pa_cons (pv 0) (pa_cons pe_int pa_nil))))
      (pss_one (ps_ret (pe_callB (cr_all rfl) (by rfl) ma (by decide +kernel) (pa_cons (pe_lc (own := [("_law_k", 2)]) (g := gName 2) (tt := tYes) rfl scLaw.nd (pi_range1 (by rfl) mr (pa_cons (pe_callB call_len_seq (by rfl) ml PySem.boot_len (pa_cons (pv 1) pa_nil)) pa_nil)) (blkOk_by (N := nLaw) (sc := defScope sLaw) (by decide +kernel))
        (fun _ _ _ _ _ => pg_name (i := 2) scLaw.nd rfl (Or.inl rfl)) (fun _ _ _ _ _ => pts_nil) (fun _ _ _ _ _ => pe_callN GR hN hr rfl mR kR bR (pa_cons (pe_call GS h1 rfl mS kS bS .nil pass0 (pa_cons (pv 1) (pa_cons (pv 2) pa_nil))) pa_nil))) pa_nil)))), ?_⟩
    refine ⟨_, rfl, a, ns, 3, rfl, hS, hn, by decide, by decide, fun p ms H1 np s1 gp hm0 hm1 => ?_⟩
    refine ⟨_, rfl, p, _, rfl, .inl (SqL.of gp), ?_⟩
    rw [List.length_map]
    refine ⟨_, rfl, by omega, by omega, fun D nD => ?_⟩
    rw [Int.toNat_natCast]
    have npD : p ≠ D := fun z => by
      rw [← z, gp] at nD
      cases nD
    refine lc_it (walk_range (lo := 0) (n := ms.length)) (fun j G => G p = some (.lst (ms.map V.int)) ∧ G D = some (.lst ((List.replicate j true).map V.bl))) ⟨same_new nD _ _ gp, upd_same⟩ (fun _ _ _ _ => True.intro) ?_ ?_
    · rintro j x G G2 hj ⟨g3, gD⟩ ⟨rfl, rfl⟩
      refine ⟨rfl, _, rfl, _, rfl, p, ms, j, by simp, SqL.of g3, by omega, fun src u v nsrc hu hv hv2 => ?_⟩
      have sq := same_new (o := HO.lst [.int u, .int v, .int 0]) nsrc
      have S0 : Src (upd G2 src (.lst [.int u, .int v, .int 0])) src 0 := ⟨u, v, upd_same, hu, hv, hv2, Int.le_refl 0⟩
      generalize upd G2 src (.lst [.int u, .int v, .int 0]) = G5 at sq S0 ⊢
      have n1 : p ≠ src := fun z => by
        rw [← z, g3] at nsrc
        cases nsrc
      have n2 : D ≠ src := fun z => by
        rw [← z, gD] at nsrc
        cases nsrc
      refine ⟨src, 0, rfl, S0, by decide, fun G6 b6 => ?_⟩
      refine ⟨_, b6 _ _ n2 (sq _ _ gD), ?_, ?_, ?_⟩
      · rw [List.length_map, List.length_replicate]
        exact Nat.lt_of_le_of_lt (show j ≤ 10 by omega) (by decide)
      · rw [upd_ne npD]
        exact b6 _ _ n1 (sq _ _ g3)
      · rw [upd_same, List.replicate_succ', List.map_append]
        rfl
    · rintro G ⟨_, gD⟩
      refine ⟨D, _, rfl, SqL.of gD, ?_⟩
      rw [show ((List.replicate ms.length true).all id) = true from by simp]
      exact q _
end
end K01
set_option Elab.async false
set_option linter.all false
set_option maxRecDepth 100000
set_option maxHeartbeats 4000000
namespace K01
open PySem PySem.Spec PyProof.Rows L2
/-- a written tuple of texts -/
def tupIs (K : PySem.W.Frag) (a : Addr) (xs : List Str) : Bool := match K.lookup a with
  | some ⟨.type c, _, .seq its _, _⟩ => decide (c = "tuple") && decide (its.toList.map absV = xs.map fun x => some (V.str x)) && decide (its.size ≤ 1000)
  | _ => false
theorem abs_str {u : Value} {x : Str} (h : absV u = some (V.str x)) : RelV (.str x) u := by
  cases u <;> simp [absV] at h
  subst h
  exact ⟨_, rfl⟩
theorem vals_of : ∀ {us : List Value} {xs : List Str}, us.map absV = xs.map (fun x => some (V.str x)) → Vals (xs.map V.str) us
  | [], [], _ => .nil
  | [], _ :: _, h => by simp at h
  | _ :: _, [], h => by simp at h
  | u :: us, x :: xs, h => by
    rw [List.map_cons, List.map_cons] at h
    injection h with h1 h2
    exact .cons (abs_str h1) (vals_of h2)
theorem sq_of {K : PySem.W.Frag} {a : Addr} {xs : List Str} (h : tupIs K a xs = true) : ∀ H, SqT K H a (xs.map V.str) := by
  intro H
  unfold tupIs at h
  split at h
  · rename_i c od its n sl e
    rw [Bool.and_eq_true, Bool.and_eq_true] at h
    have h1 := of_decide_eq_true h.1.1
    have h3 := of_decide_eq_true h.2
    refine .inr ⟨_, its, n, e, by rw [h1], rfl, by rw [sizeLine_eq]; omega, vals_of (of_decide_eq_true h.1.2)⟩
  · cases h
/-- the keys of the table of arguments, with their hashes -/
def tags (es : List DictEntry) : List (Option V × Int) := es.map fun e => (absV e.key, e.hash)
def tagsOf (P : Params) (ks : List Str) : List (Option V × Int) := ks.map fun k => (some (V.str k), PyData.keyHash P k)
theorem tag_at {P : Params} {ks : List Str} {es : List DictEntry} (h : tags es = tagsOf P ks) {e : DictEntry} (m : e ∈ es) : ∃ k ∈ ks, ∃ t, e.key = .str k t ∧ e.hash = PyData.keyHash P k := by
  have m2 : (absV e.key, e.hash) ∈ tagsOf P ks := by
    rw [← h]
    exact List.mem_map_of_mem (f := fun e : DictEntry => (absV e.key, e.hash)) m
  obtain ⟨k, hk, ek⟩ := List.mem_map.mp m2
  obtain ⟨e1, e2⟩ := Prod.mk.inj ek
  obtain ⟨t, et⟩ := abs_str e1.symm
  exact ⟨k, hk, t, et, e2.symm⟩
theorem lit_of {P : Params} : ∀ {es : List DictEntry}, (∀ e ∈ es, ∃ x t, e.key = .str x t ∧ e.hash = PyData.keyHash P x) → PySem.W.KeysLit P es
  | [], _ => trivial
  | e :: es, h => ⟨h e List.mem_cons_self, lit_of fun x m => h x (List.mem_cons_of_mem _ m)⟩
theorem kdict_of {K : PySem.W.Frag} {w : World} {a : Addr} {es : Array DictEntry} {n : Nat} {ks : List Str} (l : K.lookup a = some ⟨.type "dict", none, .dict es n, #[]⟩) (o : (a == sysModules) = false) (h : tags es.toList = tagsOf w.params ks) : KDict K w a es n :=
  ⟨l, lit_of fun e m => by
    obtain ⟨k, _, t, h1, h2⟩ := tag_at h m
    exact ⟨k, t, h1, h2⟩, o⟩
theorem ns_none {K : PySem.W.Frag} {a : Addr} {P : Params} {es : Array DictEntry} {n : Nat} {ks : List Str} {z : Str} (l : K.lookup a = some ⟨.type "dict", none, .dict es n, #[]⟩) (h : tags es.toList = tagsOf P ks) (hz : z ∉ ks) : PySem.W.nsIn K a z = some none := by
  have f : es.toList.find? (fun e => e.key.isStr z) = none := List.find?_eq_none.mpr fun x hx => by
    obtain ⟨k, hk, t, ek, _⟩ := tag_at h hx
    rw [ek]
    intro w
    have : k = z := by simpa [Value.isStr] using w
    exact hz (this ▸ hk)
  have g : es.toList.any (fun e => e.refKey) = false := List.any_eq_false.mpr fun x hx => by
    obtain ⟨k, hk, t, ek, _⟩ := tag_at h hx
    unfold DictEntry.refKey
    rw [ek]
    exact Bool.false_ne_true
  unfold PySem.W.nsIn
  rw [l]
  dsimp only
  rw [f]
  dsimp only
  rw [g]
  rfl
theorem no_sorts {z : Str} (h : table.lookup z = none) : z ∉ table.map (·.1) := fun m => by
  obtain ⟨ks, e⟩ := has_sorts m
  rw [e] at h
  cases h
end K01
set_option Elab.async false
set_option linter.all false
set_option maxRecDepth 100000
set_option maxHeartbeats 4000000
namespace K01
open PySem PySem.Spec PyProof.Rows L2
theorem map_shape (ks : List Kd) : (ks.map fun k => (shapeOf k : Str)).map V.str = ks.map fun k => V.str (shapeOf k) := by rw [List.map_map]; rfl
theorem all_mk {l : PySem.W.OpenLaw} {w : World} {K : PySem.W.Frag} {h : Heap} {mg : Str → Option Value} {fa : Addr} (X : K.In h) (G : h.Ns mainGlobals mg) (hfa : mg "law" = some (.ref fa))
    {f0 : Addr} {oc0 kV0 dc0 pm0 cd0 ct0 : Value} {od0 an0 : Option Addr} {sl0 : Array (Option Value)}
    {f1 : Addr} {oc1 kV1 dc1 pm1 cd1 ct1 : Value} {od1 an1 : Option Addr} {sl1 : Array (Option Value)}
    {f2 : Addr} {oc2 kV2 dc2 pm2 cd2 ct2 : Value} {od2 an2 : Option Addr} {sl2 : Array (Option Value)}
    {f3 : Addr} {oc3 kV3 dc3 pm3 cd3 ct3 : Value} {od3 an3 : Option Addr} {sl3 : Array (Option Value)}
    {f4 : Addr} {oc4 kV4 dc4 pm4 cd4 ct4 : Value} {od4 an4 : Option Addr} {sl4 : Array (Option Value)}
    {f5 : Addr} {oc5 kV5 dc5 pm5 cd5 ct5 : Value} {od5 an5 : Option Addr} {sl5 : Array (Option Value)}
    {f6 : Addr} {oc6 kV6 dc6 pm6 cd6 ct6 : Value} {od6 an6 : Option Addr} {sl6 : Array (Option Value)}
    {f7 : Addr} {oc7 kV7 dc7 pm7 cd7 ct7 : Value} {od7 an7 : Option Addr} {sl7 : Array (Option Value)}
    {f8 : Addr} {oc8 kV8 dc8 pm8 cd8 ct8 : Value} {od8 an8 : Option Addr} {sl8 : Array (Option Value)}
    {f9 : Addr} {oc9 kV9 dc9 pm9 cd9 ct9 : Value} {od9 an9 : Option Addr} {sl9 : Array (Option Value)}
    {f10 : Addr} {oc10 kV10 dc10 pm10 cd10 ct10 : Value} {od10 an10 : Option Addr} {sl10 : Array (Option Value)}
    {f11 : Addr} {oc11 kV11 dc11 pm11 cd11 ct11 : Value} {od11 an11 : Option Addr} {sl11 : Array (Option Value)}
    {f12 : Addr} {oc12 kV12 dc12 pm12 cd12 ct12 : Value} {od12 an12 : Option Addr} {sl12 : Array (Option Value)}
    {f13 : Addr} {oc13 kV13 dc13 pm13 cd13 ct13 : Value} {od13 an13 : Option Addr} {sl13 : Array (Option Value)}
    {f14 : Addr} {oc14 kV14 dc14 pm14 cd14 ct14 : Value} {od14 an14 : Option Addr} {sl14 : Array (Option Value)}
    {f15 : Addr} {oc15 kV15 dc15 pm15 cd15 ct15 : Value} {od15 an15 : Option Addr} {sl15 : Array (Option Value)}
    {f16 : Addr} {oc16 kV16 dc16 pm16 cd16 ct16 : Value} {od16 an16 : Option Addr} {sl16 : Array (Option Value)}
    {f17 : Addr} {oc17 kV17 dc17 pm17 cd17 ct17 : Value} {od17 an17 : Option Addr} {sl17 : Array (Option Value)}
    {f18 : Addr} {oc18 kV18 dc18 pm18 cd18 ct18 : Value} {od18 an18 : Option Addr} {sl18 : Array (Option Value)}
    {kA dA : Addr} {es : Array DictEntry} {nn : Nat}
    {b0 : Addr}
    {b1 : Addr}
    {b2 : Addr}
    {b3 : Addr}
    {b4 : Addr}
    {b5 : Addr}
    {b6 : Addr}
    {b7 : Addr}
    {b8 : Addr}
    {b9 : Addr}
    {b10 : Addr}
    {b11 : Addr}
    {b12 : Addr}
    {b13 : Addr}
    {b14 : Addr}
    {b15 : Addr}
    {b16 : Addr}
    {b17 : Addr}
    {b18 : Addr}
    {b19 : Addr}
    {b20 : Addr}
    {b21 : Addr}
    {b22 : Addr}
    {b23 : Addr}
    {b24 : Addr}
    {b25 : Addr}
    {b26 : Addr}
    {b27 : Addr}
    (a0 : PySem.W.nsIn K mainGlobals "is_number" = some (some (.ref f0)))
    (l0 : K.lookup f0 = some ⟨oc0, od0, .func (PySem.W.fnOf "is_number" "is_number" (defArgs (topS 3)) (defBody (topS 3)) (defScope (topS 3)) .none kV0 dc0 pm0 an0 cd0 ct0), sl0⟩)
    (c0 : PySem.W.codeIn K cd0 "is_number" = true)
    (k0 : PySem.W.keepIn K (.ref f0) = true)
    (a1 : PySem.W.nsIn K mainGlobals "is_path" = some (some (.ref f1)))
    (l1 : K.lookup f1 = some ⟨oc1, od1, .func (PySem.W.fnOf "is_path" "is_path" (defArgs (topS 4)) (defBody (topS 4)) (defScope (topS 4)) .none kV1 dc1 pm1 an1 cd1 ct1), sl1⟩)
    (c1 : PySem.W.codeIn K cd1 "is_path" = true)
    (k1 : PySem.W.keepIn K (.ref f1) = true)
    (a2 : PySem.W.nsIn K mainGlobals "number_fits" = some (some (.ref f2)))
    (l2 : K.lookup f2 = some ⟨oc2, od2, .func (PySem.W.fnOf "number_fits" "number_fits" (defArgs (topS 5)) (defBody (topS 5)) (defScope (topS 5)) .none kV2 dc2 pm2 an2 cd2 ct2), sl2⟩)
    (c2 : PySem.W.codeIn K cd2 "number_fits" = true)
    (k2 : PySem.W.keepIn K (.ref f2) = true)
    (a3 : PySem.W.nsIn K mainGlobals "text_fits" = some (some (.ref f3)))
    (l3 : K.lookup f3 = some ⟨oc3, od3, .func (PySem.W.fnOf "text_fits" "text_fits" (defArgs (topS 6)) (defBody (topS 6)) (defScope (topS 6)) .none kV3 dc3 pm3 an3 cd3 ct3), sl3⟩)
    (c3 : PySem.W.codeIn K cd3 "text_fits" = true)
    (k3 : PySem.W.keepIn K (.ref f3) = true)
    (a4 : PySem.W.nsIn K mainGlobals "fits" = some (some (.ref f4)))
    (l4 : K.lookup f4 = some ⟨oc4, od4, .func (PySem.W.fnOf "fits" "fits" (defArgs (topS 7)) (defBody (topS 7)) (defScope (topS 7)) .none kV4 dc4 pm4 an4 cd4 ct4), sl4⟩)
    (c4 : PySem.W.codeIn K cd4 "fits" = true)
    (k4 : PySem.W.keepIn K (.ref f4) = true)
    (a5 : PySem.W.nsIn K mainGlobals "is_call" = some (some (.ref f5)))
    (l5 : K.lookup f5 = some ⟨oc5, od5, .func (PySem.W.fnOf "is_call" "is_call" (defArgs (topS 9)) (defBody (topS 9)) (defScope (topS 9)) .none kV5 dc5 pm5 an5 cd5 ct5), sl5⟩)
    (c5 : PySem.W.codeIn K cd5 "is_call" = true)
    (k5 : PySem.W.keepIn K (.ref f5) = true)
    (a6 : PySem.W.nsIn K mainGlobals "_law_stream" = some (some (.ref f6)))
    (l6 : K.lookup f6 = some ⟨oc6, od6, .func (PySem.W.fnOf "_law_stream" "_law_stream" (defArgs (topS 11)) (defBody (topS 11)) (defScope (topS 11)) .none kV6 dc6 pm6 an6 cd6 ct6), sl6⟩)
    (c6 : PySem.W.codeIn K cd6 "_law_stream" = true)
    (k6 : PySem.W.keepIn K (.ref f6) = true)
    (a7 : PySem.W.nsIn K mainGlobals "_law_draw" = some (some (.ref f7)))
    (l7 : K.lookup f7 = some ⟨oc7, od7, .func (PySem.W.fnOf "_law_draw" "_law_draw" (defArgs (topS 12)) (defBody (topS 12)) (defScope (topS 12)) .none kV7 dc7 pm7 an7 cd7 ct7), sl7⟩)
    (c7 : PySem.W.codeIn K cd7 "_law_draw" = true)
    (k7 : PySem.W.keepIn K (.ref f7) = true)
    (a8 : PySem.W.nsIn K mainGlobals "_law_folded" = some (some (.ref f8)))
    (l8 : K.lookup f8 = some ⟨oc8, od8, .func (PySem.W.fnOf "_law_folded" "_law_folded" (defArgs (topS 13)) (defBody (topS 13)) (defScope (topS 13)) .none kV8 dc8 pm8 an8 cd8 ct8), sl8⟩)
    (c8 : PySem.W.codeIn K cd8 "_law_folded" = true)
    (k8 : PySem.W.keepIn K (.ref f8) = true)
    (a9 : PySem.W.nsIn K mainGlobals "_law_pick" = some (some (.ref f9)))
    (l9 : K.lookup f9 = some ⟨oc9, od9, .func (PySem.W.fnOf "_law_pick" "_law_pick" (defArgs (topS 14)) (defBody (topS 14)) (defScope (topS 14)) .none kV9 dc9 pm9 an9 cd9 ct9), sl9⟩)
    (c9 : PySem.W.codeIn K cd9 "_law_pick" = true)
    (k9 : PySem.W.keepIn K (.ref f9) = true)
    (a10 : PySem.W.nsIn K mainGlobals "_law_same" = some (some (.ref f10)))
    (l10 : K.lookup f10 = some ⟨oc10, od10, .func (PySem.W.fnOf "_law_same" "_law_same" (defArgs (topS 15)) (defBody (topS 15)) (defScope (topS 15)) .none kV10 dc10 pm10 an10 cd10 ct10), sl10⟩)
    (c10 : PySem.W.codeIn K cd10 "_law_same" = true)
    (k10 : PySem.W.keepIn K (.ref f10) = true)
    (a11 : PySem.W.nsIn K mainGlobals "_law_forms" = some (some (.ref f11)))
    (l11 : K.lookup f11 = some ⟨oc11, od11, .func (PySem.W.fnOf "_law_forms" "_law_forms" (defArgs (topS 16)) (defBody (topS 16)) (defScope (topS 16)) .none kV11 dc11 pm11 an11 cd11 ct11), sl11⟩)
    (c11 : PySem.W.codeIn K cd11 "_law_forms" = true)
    (k11 : PySem.W.keepIn K (.ref f11) = true)
    (a12 : PySem.W.nsIn K mainGlobals "_law_fits" = some (some (.ref f12)))
    (l12 : K.lookup f12 = some ⟨oc12, od12, .func (PySem.W.fnOf "_law_fits" "_law_fits" (defArgs (topS 17)) (defBody (topS 17)) (defScope (topS 17)) .none kV12 dc12 pm12 an12 cd12 ct12), sl12⟩)
    (c12 : PySem.W.codeIn K cd12 "_law_fits" = true)
    (k12 : PySem.W.keepIn K (.ref f12) = true)
    (a13 : PySem.W.nsIn K mainGlobals "_law_is_due" = some (some (.ref f13)))
    (l13 : K.lookup f13 = some ⟨oc13, od13, .func (PySem.W.fnOf "_law_is_due" "_law_is_due" (defArgs (topS 18)) (defBody (topS 18)) (defScope (topS 18)) .none kV13 dc13 pm13 an13 cd13 ct13), sl13⟩)
    (c13 : PySem.W.codeIn K cd13 "_law_is_due" = true)
    (k13 : PySem.W.keepIn K (.ref f13) = true)
    (a14 : PySem.W.nsIn K mainGlobals "_law_part" = some (some (.ref f14)))
    (l14 : K.lookup f14 = some ⟨oc14, od14, .func (PySem.W.fnOf "_law_part" "_law_part" (defArgs (topS 19)) (defBody (topS 19)) (defScope (topS 19)) .none kV14 dc14 pm14 an14 cd14 ct14), sl14⟩)
    (c14 : PySem.W.codeIn K cd14 "_law_part" = true)
    (k14 : PySem.W.keepIn K (.ref f14) = true)
    (a15 : PySem.W.nsIn K mainGlobals "_law_odd" = some (some (.ref f15)))
    (l15 : K.lookup f15 = some ⟨oc15, od15, .func (PySem.W.fnOf "_law_odd" "_law_odd" (defArgs (topS 20)) (defBody (topS 20)) (defScope (topS 20)) .none kV15 dc15 pm15 an15 cd15 ct15), sl15⟩)
    (c15 : PySem.W.codeIn K cd15 "_law_odd" = true)
    (k15 : PySem.W.keepIn K (.ref f15) = true)
    (a16 : PySem.W.nsIn K mainGlobals "_law_bent" = some (some (.ref f16)))
    (l16 : K.lookup f16 = some ⟨oc16, od16, .func (PySem.W.fnOf "_law_bent" "_law_bent" (defArgs (topS 21)) (defBody (topS 21)) (defScope (topS 21)) .none kV16 dc16 pm16 an16 cd16 ct16), sl16⟩)
    (c16 : PySem.W.codeIn K cd16 "_law_bent" = true)
    (k16 : PySem.W.keepIn K (.ref f16) = true)
    (a17 : PySem.W.nsIn K mainGlobals "_law_right" = some (some (.ref f17)))
    (l17 : K.lookup f17 = some ⟨oc17, od17, .func (PySem.W.fnOf "_law_right" "_law_right" (defArgs (topS 22)) (defBody (topS 22)) (defScope (topS 22)) .none kV17 dc17 pm17 an17 cd17 ct17), sl17⟩)
    (c17 : PySem.W.codeIn K cd17 "_law_right" = true)
    (k17 : PySem.W.keepIn K (.ref f17) = true)
    (a18 : PySem.W.nsIn K mainGlobals "law" = some (some (.ref f18)))
    (l18 : K.lookup f18 = some ⟨oc18, od18, .func (PySem.W.fnOf "law" "law" (defArgs (topS 23)) (defBody (topS 23)) (defScope (topS 23)) .none kV18 dc18 pm18 an18 cd18 ct18), sl18⟩)
    (c18 : PySem.W.codeIn K cd18 "law" = true)
    (k18 : PySem.W.keepIn K (.ref f18) = true)
    (z0 : PySem.W.nsIn K mainGlobals "isinstance" = some none)
    (z1 : PySem.W.nsIn K mainGlobals "int" = some none)
    (z2 : PySem.W.nsIn K mainGlobals "bool" = some none)
    (z3 : PySem.W.nsIn K mainGlobals "str" = some none)
    (z4 : PySem.W.nsIn K mainGlobals "tuple" = some none)
    (z5 : PySem.W.nsIn K mainGlobals "list" = some none)
    (z6 : PySem.W.nsIn K mainGlobals "len" = some none)
    (z7 : PySem.W.nsIn K mainGlobals "all" = some none)
    (z8 : PySem.W.nsIn K mainGlobals "zip" = some none)
    (z9 : PySem.W.nsIn K mainGlobals "sorted" = some none)
    (z10 : PySem.W.nsIn K mainGlobals "range" = some none)
    (z11 : PySem.W.nsIn K mainGlobals "abs" = some none)
    (z12 : PySem.W.nsIn K mainGlobals "enumerate" = some none)
    (z13 : PySem.W.nsIn K mainGlobals "repr" = some none)
    (gK : PySem.W.nsIn K mainGlobals "KINDS" = some (some (.ref kA)))
    (uK : tupIs K kA fours = true)
    (gA : PySem.W.nsIn K mainGlobals "ARGUMENTS" = some (some (.ref dA)))
    (lA : K.lookup dA = some ⟨.type "dict", none, .dict es nn, #[]⟩)
    (oA : (dA == sysModules) = false)
    (eA : tags es.toList = tagsOf w.params (table.map (·.1)))
    (t0 : PySem.W.nsIn K dA "fork" = some (some (.ref b0)))
    (u0 : tupIs K b0 (([.count] : List Kd).map fun k => (shapeOf k : Str)) = true)
    (t1 : PySem.W.nsIn K dA "lead" = some (some (.ref b1)))
    (u1 : tupIs K b1 (([] : List Kd).map fun k => (shapeOf k : Str)) = true)
    (t2 : PySem.W.nsIn K dA "adopt" = some (some (.ref b2)))
    (u2 : tupIs K b2 (([] : List Kd).map fun k => (shapeOf k : Str)) = true)
    (t3 : PySem.W.nsIn K dA "join" = some (some (.ref b3)))
    (u3 : tupIs K b3 (([.natural, .natural] : List Kd).map fun k => (shapeOf k : Str)) = true)
    (t4 : PySem.W.nsIn K dA "end" = some (some (.ref b4)))
    (u4 : tupIs K b4 (([.number] : List Kd).map fun k => (shapeOf k : Str)) = true)
    (t5 : PySem.W.nsIn K dA "wait" = some (some (.ref b5)))
    (u5 : tupIs K b5 (([.natural] : List Kd).map fun k => (shapeOf k : Str)) = true)
    (t6 : PySem.W.nsIn K dA "send" = some (some (.ref b6)))
    (u6 : tupIs K b6 (([.kind, .natural] : List Kd).map fun k => (shapeOf k : Str)) = true)
    (t7 : PySem.W.nsIn K dA "sendall" = some (some (.ref b7)))
    (u7 : tupIs K b7 (([.kind, .natural] : List Kd).map fun k => (shapeOf k : Str)) = true)
    (t8 : PySem.W.nsIn K dA "about" = some (some (.ref b8)))
    (u8 : tupIs K b8 (([.natural] : List Kd).map fun k => (shapeOf k : Str)) = true)
    (t9 : PySem.W.nsIn K dA "get" = some (some (.ref b9)))
    (u9 : tupIs K b9 (([.natural] : List Kd).map fun k => (shapeOf k : Str)) = true)
    (t10 : PySem.W.nsIn K dA "set" = some (some (.ref b10)))
    (u10 : tupIs K b10 (([.natural, .number] : List Kd).map fun k => (shapeOf k : Str)) = true)
    (t11 : PySem.W.nsIn K dA "make" = some (some (.ref b11)))
    (u11 : tupIs K b11 (([.path, .text] : List Kd).map fun k => (shapeOf k : Str)) = true)
    (t12 : PySem.W.nsIn K dA "remove" = some (some (.ref b12)))
    (u12 : tupIs K b12 (([.path] : List Kd).map fun k => (shapeOf k : Str)) = true)
    (t13 : PySem.W.nsIn K dA "open" = some (some (.ref b13)))
    (u13 : tupIs K b13 (([.path] : List Kd).map fun k => (shapeOf k : Str)) = true)
    (t14 : PySem.W.nsIn K dA "seek" = some (some (.ref b14)))
    (u14 : tupIs K b14 (([.natural, .natural] : List Kd).map fun k => (shapeOf k : Str)) = true)
    (t15 : PySem.W.nsIn K dA "pipe" = some (some (.ref b15)))
    (u15 : tupIs K b15 (([] : List Kd).map fun k => (shapeOf k : Str)) = true)
    (t16 : PySem.W.nsIn K dA "pair" = some (some (.ref b16)))
    (u16 : tupIs K b16 (([] : List Kd).map fun k => (shapeOf k : Str)) = true)
    (t17 : PySem.W.nsIn K dA "area" = some (some (.ref b17)))
    (u17 : tupIs K b17 (([] : List Kd).map fun k => (shapeOf k : Str)) = true)
    (t18 : PySem.W.nsIn K dA "copy" = some (some (.ref b18)))
    (u18 : tupIs K b18 (([.natural, .natural] : List Kd).map fun k => (shapeOf k : Str)) = true)
    (t19 : PySem.W.nsIn K dA "close" = some (some (.ref b19)))
    (u19 : tupIs K b19 (([.natural] : List Kd).map fun k => (shapeOf k : Str)) = true)
    (t20 : PySem.W.nsIn K dA "handles" = some (some (.ref b20)))
    (u20 : tupIs K b20 (([] : List Kd).map fun k => (shapeOf k : Str)) = true)
    (t21 : PySem.W.nsIn K dA "same" = some (some (.ref b21)))
    (u21 : tupIs K b21 (([.natural, .natural, .natural] : List Kd).map fun k => (shapeOf k : Str)) = true)
    (t22 : PySem.W.nsIn K dA "peek" = some (some (.ref b22)))
    (u22 : tupIs K b22 (([.natural, .natural] : List Kd).map fun k => (shapeOf k : Str)) = true)
    (t23 : PySem.W.nsIn K dA "poke" = some (some (.ref b23)))
    (u23 : tupIs K b23 (([.natural, .natural, .number] : List Kd).map fun k => (shapeOf k : Str)) = true)
    (t24 : PySem.W.nsIn K dA "read" = some (some (.ref b24)))
    (u24 : tupIs K b24 (([.natural, .count] : List Kd).map fun k => (shapeOf k : Str)) = true)
    (t25 : PySem.W.nsIn K dA "write" = some (some (.ref b25)))
    (u25 : tupIs K b25 (([.natural, .words] : List Kd).map fun k => (shapeOf k : Str)) = true)
    (t26 : PySem.W.nsIn K dA "pass" = some (some (.ref b26)))
    (u26 : tupIs K b26 (([.natural, .natural] : List Kd).map fun k => (shapeOf k : Str)) = true)
    (t27 : PySem.W.nsIn K dA "take" = some (some (.ref b27)))
    (u27 : tupIs K b27 (([.natural] : List Kd).map fun k => (shapeOf k : Str)) = true) :
    ∃ fd : FuncData, (∀ (s : Shared) (v : Value), BindsTo s fd ⟨[v], []⟩ [("_law_script", v)]) ∧ ∀ base : Heap, K.In base → base.Ns mainGlobals mg → FnG l.prog w K mg base 7 fa fd ["_law_script"] (spLaw K) := by
  have e := hfa.symm.trans (PySem.W.mg_of X G a18)
  cases e
  have F0 := fun_mk (st := topS 3) l0 c0 k0
  have b0' := F0.binds (ps := ["value"]) fun _ _ _ _ _ _ us hl => match us, hl with | [_], _ => rfl
  have F1 := fun_mk (st := topS 4) l1 c1 k1
  have b1' := F1.binds (ps := ["text"]) fun _ _ _ _ _ _ us hl => match us, hl with | [_], _ => rfl
  have F2 := fun_mk (st := topS 5) l2 c2 k2
  have b2' := F2.binds (ps := ["shape", "value"]) fun _ _ _ _ _ _ us hl => match us, hl with | [_, _], _ => rfl
  have F3 := fun_mk (st := topS 6) l3 c3 k3
  have b3' := F3.binds (ps := ["shape", "value"]) fun _ _ _ _ _ _ us hl => match us, hl with | [_, _], _ => rfl
  have F4 := fun_mk (st := topS 7) l4 c4 k4
  have b4' := F4.binds (ps := ["shape", "value"]) fun _ _ _ _ _ _ us hl => match us, hl with | [_, _], _ => rfl
  have F5 := fun_mk (st := topS 9) l5 c5 k5
  have b5' := F5.binds (ps := ["thing"]) fun _ _ _ _ _ _ us hl => match us, hl with | [_], _ => rfl
  have F6 := fun_mk (st := topS 11) l6 c6 k6
  have b6' := F6.binds (ps := ["_law_script", "_law_k"]) fun _ _ _ _ _ _ us hl => match us, hl with | [_, _], _ => rfl
  have F7 := fun_mk (st := topS 12) l7 c7 k7
  have b7' := F7.binds (ps := ["_law_source", "_law_bound"]) fun _ _ _ _ _ _ us hl => match us, hl with | [_, _], _ => rfl
  have F8 := fun_mk (st := topS 13) l8 c8 k8
  have b8' := F8.binds (ps := ["_law_script", "_law_most"]) fun _ _ _ _ _ _ us hl => match us, hl with | [_, _], _ => rfl
  have F9 := fun_mk (st := topS 14) l9 c9 k9
  have b9' := F9.binds (ps := ["_law_source", "_law_some"]) fun _ _ _ _ _ _ us hl => match us, hl with | [_, _], _ => rfl
  have F10 := fun_mk (st := topS 15) l10 c10 k10
  have b10' := F10.binds (ps := ["_law_found", "_law_due"]) fun _ _ _ _ _ _ us hl => match us, hl with | [_, _], _ => rfl
  have F11 := fun_mk (st := topS 16) l11 c11 k11
  have b11' := F11.binds (ps := []) fun _ _ _ _ _ _ us hl => match us, hl with | [], _ => rfl
  have F12 := fun_mk (st := topS 17) l12 c12 k12
  have b12' := F12.binds (ps := ["_law_sort", "_law_part_here"]) fun _ _ _ _ _ _ us hl => match us, hl with | [_, _], _ => rfl
  have F13 := fun_mk (st := topS 18) l13 c13 k13
  have b13' := F13.binds (ps := ["_law_matter"]) fun _ _ _ _ _ _ us hl => match us, hl with | [_], _ => rfl
  have F14 := fun_mk (st := topS 19) l14 c14 k14
  have b14' := F14.binds (ps := ["_law_source", "_law_sort"]) fun _ _ _ _ _ _ us hl => match us, hl with | [_, _], _ => rfl
  have F15 := fun_mk (st := topS 20) l15 c15 k15
  have b15' := F15.binds (ps := ["_law_source"]) fun _ _ _ _ _ _ us hl => match us, hl with | [_], _ => rfl
  have F16 := fun_mk (st := topS 21) l16 c16 k16
  have b16' := F16.binds (ps := ["_law_source", "_law_deed"]) fun _ _ _ _ _ _ us hl => match us, hl with | [_, _], _ => rfl
  have F17 := fun_mk (st := topS 22) l17 c17 k17
  have b17' := F17.binds (ps := ["_law_source"]) fun _ _ _ _ _ _ us hl => match us, hl with | [_], _ => rfl
  have F18 := fun_mk (st := topS 23) l18 c18 k18
  have T : ArgT K w dA es nn := by
    refine ⟨kdict_of lA oA eA, fun z ks hz => ?_, fun z hz => ns_none lA eA (no_sorts hz)⟩
    have m := look_mem hz
    simp only [table, List.mem_cons, List.not_mem_nil, or_false, Prod.mk.injEq] at m
    rcases m with ⟨rfl, rfl⟩ | ⟨rfl, rfl⟩ | ⟨rfl, rfl⟩ | ⟨rfl, rfl⟩ | ⟨rfl, rfl⟩ | ⟨rfl, rfl⟩ | ⟨rfl, rfl⟩ | ⟨rfl, rfl⟩ | ⟨rfl, rfl⟩ | ⟨rfl, rfl⟩ | ⟨rfl, rfl⟩ | ⟨rfl, rfl⟩ | ⟨rfl, rfl⟩ | ⟨rfl, rfl⟩ | ⟨rfl, rfl⟩ | ⟨rfl, rfl⟩ | ⟨rfl, rfl⟩ | ⟨rfl, rfl⟩ | ⟨rfl, rfl⟩ | ⟨rfl, rfl⟩ | ⟨rfl, rfl⟩ | ⟨rfl, rfl⟩ | ⟨rfl, rfl⟩ | ⟨rfl, rfl⟩ | ⟨rfl, rfl⟩ | ⟨rfl, rfl⟩ | ⟨rfl, rfl⟩ | ⟨rfl, rfl⟩
    · exact ⟨b0, t0, fun H => by rw [← map_shape]; exact sq_of u0 H⟩
    · exact ⟨b1, t1, fun H => by rw [← map_shape]; exact sq_of u1 H⟩
    · exact ⟨b2, t2, fun H => by rw [← map_shape]; exact sq_of u2 H⟩
    · exact ⟨b3, t3, fun H => by rw [← map_shape]; exact sq_of u3 H⟩
    · exact ⟨b4, t4, fun H => by rw [← map_shape]; exact sq_of u4 H⟩
    · exact ⟨b5, t5, fun H => by rw [← map_shape]; exact sq_of u5 H⟩
    · exact ⟨b6, t6, fun H => by rw [← map_shape]; exact sq_of u6 H⟩
    · exact ⟨b7, t7, fun H => by rw [← map_shape]; exact sq_of u7 H⟩
    · exact ⟨b8, t8, fun H => by rw [← map_shape]; exact sq_of u8 H⟩
    · exact ⟨b9, t9, fun H => by rw [← map_shape]; exact sq_of u9 H⟩
    · exact ⟨b10, t10, fun H => by rw [← map_shape]; exact sq_of u10 H⟩
    · exact ⟨b11, t11, fun H => by rw [← map_shape]; exact sq_of u11 H⟩
    · exact ⟨b12, t12, fun H => by rw [← map_shape]; exact sq_of u12 H⟩
    · exact ⟨b13, t13, fun H => by rw [← map_shape]; exact sq_of u13 H⟩
    · exact ⟨b14, t14, fun H => by rw [← map_shape]; exact sq_of u14 H⟩
    · exact ⟨b15, t15, fun H => by rw [← map_shape]; exact sq_of u15 H⟩
    · exact ⟨b16, t16, fun H => by rw [← map_shape]; exact sq_of u16 H⟩
    · exact ⟨b17, t17, fun H => by rw [← map_shape]; exact sq_of u17 H⟩
    · exact ⟨b18, t18, fun H => by rw [← map_shape]; exact sq_of u18 H⟩
    · exact ⟨b19, t19, fun H => by rw [← map_shape]; exact sq_of u19 H⟩
    · exact ⟨b20, t20, fun H => by rw [← map_shape]; exact sq_of u20 H⟩
    · exact ⟨b21, t21, fun H => by rw [← map_shape]; exact sq_of u21 H⟩
    · exact ⟨b22, t22, fun H => by rw [← map_shape]; exact sq_of u22 H⟩
    · exact ⟨b23, t23, fun H => by rw [← map_shape]; exact sq_of u23 H⟩
    · exact ⟨b24, t24, fun H => by rw [← map_shape]; exact sq_of u24 H⟩
    · exact ⟨b25, t25, fun H => by rw [← map_shape]; exact sq_of u25 H⟩
    · exact ⟨b26, t26, fun H => by rw [← map_shape]; exact sq_of u26 H⟩
    · exact ⟨b27, t27, fun H => by rw [← map_shape]; exact sq_of u27 H⟩
  refine ⟨PySem.W.fnOf "law" "law" (defArgs (topS 23)) (defBody (topS 23)) (defScope (topS 23)) .none kV18 dc18 pm18 an18 cd18 ct18, fun s v => .of_eq rfl, fun base _ _ => ?_⟩
  have g1 := ok_draw (P := l.prog) (w := w) (mg := mg) (base := base) F7 no_draw b7' (PySem.W.mg_of X G a7)
  have g2 := ok_draw F7 g1 b7' (PySem.W.mg_of X G a7)
  have gP := ok_pick F9 g2 b7' k7 (PySem.W.mg_of X G a7) (PySem.W.mg_none_of X G z6)
  have gS := ok_stream (P := l.prog) (w := w) (mg := mg) (base := base) F6 (PySem.W.mg_none_of X G z6) (PySem.W.mg_none_of X G z11) (PySem.W.mg_none_of X G z1)
  have gF := ok_folded (P := l.prog) (w := w) (mg := mg) (base := base) F8 (PySem.W.mg_none_of X G z5) (PySem.W.mg_none_of X G z12)
  have v1 := ok_same (P := l.prog) (w := w) (mg := mg) (base := base) F10 no_same b10' (PySem.W.mg_of X G a10) (PySem.W.mg_none_of X G z0) (PySem.W.mg_none_of X G z5) (PySem.W.mg_none_of X G z4) (PySem.W.mg_none_of X G z6) (PySem.W.mg_none_of X G z7) (PySem.W.mg_none_of X G z8) (PySem.W.mg_none_of X G z2) (PySem.W.mg_none_of X G z3) (PySem.W.mg_none_of X G z1)
  have v2 := ok_same F10 v1 b10' (PySem.W.mg_of X G a10) (PySem.W.mg_none_of X G z0) (PySem.W.mg_none_of X G z5) (PySem.W.mg_none_of X G z4) (PySem.W.mg_none_of X G z6) (PySem.W.mg_none_of X G z7) (PySem.W.mg_none_of X G z8) (PySem.W.mg_none_of X G z2) (PySem.W.mg_none_of X G z3) (PySem.W.mg_none_of X G z1)
  have n1 := ok_isnum (P := l.prog) (w := w) (mg := mg) (base := base) F0 (PySem.W.mg_none_of X G z0) (PySem.W.mg_none_of X G z1) (PySem.W.mg_none_of X G z2)
  have n2 := ok_numfits (P := l.prog) (w := w) (mg := mg) (base := base) F2
  have n3 := ok_ispath (P := l.prog) (w := w) (mg := mg) (base := base) F1 (PySem.W.mg_none_of X G z7)
  have n4 := ok_textfits F3 n3 b1' k1 (PySem.W.mg_of X G a1) (PySem.W.mg_of X G gK) (sq_of uK)
  have n5 := ok_fits F4 n1 b0' k0 (PySem.W.mg_of X G a0) n2 b2' k2 (PySem.W.mg_of X G a2) n4 b3' k3 (PySem.W.mg_of X G a3) (PySem.W.mg_none_of X G z0) (PySem.W.mg_none_of X G z3)
  have n6 := ok_iscall F5 n5 b4' k4 (PySem.W.mg_of X G a4) (PySem.W.mg_of X G gA) T (PySem.W.mg_none_of X G z0) (PySem.W.mg_none_of X G z4) (PySem.W.mg_none_of X G z3) (PySem.W.mg_none_of X G z6) (PySem.W.mg_none_of X G z7) (PySem.W.mg_none_of X G z8)
  have m1 := ok_forms (P := l.prog) (w := w) (mg := mg) (base := base) F11
  have m2 := ok_lfits (P := l.prog) (w := w) (mg := mg) (base := base) F12 (PySem.W.mg_none_of X G z0) (PySem.W.mg_none_of X G z1) (PySem.W.mg_none_of X G z2) (PySem.W.mg_none_of X G z3) (PySem.W.mg_none_of X G z7)
  have m3 := ok_due F13 m1 b11' k11 (PySem.W.mg_of X G a11) m2 b12' k12 (PySem.W.mg_of X G a12) (PySem.W.mg_none_of X G z0) (PySem.W.mg_none_of X G z4) (PySem.W.mg_none_of X G z3) (PySem.W.mg_none_of X G z6) (PySem.W.mg_none_of X G z7) (PySem.W.mg_none_of X G z8)
  have m4 := ok_part F14 g2 b7' k7 (PySem.W.mg_of X G a7) gP b9' k9 (PySem.W.mg_of X G a9)
  have m5 := ok_odd F15 gP b9' k9 (PySem.W.mg_of X G a9)
  have m6 := ok_bent F16 g2 b7' k7 (PySem.W.mg_of X G a7) gP b9' k9 (PySem.W.mg_of X G a9) m5 b15' k15 (PySem.W.mg_of X G a15) m1 b11' k11 (PySem.W.mg_of X G a11) (PySem.W.mg_none_of X G z5) (PySem.W.mg_none_of X G z6) (PySem.W.mg_none_of X G z9) (PySem.W.mg_none_of X G z4)
  have m7 := ok_right F17 m4 b14' k14 (PySem.W.mg_of X G a14) m6 b16' k16 (PySem.W.mg_of X G a16) m1 b11' k11 (PySem.W.mg_of X G a11) m3 b13' k13 (PySem.W.mg_of X G a13) n6 b5' k5 (PySem.W.mg_of X G a5) (fun s v => .of_eq rfl) v2 b10' k10 (PySem.W.mg_of X G a10) (PySem.W.mg_none_of X G z9) (PySem.W.mg_none_of X G z4) (PySem.W.mg_none_of X G z10) (PySem.W.mg_none_of X G z0) (PySem.W.mg_none_of X G z6) (PySem.W.mg_none_of X G z13)
  exact ok_law F18 gF b8' k8 (PySem.W.mg_of X G a8) gS b6' k6 (PySem.W.mg_of X G a6) m7 b17' k17 (PySem.W.mg_of X G a17) (PySem.W.mg_none_of X G z10) (PySem.W.mg_none_of X G z6) (PySem.W.mg_none_of X G z7)
end K01
set_option Elab.async false
set_option linter.all false
set_option maxRecDepth 100000
open PySem PySem.W PyProof.Rows
set_option maxHeartbeats 0 in
theorem PySem.Challenge.cw_treethaw_k01_calls_or_not_holds : PySem.Challenge.rw_treethaw_k01_calls_or_not.Holds := by
  w_on; o_law; k_head; (case hw => w_witness2)
  k_fill
  refine L2.walk_ofN (l := PySem.Challenge.rw_treethaw_k01_calls_or_not) (n := 63) (k := 7) (x := "_law_script") (sp := fun w => K01.spLaw _) rfl (by decide) rfl ⟨rfl, by decide, by decide⟩ (fun w h Y => PySem.W.kIn_of Y) ?F (fun _ _ a ns hl _ hS => ⟨a, ns, rfl, hS, hl, fun _ => rfl⟩)
  case F =>
    intro w mg fa h KX G hmg
    refine' K01.all_mk KX G hmg ?a0 ?l0 ?c0 ?k0 ?a1 ?l1 ?c1 ?k1 ?a2 ?l2 ?c2 ?k2 ?a3 ?l3 ?c3 ?k3 ?a4 ?l4 ?c4 ?k4 ?a5 ?l5 ?c5 ?k5 ?a6 ?l6 ?c6 ?k6 ?a7 ?l7 ?c7 ?k7 ?a8 ?l8 ?c8 ?k8 ?a9 ?l9 ?c9 ?k9 ?a10 ?l10 ?c10 ?k10 ?a11 ?l11 ?c11 ?k11 ?a12 ?l12 ?c12 ?k12 ?a13 ?l13 ?c13 ?k13 ?a14 ?l14 ?c14 ?k14 ?a15 ?l15 ?c15 ?k15 ?a16 ?l16 ?c16 ?k16 ?a17 ?l17 ?c17 ?k17 ?a18 ?l18 ?c18 ?k18 ?z0 ?z1 ?z2 ?z3 ?z4 ?z5 ?z6 ?z7 ?z8 ?z9 ?z10 ?z11 ?z12 ?z13 ?gK ?uK ?gA ?lA ?oA ?eA ?t0 ?u0 ?t1 ?u1 ?t2 ?u2 ?t3 ?u3 ?t4 ?u4 ?t5 ?u5 ?t6 ?u6 ?t7 ?u7 ?t8 ?u8 ?t9 ?u9 ?t10 ?u10 ?t11 ?u11 ?t12 ?u12 ?t13 ?u13 ?t14 ?u14 ?t15 ?u15 ?t16 ?u16 ?t17 ?u17 ?t18 ?u18 ?t19 ?u19 ?t20 ?u20 ?t21 ?u21 ?t22 ?u22 ?t23 ?u23 ?t24 ?u24 ?t25 ?u25 ?t26 ?u26 ?t27 ?u27
    (case a0 => k_is)
    (case l0 => k_is)
    (case c0 => k_is)
    (case k0 => k_is)
    (case a1 => k_is)
    (case l1 => k_is)
    (case c1 => k_is)
    (case k1 => k_is)
    (case a2 => k_is)
    (case l2 => k_is)
    (case c2 => k_is)
    (case k2 => k_is)
    (case a3 => k_is)
    (case l3 => k_is)
    (case c3 => k_is)
    (case k3 => k_is)
    (case a4 => k_is)
    (case l4 => k_is)
    (case c4 => k_is)
    (case k4 => k_is)
    (case a5 => k_is)
    (case l5 => k_is)
    (case c5 => k_is)
    (case k5 => k_is)
    (case a6 => k_is)
    (case l6 => k_is)
    (case c6 => k_is)
    (case k6 => k_is)
    (case a7 => k_is)
    (case l7 => k_is)
    (case c7 => k_is)
    (case k7 => k_is)
    (case a8 => k_is)
    (case l8 => k_is)
    (case c8 => k_is)
    (case k8 => k_is)
    (case a9 => k_is)
    (case l9 => k_is)
    (case c9 => k_is)
    (case k9 => k_is)
    (case a10 => k_is)
    (case l10 => k_is)
    (case c10 => k_is)
    (case k10 => k_is)
    (case a11 => k_is)
    (case l11 => k_is)
    (case c11 => k_is)
    (case k11 => k_is)
    (case a12 => k_is)
    (case l12 => k_is)
    (case c12 => k_is)
    (case k12 => k_is)
    (case a13 => k_is)
    (case l13 => k_is)
    (case c13 => k_is)
    (case k13 => k_is)
    (case a14 => k_is)
    (case l14 => k_is)
    (case c14 => k_is)
    (case k14 => k_is)
    (case a15 => k_is)
    (case l15 => k_is)
    (case c15 => k_is)
    (case k15 => k_is)
    (case a16 => k_is)
    (case l16 => k_is)
    (case c16 => k_is)
    (case k16 => k_is)
    (case a17 => k_is)
    (case l17 => k_is)
    (case c17 => k_is)
    (case k17 => k_is)
    (case a18 => k_is)
    (case l18 => k_is)
    (case c18 => k_is)
    (case k18 => k_is)
    (case z0 => k_is)
    (case z1 => k_is)
    (case z2 => k_is)
    (case z3 => k_is)
    (case z4 => k_is)
    (case z5 => k_is)
    (case z6 => k_is)
    (case z7 => k_is)
    (case z8 => k_is)
    (case z9 => k_is)
    (case z10 => k_is)
    (case z11 => k_is)
    (case z12 => k_is)
    (case z13 => k_is)
    (case gK => k_is)
    (case uK => first | rfl | k_is)
    (case gA => k_is)
    (case lA => k_is)
    (case oA => first | decide | rfl | k_is)
    (case eA => first | rfl | k_is)
    (case t0 => k_is)
    (case u0 => first | rfl | k_is)
    (case t1 => k_is)
    (case u1 => first | rfl | k_is)
    (case t2 => k_is)
    (case u2 => first | rfl | k_is)
    (case t3 => k_is)
    (case u3 => first | rfl | k_is)
    (case t4 => k_is)
    (case u4 => first | rfl | k_is)
    (case t5 => k_is)
    (case u5 => first | rfl | k_is)
    (case t6 => k_is)
    (case u6 => first | rfl | k_is)
    (case t7 => k_is)
    (case u7 => first | rfl | k_is)
    (case t8 => k_is)
    (case u8 => first | rfl | k_is)
    (case t9 => k_is)
    (case u9 => first | rfl | k_is)
    (case t10 => k_is)
    (case u10 => first | rfl | k_is)
    (case t11 => k_is)
    (case u11 => first | rfl | k_is)
    (case t12 => k_is)
    (case u12 => first | rfl | k_is)
    (case t13 => k_is)
    (case u13 => first | rfl | k_is)
    (case t14 => k_is)
    (case u14 => first | rfl | k_is)
    (case t15 => k_is)
    (case u15 => first | rfl | k_is)
    (case t16 => k_is)
    (case u16 => first | rfl | k_is)
    (case t17 => k_is)
    (case u17 => first | rfl | k_is)
    (case t18 => k_is)
    (case u18 => first | rfl | k_is)
    (case t19 => k_is)
    (case u19 => first | rfl | k_is)
    (case t20 => k_is)
    (case u20 => first | rfl | k_is)
    (case t21 => k_is)
    (case u21 => first | rfl | k_is)
    (case t22 => k_is)
    (case u22 => first | rfl | k_is)
    (case t23 => k_is)
    (case u23 => first | rfl | k_is)
    (case t24 => k_is)
    (case u24 => first | rfl | k_is)
    (case t25 => k_is)
    (case u25 => first | rfl | k_is)
    (case t26 => k_is)
    (case u26 => first | rfl | k_is)
    (case t27 => k_is)
    (case u27 => first | rfl | k_is)

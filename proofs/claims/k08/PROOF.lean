import PyProof.Rows.All
import Wide.All
import OpenK.AllK
import Wide.FinOn
import HandS.ForMost
import HandS.IsInst
import HandS.Wide
import HandS.Walk
import HandS.Flow
import HandS.Conv
import HandS.Zip
import HandS.NoneIn
import HandS.More
import HandS.DictComp
import HandS.Star
import HandS.Strs
import HandS.Evl
import PyProof.ReprRoads
import HandS.RaiseMore
import HandS.SetFor
import KE.KExcInit
import HandS.Exc
import HandS.ExcInit
import HandS.ExcIs
import KE.KExcIs
import KE.KTryMore
import HandS.TryOnly
import HandS.ExcOwn
import HandS.WordsExc
import HandS.FStr
import HandS.TupAny
import HandS.Lambda
import KE.KDictList
import HandS.CallLocal
import HandS.Defaults
import PyProof.DictUpdate
import HandS.Small
import HandS.ExcField
import HandS.EndTab
import HandS.Head2
import HandS.HeadHook4
import HandS.HeadWalk
import PyProof.ExcBaseAll.RuntimeError
import KE.KStateDown
import PySem.Challenge.RW_treethaw_k08_waits_for_children
set_option Elab.async false
set_option linter.all false
namespace KB
/-! ### ascending lists -/
def ins (a : Int) : List Int → List Int
  | [] => [a]
  | b :: l => if a < b then a :: b :: l else if a = b then b :: l else b :: ins a l
def asc (l : List Int) : List Int := l.foldr ins []
theorem mem_ins {a k : Int} : ∀ {l : List Int}, k ∈ ins a l ↔ k = a ∨ k ∈ l
  | [] => by simp [ins]
  | b :: l => by
    unfold ins
    split
    · simp
    · split
      · rename_i h; subst h; simp
      · simp only [List.mem_cons, mem_ins]
        constructor
        · rintro (h | h | h) <;> simp [h]
        · rintro (h | h | h) <;> simp [h]
theorem ins_asc {a : Int} : ∀ {l : List Int}, l.Pairwise (· < ·) → (ins a l).Pairwise (· < ·)
  | [], _ => by simp [ins]
  | b :: l, h => by
    rw [List.pairwise_cons] at h
    unfold ins
    split
    · rename_i z
      refine List.pairwise_cons.mpr ⟨fun x m => ?_, List.pairwise_cons.mpr h⟩
      rcases List.mem_cons.mp m with m | m
      · rw [m]; exact z
      · exact Int.lt_trans z (h.1 x m)
    · split
      · exact List.pairwise_cons.mpr h
      · rename_i z1 z2
        refine List.pairwise_cons.mpr ⟨fun x m => ?_, ins_asc h.2⟩
        rcases mem_ins.mp m with m | m
        · rw [m]; omega
        · exact h.1 x m
theorem mem_asc {k : Int} : ∀ {l : List Int}, k ∈ asc l ↔ k ∈ l
  | [] => by simp [asc]
  | a :: l => by
    show k ∈ ins a (asc l) ↔ _
    rw [mem_ins, mem_asc, List.mem_cons]
theorem asc_asc : ∀ (l : List Int), (asc l).Pairwise (· < ·)
  | [] => by simp [asc]
  | a :: l => ins_asc (asc_asc l)
theorem len_ins (a : Int) : ∀ (l : List Int), (ins a l).length ≤ l.length + 1
  | [] => by simp [ins]
  | b :: l => by
    unfold ins
    split
    · simp
    · split
      · simp
      · have := len_ins a l
        simp only [List.length_cons]
        omega
theorem len_asc : ∀ (l : List Int), (asc l).length ≤ l.length
  | [] => by simp [asc]
  | a :: l => by
    have := len_asc l
    have := len_ins a (asc l)
    show (ins a (asc l)).length ≤ _
    simp only [List.length_cons]
    omega
theorem asc_uniq {a b : List Int} (ha : a.Pairwise (· < ·)) (hb : b.Pairwise (· < ·)) (h : ∀ k, k ∈ a ↔ k ∈ b) : a = b := by
  have na : a.Nodup := ha.imp fun h => Int.ne_of_lt h
  have nb : b.Nodup := hb.imp fun h => Int.ne_of_lt h
  have p : a.Perm b := by
    rw [List.perm_iff_count]
    intro k
    rw [na.count, nb.count]
    simp only [h]
  exact p.eq_of_pairwise (le := fun x y => x ≤ y) (fun x y _ _ h1 h2 => Int.le_antisymm h1 h2) (ha.imp fun h => Int.le_of_lt h) (hb.imp fun h => Int.le_of_lt h)
theorem asc_eq {a l : List Int} (ha : a.Pairwise (· < ·)) (h : ∀ k, k ∈ a ↔ k ∈ l) : a = asc l := asc_uniq ha (asc_asc l) fun k => (h k).trans mem_asc.symm
theorem asc_congr {l m : List Int} (h : ∀ k, k ∈ l ↔ k ∈ m) : asc l = asc m := asc_eq (asc_asc l) fun k => mem_asc.trans (h k)
/-! ### families -/
structure Rw where
  n : Int
  up : Int
  s : Int
  g : Int
  ad : Bool
  w : Nat
abbrev Fam := List Rw
def keys (M : Fam) : List Int := M.map (·.n)
def look (M : Fam) (n : Int) : Option Rw := M.find? fun r => decide (r.n = n)
def up (M : Fam) (n : Int) : Int := ((look M n).map (·.up)).getD 1
def ses (M : Fam) (n : Int) : Int := ((look M n).map (·.s)).getD 1
def grp (M : Fam) (n : Int) : Int := ((look M n).map (·.g)).getD 1
def ado (M : Fam) (n : Int) : Bool := ((look M n).map (·.ad)).getD true
def end? (M : Fam) (n : Int) : Bool := ((look M n).map fun r => decide (r.w = 1)).getD false
structure WF (M : Fam) : Prop where
  asc : (keys M).Pairwise (· < ·)
  low : ∀ r ∈ M, 2 ≤ r.n
  par : ∀ r ∈ M, r.up = 1 ∨ r.up ∈ keys M
  root : ∃ root ∈ keys M, ∀ n ∈ keys M, up M n = 1 ↔ n = root
  rk : ∃ rk : Int → Nat, (∀ r ∈ M, rk r.n < 60) ∧ ∀ r ∈ M, r.up ≠ 1 → rk r.up < rk r.n
  few : M.length ≤ 20
theorem look_of {M : Fam} (h : (keys M).Pairwise (· < ·)) {r : Rw} (m : r ∈ M) : look M r.n = some r := by
  induction M with
  | nil => cases m
  | cons x M ih =>
    have h' := List.pairwise_cons.mp h
    unfold look
    rw [List.find?_cons]
    rcases List.mem_cons.mp m with m | m
    · rw [m]; simp
    · have : x.n < r.n := h'.1 r.n (List.mem_map_of_mem (f := fun r : Rw => r.n) m)
      have e : decide (x.n = r.n) = false := decide_eq_false (by omega)
      rw [e]
      exact ih h'.2 m
theorem look_mem {M : Fam} {n : Int} {r : Rw} (h : look M n = some r) : r ∈ M ∧ r.n = n :=
  ⟨List.mem_of_find?_eq_some h, of_decide_eq_true (List.find?_some (p := fun r : Rw => decide (r.n = n)) h)⟩
theorem look_some {M : Fam} {n : Int} (h : n ∈ keys M) : ∃ r, look M n = some r := by
  obtain ⟨r, m, e⟩ := List.mem_map.mp h
  cases z : look M n with
  | some r => exact ⟨r, rfl⟩
  | none => exact absurd (decide_eq_true e) (List.find?_eq_none.mp z r m)
theorem look_none {M : Fam} {n : Int} (h : n ∉ keys M) : look M n = none :=
  List.find?_eq_none.mpr fun r m e => h (by rw [← of_decide_eq_true e]; exact List.mem_map_of_mem (f := fun r : Rw => r.n) m)
section
variable {M : Fam} {n : Int} {r : Rw}
theorem WF.up (W : WF M) (m : r ∈ M) : up M r.n = r.up := by unfold KB.up; rw [look_of W.asc m]; rfl
theorem WF.ses (W : WF M) (m : r ∈ M) : ses M r.n = r.s := by unfold KB.ses; rw [look_of W.asc m]; rfl
theorem WF.grp (W : WF M) (m : r ∈ M) : grp M r.n = r.g := by unfold KB.grp; rw [look_of W.asc m]; rfl
theorem WF.ado (W : WF M) (m : r ∈ M) : ado M r.n = r.ad := by unfold KB.ado; rw [look_of W.asc m]; rfl
theorem WF.row (W : WF M) (h : n ∈ keys M) : ∃ r ∈ M, r.n = n := by
  obtain ⟨r, m, e⟩ := List.mem_map.mp h
  exact ⟨r, m, e⟩
theorem WF.one (W : WF M) : (1 : Int) ∉ keys M := fun h => by
  obtain ⟨r, m, e⟩ := W.row h
  have := W.low r m
  omega
theorem WF.up_in (W : WF M) (h : n ∈ keys M) (z : KB.up M n ≠ 1) : KB.up M n ∈ keys M := by
  obtain ⟨r, m, rfl⟩ := W.row h
  rw [W.up m] at z ⊢
  exact (W.par r m).resolve_left z
theorem up1 (W : WF M) : up M 1 = 1 := by unfold up; rw [look_none W.one]; rfl
theorem ado1 (W : WF M) : ado M 1 = true := by unfold ado; rw [look_none W.one]; rfl
theorem ses1 (W : WF M) : ses M 1 = 1 := by unfold ses; rw [look_none W.one]; rfl
theorem grp1 (W : WF M) : grp M 1 = 1 := by unfold grp; rw [look_none W.one]; rfl
end
/-! ### what is above -/
def go (M : Fam) : Nat → Int → List Int
  | 0, _ => []
  | k + 1, n => up M n :: if up M n = 1 then [] else go M k (up M n)
def above (M : Fam) (n : Int) : List Int := go M 64 n
section
variable {M : Fam} {n : Int}
theorem go_more (W : WF M) {rk : Int → Nat} (h : ∀ r ∈ M, r.up ≠ 1 → rk r.up < rk r.n) : ∀ (k j : Nat) (n : Int), n ∈ keys M → rk n < k → rk n < j → go M k n = go M j n
  | 0, _, _, _, h1, _ => absurd h1 (Nat.not_lt_zero _)
  | _ + 1, 0, _, _, _, h2 => absurd h2 (Nat.not_lt_zero _)
  | k + 1, j + 1, n, m, h1, h2 => by
    show (up M n :: _) = (up M n :: _)
    split
    · rfl
    · rename_i z
      obtain ⟨r, mr, rfl⟩ := W.row m
      have e := W.up mr
      rw [e] at z
      have := h r mr z
      rw [e, go_more W h k j r.up ((W.par r mr).resolve_left z) (by omega) (by omega)]
theorem above_eq (W : WF M) (m : n ∈ keys M) : above M n = up M n :: if up M n = 1 then [] else above M (up M n) := by
  obtain ⟨rk, h1, h2⟩ := W.rk
  show go M 64 n = _
  show (up M n :: _) = _
  split
  · rfl
  · rename_i z
    have mu := W.up_in m z
    obtain ⟨r, mr, e⟩ := W.row mu
    have := h1 r mr
    rw [e] at this
    show _ = up M n :: go M 64 (up M n)
    rw [go_more W h2 63 64 _ mu (by omega) (by omega)]
/-- by what is above -/
theorem up_ind (W : WF M) {P : Int → Prop} (h0 : ∀ n ∈ keys M, up M n = 1 → P n) (h1 : ∀ n ∈ keys M, up M n ≠ 1 → P (up M n) → P n) : ∀ n ∈ keys M, P n := by
  obtain ⟨rk, r1, r2⟩ := W.rk
  have : ∀ (k : Nat) (n : Int), n ∈ keys M → rk n < k → P n := by
    intro k
    induction k with
    | zero => exact fun _ _ h => absurd h (Nat.not_lt_zero _)
    | succ k ih =>
      intro n m h
      by_cases z : up M n = 1
      · exact h0 n m z
      · obtain ⟨r, mr, rfl⟩ := W.row m
        have e := W.up mr
        refine h1 _ m z (ih _ (W.up_in m z) ?_)
        rw [e] at z ⊢
        have := r2 r mr z
        omega
  exact fun n m => this _ n m (Nat.lt_succ_self _)
theorem above_len (W : WF M) : ∀ n ∈ keys M, (above M n).length ≤ 64 := by
  intro n _
  have : ∀ (k : Nat) (n : Int), (go M k n).length ≤ k := by
    intro k
    induction k with
    | zero => exact fun _ => Nat.le_refl 0
    | succ k ih =>
      intro n
      show (up M n :: _).length ≤ _
      split
      · simp
      · have := ih (up M n)
        simp only [List.length_cons]
        omega
  exact this 64 n
def adopter (M : Fam) (n : Int) : Int := ((above M n).find? fun a => ado M a).getD 1
theorem adopter_eq (W : WF M) (m : n ∈ keys M) : adopter M n = if up M n = 1 ∨ ado M (up M n) = true then up M n else adopter M (up M n) := by
  unfold adopter
  rw [above_eq W m]
  by_cases z : up M n = 1
  · rw [if_pos z, z]
    simp [ado1 W]
  · rw [if_neg z, List.find?_cons]
    cases a : ado M (up M n) <;> simp [z]
theorem above_in (W : WF M) : ∀ n ∈ keys M, ∀ a ∈ above M n, a = 1 ∨ a ∈ keys M := by
  refine up_ind W (fun n m z a h => ?_) (fun n m z ih a h => ?_)
  · rw [above_eq W m, if_pos z] at h
    exact .inl ((List.mem_singleton.mp h).trans z)
  · rw [above_eq W m, if_neg z] at h
    rcases List.mem_cons.mp h with h | h
    · exact .inr (by rw [h]; exact W.up_in m z)
    · exact ih a h
theorem above_one (W : WF M) : ∀ n ∈ keys M, (1 : Int) ∈ above M n := by
  refine up_ind W (fun n m z => ?_) (fun n m z ih => ?_)
  · rw [above_eq W m, z]
    exact List.mem_cons_self
  · rw [above_eq W m, if_neg z]
    exact List.mem_cons_of_mem _ ih
/-- nothing is above itself -/
theorem above_rk (W : WF M) {rk : Int → Nat} (h : ∀ r ∈ M, r.up ≠ 1 → rk r.up < rk r.n) : ∀ n ∈ keys M, ∀ a ∈ above M n, a ≠ 1 → rk a < rk n := by
  refine up_ind W (fun n m z a h z1 => ?_) (fun n m z ih a h' z1 => ?_)
  · rw [above_eq W m, if_pos z] at h
    exact absurd ((List.mem_singleton.mp h).trans z) z1
  · obtain ⟨r, mr, rfl⟩ := W.row m
    have e := W.up mr
    have lt := h r mr (by rw [← e]; exact z)
    rw [above_eq W m, if_neg z] at h'
    rcases List.mem_cons.mp h' with h' | h'
    · rw [h', e]; exact lt
    · have := ih a h' z1
      rw [e] at this
      omega
theorem above_self (W : WF M) (m : n ∈ keys M) : n ∉ above M n := fun h => by
  obtain ⟨rk, _, r2⟩ := W.rk
  have z : n ≠ 1 := fun z => W.one (z ▸ m)
  exact absurd (above_rk W r2 n m n h z) (Nat.lt_irrefl _)
end
/-! ### tops -/
def topB (M : Fam) (s n : Int) : Bool := decide (ses M n = s) && (decide (up M n = 1) || !decide (ses M (up M n) = s))
def tops (M : Fam) (s : Int) : List Int := (keys M).filter (topB M s)
def sessions (M : Fam) : List Int := asc (M.map (·.s))
def groups (M : Fam) : List Int := asc (M.map (·.g))
/-- whether n bars the session s -/
def barsS (M : Fam) (s n : Int) : Bool :=
  if s ∈ keys M then
    if n = s then !(decide (ses M n = s) && decide (grp M n = s)) else decide (n ∈ tops M s) && !decide (up M n = adopter M s)
  else if n ∈ tops M s then
    if s = 1 then !decide (up M n = 1) else !decide (up M n = up M ((tops M s).headD 1)) || !ado M (up M n)
  else false
theorem mem_tops {M : Fam} {s n : Int} : n ∈ tops M s ↔ n ∈ keys M ∧ topB M s n = true := List.mem_filter
def owners (M : Fam) (g : Int) : List Int := asc ((M.filter fun r => decide (r.g = g)).map (·.s))
def splitB (M : Fam) (g : Int) : Bool :=
  decide (1 < (owners M g).length) || (decide (g ∈ keys M) && !decide (ses M g = (owners M g).headD 1))
    || ((decide (g = 1) || decide (g ∈ M.map (·.s))) && !decide (g = (owners M g).headD 1))
/-- the child of n's parent that is the leader of n's session or above it -/
def need (M : Fam) (n : Int) : Option Int :=
  if ses M n ∈ keys M ∧ ses M n ≠ n ∧ topB M (ses M n) n = true then (ses M n :: above M (ses M n)).find? fun a => !decide (a = 1) && decide (up M a = up M n) else none
def ringGo (M : Fam) : Nat → List Int → Option Int → List Int × Option Int
  | 0, row, l => (row, l)
  | _ + 1, row, none => (row, none)
  | k + 1, row, some x => if x ∈ row then (row, some x) else ringGo M k (row ++ [x]) (need M x)
def ring (M : Fam) (n : Int) : Option (List Int) :=
  let z := ringGo M 64 [n] (need M n)
  if z.2 = some n ∧ z.1.all (fun a => decide (n ≤ a)) = true then some z.1 else none
inductive Rs where
  | session (s n : Int) | group (g : Int) | ring (row : List Int)
def reasons (M : Fam) : List Rs :=
  (sessions M).flatMap (fun s => ((keys M).filter (barsS M s)).map (Rs.session s)) ++ ((groups M).filter (splitB M)).map Rs.group ++ ((keys M).filterMap (ring M)).map Rs.ring
end KB
set_option Elab.async false
set_option linter.all false
set_option maxRecDepth 100000
set_option maxHeartbeats 4000000
namespace PySem
theorem codeAny_g {M : Model} {A : Around} {c : Code} {R : Result → Shared → Prop} {s : Shared} (h : ∀ g, codeAny M { A with guards := some g } c R s) : codeAny M A c R s :=
  fun Γ p e b => h (guardsOf Γ.below) Γ p e ⟨b.1, b.2.1, b.2.2.1, fun g hg => by cases hg; rfl, b.2.2.2.2⟩
end PySem
namespace L2
open PySem PySem.Spec PyProof.Rows
theorem room_g {k : Nat} {A : Around} {g : List Code} (r : Room k A) : Room k { A with guards := some g } := ⟨r.hd, r.dp, r.un⟩
theorem env0_g {P : Program} {w : World} {K : PySem.W.Frag} {mg : Str → Option Value} {base : Heap} {A : Around} {outer : List Env} {s : Shared} {H : Hp} {g : List Code} (e : Env0 P w K mg base A outer s H) : Env0 P w K mg base { A with guards := some g } outer s H :=
  ⟨e.frames, e.mod, e.bs, e.bsz, e.funs, e.frf, e.hok, e.bare⟩
section
variable {P : Program} {w : World} {K : PySem.W.Frag} {mg : Str → Option Value} {base : Heap}
/-- a def, its body walked where the guards around it are known -/
theorem Fun.okG {x qual : Str} {st : Stmt} {f : Addr} {fd : FuncData} {N ps : List Str} {k : Nat} {sp : Sp} (F : Fun K x qual st f fd) (S : FnScope N ps (defScope st)) (len : ∀ vs H Q E, sp vs H Q E → vs.length = ps.length)
    (body : ∀ (cdv : Value) (A : Around) (outer : List Env) (s : Shared) (H : Hp) (vs : List V) (Q : VK) (E : XK), (∃ g, A.guards = some g) → Room k (A.deeper (envOfC qual (defScope st) s.heap.objs.size f cdv)) → sp vs H Q E →
      ∃ t, PSs (cxOf CX0 P w K mg base N qual (defScope st) f cdv A outer s H E).nox (defBody st) t ∧ t { nx := fun _ H' => Q .non H', rt := Q } (start N vs) H) : FnOk P w K mg base CX0 (k + 1) f fd ps sp := by
  obtain ⟨oc, od, kV, doc, pm, an, cdv, ct, osl, rfl, lk, hcd⟩ := F.ex
  refine ⟨len, fun A outer s H args us vs Q E hr e0 hb r hsp => codeAny_g fun g => ?_⟩
  have hr' := room_g (g := g) hr
  have e1 := env0_g (g := g) e0
  have at_ : (∃ g', ({ A with guards := some g } : Around).guards = some g') := ⟨g, rfl⟩
  generalize ({ A with guards := some g } : Around) = B at hr' e1 at_ ⊢
  have hl := len _ _ _ _ hsp
  have up : ∀ b o, base.get? b = some o → s.heap.get? b = some o := fun b o z => (e1.bs b o z).1
  have KX : K.In s.heap := e1.mod.kin.keeps up
  have lim : s.heap.NoLimit := e1.mod.nolimit.keeps up
  have kinds : ∀ y ∈ ps.zip us, (defScope st).names.lookup y.1 = some .local ∨ ((defScope st).names.lookup y.1 = some .cell ∧ ((cellsFrom (s.heap.objs.size + 1) (defScope st).names []).lookup y.1).isSome = true) := fun y hy => by
    rcases S.par y.1 (List.of_mem_zip hy).1 with z | z
    · exact .inl z
    · exact .inr ⟨z, PySem.W.cellsFrom_some _ _ _ (.inl z)⟩
  refine codeAny_call_function hr'.depth (KX _ _ lk) rfl S.co S.gen rfl (PySem.W.codeRec_of KX hcd) (hb _ _ _ _ ?_)
  refine wpAny_newFunctionEnv_cells S.kind kinds fun env he s1 y => ?_
  subst he
  refine ⟨lim.keeps y.toInCall.keep, codeAny_func ?_⟩
  obtain ⟨t, ht, hq⟩ := body cdv B outer s H vs Q E at_ (hr'.deeper _) hsp
  have I : Inv (cxOf CX0 P w K mg base N qual (defScope st) f cdv B outer s H E) [] (start N vs) H s1 := inv_start S hr'.hd e1 hl r y
  refine wpAny_mono (ht.nox.run [] s1 (start N vs) H _ I hq) (fun fl s' z => ?_) fun _ _ z => z
  have fin : ∀ {σ' : St} {H' : Hp} {v : V} {u : Value}, Inv (cxOf CX0 P w K mg base N qual (defScope st) f cdv B outer s H E) [] σ' H' s' → RelV v u → Q v H' → CE outer P w H s Q u s' :=
    fun J rv q => ⟨_, _, J.os, J.bare, J.base, J.hok, rv, q⟩
  match fl, z with
  | .ret u, ⟨v, σ', H', J, rv, q⟩ => exact fin J rv q
  | .next, ⟨σ', H', J, q⟩ => exact fin (v := V.non) (u := Value.none) J rfl q
  | .brk, ⟨_, _, _, q⟩ => exact q.elim
  | .cont, ⟨_, _, _, q⟩ => exact q.elim
end
end L2

namespace L2
open PySem PySem.Spec PyProof.Rows
/-- a def's promise where nothing is being shown around it -/
structure FnG (P : Program) (w : World) (K : PySem.W.Frag) (mg : Str → Option Value) (base : Heap) (k : Nat) (f : Addr) (fd : FuncData) (ps : List Str) (sp : Sp) : Prop where
  len : ∀ vs H Q E, sp vs H Q E → vs.length = ps.length
  go : ∀ (A : Around) (outer : List Env) (s : Shared) (H : Hp) (args : Args) (us : List Value) (vs : List V) (Q : VK) (E : XK), A.guards = some [] → Room k A → Env0 P w K mg base A outer s H → BindsTo s fd args (ps.zip us) → Vals vs us → sp vs H Q E →
    codeAny (model P w) A (.call (.ref f) args) (CR CX0 outer P w H s Q E) s
theorem deeper_g {A : Around} {e : Env} (h : A.guards = some []) : (A.deeper e).guards = some [] := by
  first | exact h | (simp [Around.deeper, h]) | (unfold Around.deeper; simp [Around.under, h])
section
variable {P : Program} {w : World} {K : PySem.W.Frag} {mg : Str → Option Value} {base : Heap}
theorem Fun.okN {x qual : Str} {st : Stmt} {f : Addr} {fd : FuncData} {N ps : List Str} {k : Nat} {sp : Sp} (F : Fun K x qual st f fd) (S : FnScope N ps (defScope st)) (len : ∀ vs H Q E, sp vs H Q E → vs.length = ps.length)
    (body : ∀ (cdv : Value) (A : Around) (outer : List Env) (s : Shared) (H : Hp) (vs : List V) (Q : VK) (E : XK), (A.deeper (envOfC qual (defScope st) s.heap.objs.size f cdv)).guards = some [] → Room k (A.deeper (envOfC qual (defScope st) s.heap.objs.size f cdv)) → sp vs H Q E →
      ∃ t, PSs (cxOf CX0 P w K mg base N qual (defScope st) f cdv A outer s H E).nox (defBody st) t ∧ t { nx := fun _ H' => Q .non H', rt := Q } (start N vs) H) : FnG P w K mg base (k + 1) f fd ps sp := by
  obtain ⟨oc, od, kV, doc, pm, an, cdv, ct, osl, rfl, lk, hcd⟩ := F.ex
  refine ⟨len, fun A outer s H args us vs Q E hg hr e1 hb r hsp => ?_⟩
  have hl := len _ _ _ _ hsp
  have up : ∀ b o, base.get? b = some o → s.heap.get? b = some o := fun b o z => (e1.bs b o z).1
  have KX : K.In s.heap := e1.mod.kin.keeps up
  have lim : s.heap.NoLimit := e1.mod.nolimit.keeps up
  have kinds : ∀ y ∈ ps.zip us, (defScope st).names.lookup y.1 = some .local ∨ ((defScope st).names.lookup y.1 = some .cell ∧ ((cellsFrom (s.heap.objs.size + 1) (defScope st).names []).lookup y.1).isSome = true) := fun y hy => by
    rcases S.par y.1 (List.of_mem_zip hy).1 with z | z
    · exact .inl z
    · exact .inr ⟨z, PySem.W.cellsFrom_some _ _ _ (.inl z)⟩
  refine codeAny_call_function hr.depth (KX _ _ lk) rfl S.co S.gen rfl (PySem.W.codeRec_of KX hcd) (hb _ _ _ _ ?_)
  refine wpAny_newFunctionEnv_cells S.kind kinds fun env he s1 y => ?_
  subst he
  refine ⟨lim.keeps y.toInCall.keep, codeAny_func ?_⟩
  obtain ⟨t, ht, hq⟩ := body cdv A outer s H vs Q E (deeper_g hg) (hr.deeper _) hsp
  have I : Inv (cxOf CX0 P w K mg base N qual (defScope st) f cdv A outer s H E) [] (start N vs) H s1 := inv_start S hr.hd e1 hl r y
  refine wpAny_mono (ht.nox.run [] s1 (start N vs) H _ I hq) (fun fl s' z => ?_) fun _ _ z => z
  have fin : ∀ {σ' : St} {H' : Hp} {v : V} {u : Value}, Inv (cxOf CX0 P w K mg base N qual (defScope st) f cdv A outer s H E) [] σ' H' s' → RelV v u → Q v H' → CE outer P w H s Q u s' :=
    fun J rv q => ⟨_, _, J.os, J.bare, J.base, J.hok, rv, q⟩
  match fl, z with
  | .ret u, ⟨v, σ', H', J, rv, q⟩ => exact fin J rv q
  | .next, ⟨σ', H', J, q⟩ => exact fin (v := V.non) (u := Value.none) J rfl q
  | .brk, ⟨_, _, _, q⟩ => exact q.elim
  | .cont, ⟨_, _, _, q⟩ => exact q.elim
end
section
variable {X : Cx} {k : Nat} {f : Addr} {fd : FuncData} {ps : List Str} {sp : Sp} {x : Str} {p pos : Pos} {e : Expr} {es : List Expr} {t : TA}
theorem pe_callGd (F : FnG X.prog X.w X.K X.mg X.base k f fd ps sp) (hN : X.A.guards = some []) (hr : Room k X.A) (hg : Gl X x) (hm : X.mg x = some (.ref f)) (hk : PySem.W.keepIn X.K (.ref f) = true) (hb : Binds X.K fd ps []) (ha : PA X (e :: es) t)
    (nd : (x == ("__debug__" : Str)) = false := by decide) (he : starEach (e :: es) X.env = (false, eval e X.env) :: starEach es X.env := by rfl) (np : (backTo pos (starEach es X.env)).any (·.1) = false := by rfl) :
    PE X (.Call (.Name x p) (e :: es) [] pos) (tCall sp [] E0 t) := by
  refine ⟨fun pins s σ H Q I h => wpAny_Call_Name_kw (ld_glob I hg hm ?_ nd)⟩
  refine PySem.W.callWith_K (h₀ := X.base) I.ok.mod.kin hk (thn (ha.run pos pins s σ H _ I h) fun us s1 hu => ?_) he np
  obtain ⟨vs, H1, I1, r1, q⟩ := hu
  refine ⟨I1.kIn, ?_⟩
  rw [List.append_nil] at q
  have hl : (us ++ []).length = ps.length := by
    rw [List.append_nil, ← r1.length]
    exact F.len _ _ _ _ q
  have bnd := hb s1 us I1.kIn hl
  rw [List.append_nil] at bnd
  refine wpAny_call (codeAny_mono (F.go X.A X.stack s1 H1 ⟨us, []⟩ us vs Q E0 hN hr I1.env0 bnd r1 q) fun r s' z => ?_)
  match r, z with
  | .error _, z => exact z.elim
  | .ok (.ret u), z => exact I1.after z
  | .ok .next, z => exact z.elim
  | .ok .brk, z => exact z.elim
  | .ok .cont, z => exact z.elim
end
end L2

namespace L2
open PySem PySem.Spec PyProof.Rows
theorem law_callN {P : Program} {w : World} {K : PySem.W.Frag} {mg mb : Str → Option Value} {k : Nat} {fa a : Addr} {fd : FuncData} {x : Str} {sp : Sp} {z : Shared} {vs : List Value} {ns : List Int}
    (KX : K.In z.heap) (h1 : z.heap.Ns mainGlobals mg) (h2 : z.heap.Ns builtinsNs mb) (h3 : ∀ x : Str, x ≠ "__name__" → mb x = bootBuiltins x) (h4 : z.heap.NoLimit) (h5 : z.gens = #[])
    (ha : z.heap.get? a = some { cls := .type "list", data := .seq vs.toArray }) (hi : IntsAre vs ns) (hl : ns.length ≤ sizeLine) (hr : Room k callerA)
    (F : ∀ base : Heap, K.In base → base.Ns mainGlobals mg → FnG P w K mg base k fa fd [x] sp) (bnd : ∀ (s : Shared) (u : Value), BindsTo s fd ⟨[u], []⟩ [(x, u)])
    (hsp : ∀ H : Hp, Only H → SqL K H a (ns.map V.int) → sp [.ref a] H (fun v _ => v = .bl true) fun _ _ _ => False) :
    codeAny (model P w) callerA (.call (.ref fa) ⟨[.ref a], []⟩) (fun r s' => r = .ok (.ret (.bool true)) ∧ OldK z.heap s'.heap ∧ s'.os = z.os ∧ AllBare s'.gens) z := by
  have rv := vals_ints hi
  have lv := hi.length
  have main : ∀ H : Hp, Only H → SqL K H a (ns.map V.int) → HOk P w H z.heap → (∀ b, H b ≠ none → b = a) → (H a ≠ none → K.lookup a = none) →
      codeAny (model P w) callerA (.call (.ref fa) ⟨[.ref a], []⟩) (fun r s' => r = .ok (.ret (.bool true)) ∧ OldK z.heap s'.heap ∧ s'.os = z.os ∧ AllBare s'.gens) z := by
    intro H only hS hok alone apart
    have stay : ∀ {b : Addr} {o : Obj}, z.heap.get? b = some o → H b = none → (hidT z.heap H).get? b = some o := fun e n => hidT_get e n
    have untracked : ∀ {b : Addr} {o : Obj} {es : Array DictEntry} {ep : Nat}, z.heap.get? b = some o → o.data = .dict es ep → H b = none := fun {b o es ep} e d => by
      by_cases q : H b = none
      · exact q
      · obtain rfl := alone b q
        rw [ha] at e
        cases e
        cases (show Data.seq vs.toArray _ = Data.dict es ep from d)
    have names : ∀ {b : Addr} {m : Str → Option Value}, z.heap.Ns b m → (hidT z.heap H).Ns b m := fun ⟨o, es, ep, e, d, r⟩ => ⟨o, es, ep, stay e (untracked e d), d, r⟩
    have KB : K.In (hidT z.heap H) := fun b o e => stay (KX b o e) (by
      by_cases q : H b = none
      · exact q
      · obtain rfl := alone b q
        rw [apart q] at e
        cases e)
    have md : Mod K mg (hidT z.heap H) := by
      obtain ⟨mc, n1, n2⟩ := h4
      exact ⟨KB, names h1, ⟨mb, names h2, h3⟩, ⟨mc, names n1, n2⟩⟩
    have e0 : Env0 P w K mg (hidT z.heap H) callerA [] z H :=
      ⟨rfl, md, fun b o e => of_hidT e, Nat.le_of_eq (hidT_size _ _), trivial, fun b hb => absurd (show b ∈ ([] : List Addr) from hb) List.not_mem_nil, hok, .of_eq h5⟩
    refine codeAny_mono ((F _ KB (names h1)).go callerA [] z H ⟨[.ref a], []⟩ [.ref a] [.ref a] _ _ rfl hr e0 (bnd z (.ref a)) (.cons rfl .nil) (hsp H only hS)) fun r s' y => ?_
    match r, y with
    | .error _, y => exact y.elim
    | .ok .next, y => exact y.elim
    | .ok .brk, y => exact y.elim
    | .ok .cont, y => exact y.elim
    | .ok (.ret u), ⟨v, H', os, bare, un, hok', rr, q⟩ =>
      obtain rfl : v = .bl true := q
      obtain rfl : u = Value.bool true := rr
      refine ⟨rfl, OldK.of_keep fun b o e => ?_, os, bare⟩
      rcases only b with n | ⟨ob, xs, n⟩
      · exact un.keep b o e n (fun q => absurd (show b ∈ ([] : List Addr) from q) List.not_mem_nil) List.not_mem_nil
      · have n2 := un.frzs b ob _ n
        obtain ⟨e1, _⟩ := hok b _ n
        obtain ⟨e2, _⟩ := hok' b _ n2
        rw [e] at e1
        cases e1
        exact e2
  cases hk : K.lookup a with
  | some o =>
    have e := KX a o hk
    rw [ha] at e
    cases e
    refine main (fun _ => none) (fun _ => .inl rfl) (.inr ⟨_, vs.toArray, _, hk, rfl, rfl, rfl, ?_, ?_⟩) (fun b u q => nomatch (show (none : Option HO) = some u from q)) (fun b q => absurd rfl q) (fun q => absurd rfl q)
    · rw [List.size_toArray, lv]
      exact hl
    · simpa using rv
  | none =>
    have here : ∀ b, (fun b => if b = a then some (HO.frz { cls := .type "list", data := .seq vs.toArray } (.lst (ns.map V.int))) else none) b ≠ none → b = a := fun b q => by
      by_cases hb : b = a
      · exact hb
      · exact absurd (if_neg hb) q
    refine main (fun b => if b = a then some (.frz { cls := .type "list", data := .seq vs.toArray } (.lst (ns.map V.int))) else none) (fun b => ?_) (.inl (.inr ⟨{ cls := .type "list", data := .seq vs.toArray }, if_pos rfl⟩)) (fun b u q => ?_) here (fun _ => hk)
    · by_cases hb : b = a
      · exact .inr ⟨_, _, if_pos hb⟩
      · exact .inl (if_neg hb)
    · by_cases hb : b = a
      · subst hb
        have q2 := (if_pos rfl).symm.trans q
        cases q2
        exact ⟨ha, by rw [List.length_map]; exact hl, vs, _, rv, ha⟩
      · cases (if_neg hb).symm.trans q
theorem walk_ofN {l : PySem.W.OpenLaw} {n k : Nat} {q : Program} {loose : List Str} {XP : (Str → Option Value) → Heap → Prop} {YP : World → Heap → Prop} {d : DefRec} {K : Params → PySem.W.Frag} {sp : World → Sp} {x : Str}
    (hn : l.most = some n) (hz : n ≤ sizeLine) (nd : d.params.defaults = []) (hr : Room k callerA) (hY : ∀ (w : World) (h : Heap), YP w h → (K w.params).In h)
    (F : ∀ (w : World) (mg : Str → Option Value) (fa : Addr) (h : Heap), (K w.params).In h → h.Ns mainGlobals mg → mg d.name = some (.ref fa) →
      ∃ fd : FuncData, (∀ (s : Shared) (u : Value), BindsTo s fd ⟨[u], []⟩ [(x, u)]) ∧ ∀ base : Heap, (K w.params).In base → base.Ns mainGlobals mg → FnG l.prog w (K w.params) mg base k fa fd [x] (sp w))
    (hsp : ∀ (w : World) (H : Hp) (a : Addr) (ns : List Int), ns.length ≤ n → Only H → SqL (K w.params) H a (ns.map V.int) → sp w [.ref a] H (fun v _ => v = .bl true) fun _ _ _ => False) :
    PySem.W.WalkO q loose XP YP l.row.toRowW d [] (fun f vs => PySem.call f vs) := by
  refine Att.attach_call hn nd fun w t0 t1 mg mb fa o pm cd doc a vs ns G Y ho hd hcd hmg hobj hints hlen hg => ?_
  have KX := hY w _ Y
  obtain ⟨fd, hb, hF⟩ := F w mg fa _ KX G.T.g hmg
  exact law_callN KX G.T.g G.T.b G.T.builtins G.T.nolimit hg hobj hints (Nat.le_trans hlen hz) hr hF hb fun H hO hS => hsp w H a ns hlen hO hS
end L2

namespace L2
open PySem PySem.Spec PyProof.Rows
section
variable {X : Cx}
/-- repr(x), nothing being shown around -/
def rRepr (K : PySem.W.Frag) : List V → Hp → VK → Prop := fun xs H Q => ∃ (v : V) (d : PyData), xs = [v] ∧ Dp K H v d ∧ SeqAt.shaped d = true ∧ d.showable = true ∧ d.hasDict = false ∧ d.shown.length ≤ sizeLine ∧ (∀ i, d = .int i → i.natAbs.log2 < 1920) ∧ Q (.str d.shown) H
theorem call_reprN (hN : X.A.guards = some []) {k : Nat} (hr : Room k X.A) : CallR X (.builtin "repr") (rRepr X.K) := by
  intro pins s σ H xs us Q I r h
  obtain ⟨v, d, rfl, hd, sh, hs, hh, hz, hi, q⟩ := h
  obtain ⟨u, rfl, ru⟩ := vals1 r
  have hu := hr.un
  have dp : d.depth ≤ 64 := by
    have e : (d.canLay0 && decide (d.depth ≤ 64)) = true := sh
    rw [Bool.and_eq_true] at e
    exact of_decide_eq_true e.2
  cases hd with
  | non =>
    obtain rfl : u = Value.none := ru
    exact PySem.P.repr_of_none ⟨.str _, H, I.tok _, ⟨_, rfl⟩, q⟩
  | bl b =>
    obtain rfl : u = Value.bool b := ru
    refine PySem.P.repr_of_bool ⟨.str _, H, I.tok _, ⟨_, rfl⟩, ?_⟩
    cases b <;> exact q
  | int i =>
    obtain ⟨t, rfl⟩ := ru
    exact PySem.P.repr_of_int (hi i rfl) ⟨.str _, H, I.tok _, ⟨_, rfl⟩, q⟩
  | str x =>
    obtain ⟨t, rfl⟩ := ru
    exact PySem.P.repr_of_str ⟨.str _, H, I.tok _, ⟨_, rfl⟩, q⟩ hz
  | @lst a xs ds h1 h2 =>
    obtain ⟨as, rd⟩ := Dp.reads I (.list ds) (.ref a) u (.lst h1 h2) ru
    obtain rfl : u = Value.ref a := ru
    exact repr_of_reads' rd hs (fun z => by rw [hh] at z; cases z) hN (by omega) (fun _ _ e => e) (fun h' u tk k => ⟨.str _, H, I.kept (t' := tk) k, ⟨u, rfl⟩, q⟩) hz
  | @tup a xs ds h1 h2 =>
    obtain ⟨as, rd⟩ := Dp.reads I (.tuple ds) (.ref a) u (.tup h1 h2) ru
    obtain rfl : u = Value.ref a := ru
    exact repr_of_reads' rd hs (fun z => by rw [hh] at z; cases z) hN (by omega) (fun _ _ e => e) (fun h' u tk k => ⟨.str _, H, I.kept (t' := tk) k, ⟨u, rfl⟩, q⟩) hz
end
end L2
set_option Elab.async false
set_option linter.all false
set_option maxRecDepth 100000
set_option maxHeartbeats 4000000
namespace L2
open PySem PySem.Spec PyProof.Rows
/-- an empty set, as set() lays it -/
abbrev noneIn (w : World) : Obj := { cls := .type "set", dict := none, data := .set #[] 0 (.fresh 0 0 (!w.params.followText "set-order")) }
abbrev lay1 (w : World) (h : Heap) : Heap := h.push (noneIn w)
section
variable {P : Program} {w : World} {A : Around} {E : Value → Shared → Prop} {s : Shared}
set_option maxHeartbeats 3200000 in
/-- set(xs) of a list of ints -/
theorem set_ofList {l : Addr} {its : Array Value} (ns : List Int) {Q : Value → Shared → Prop} (calm : A.handled = none) (isl : s.heap.IsList l its) (isI : IntsAre its.toList ns) (few : ns.length + 1 < scanBound)
    (fin : ∀ (g : Heap) (tk m : Nat), SetR w g s.heap.objs.size (fun j => decide (j ∈ ns)) m → m ≤ ns.length → (∀ b o, s.heap.get? b = some o → g.get? b = some o) → Q (.ref s.heap.objs.size) { s with heap := g, toks := tk }) :
    wpAny (model P w) A (call (.type "set") [.ref l]) Q E s := by
  have size : its.size = ns.length := (Array.length_toList (xs := its)).symm.trans (IntsAre.length isI)
  obtain ⟨c0, t0, mro0⟩ := F.called_set.mro
  have made0 := F.called_set.made
  have sub0 := F.called_set.sub
  refine wpAny_call (codeAny_of_tree ?_)
  show wpAny _ _ (callAny (.type "set") _) _ _ _
  refine wpAny_pure ⟨Code.quiet_builtin _ (by decide +kernel), codeAny_builtin F.entry_type_call ?_⟩
  rw [Around.under_plain (weight_type_call_type "set" [.ref l] []) rfl]
  have k1 := F.called_set.notType
  have k2 := F.called_set.canCreate
  have k3 := F.typeCall_set_1 (.ref l)
  repeat (any_goals (first | assumption | wp_step))
  refine codeAny_mono (code_set_led1 (.ref l) (E := E) (Q₁ := fun v u => v = .ref s.heap.objs.size ∧ u = { s with heap := lay1 w s.heap }) ⟨rfl, rfl⟩) fun r u hr => ?_
  cases r with
  | error e => exact hr
  | ok fl =>
    cases fl with
    | ret v =>
      obtain ⟨rfl, rfl⟩ := hr
      have at0 : (lay1 w s.heap).get? s.heap.objs.size = some (noneIn w) := Heap.get?_push_size _ rfl
      have isT : Shared.TypeIs { s with heap := lay1 w s.heap } (.ref s.heap.objs.size) "set" := ⟨_, at0, rfl⟩
      have k4 := F.called_set.init.lookup
      have k5 := F.called_set.init.bind (.ref s.heap.objs.size)
      repeat (any_goals (first | assumption | wp_step))
      refine codeAny_mono (codeAny_call_builtin (R := wants (fun r u => r = .none ∧ ∃ g tk m, u = { s with heap := g, toks := tk } ∧ SetR w g s.heap.objs.size (fun j => decide (j ∈ ns)) m ∧ m ≤ ns.length ∧ (∀ b o, s.heap.get? b = some o → g.get? b = some o)) E)
        F.called_set.init.plain F.entry_set_init (check_set_init_1 isT ?_)) fun r2 u2 hr2 => ?_
      · obtain ⟨⟨cl, di, da, sl⟩, el, hcl, nl, hda⟩ := isl
        simp only at hcl hda
        subst hcl
        subst hda
        have el1 : (lay1 w s.heap).get? l = some { cls := .type "list", dict := di, data := .seq its nl, slots := sl } := Heap.get?_push_of_some _ el
        have k6 := F.sub_list_set
        have k7 := F.sub_list_frozenset
        have k8 : (Value.type "list" == Value.type "dict") = false := by decide
        have isl1 : (lay1 w s.heap).IsList l its := ⟨_, el1, rfl, nl, rfl⟩
        unfold Builtin.«set.__init__» noKeywords Builtin.Frozenset.updateFrom
        generalize hPI : pyIter = PI
        wp_walk
        subst hPI
        refine wpAny_pyIter_list isl1 (wpAny_bind (wpAny_runValue ?_))
        have old : l < s.heap.objs.size := Heap.lt_size el
        have calm3 : A.in1.in1.in1.handled = none := by simp [calm]
        have sz1 : (lay1 w s.heap).objs.size = s.heap.objs.size + 1 := Heap.size_push ..
        have apart : l ≠ (lay1 w s.heap).objs.size := by rw [sz1]; exact Nat.ne_of_lt (Nat.lt_succ_of_lt old)
        have clear : s.heap.objs.size ∉ [(lay1 w s.heap).objs.size, l] := by
          rw [sz1]
          simp only [List.mem_cons, List.not_mem_nil, or_false, not_or]
          exact ⟨Nat.ne_of_lt (Nat.lt_succ_self _), Nat.ne_of_gt old⟩
        have vals : ∀ (i : Nat) (v : Value), its[i]? = some v → ∃ k t, ns[i]? = some k ∧ v = .int k t := fun i v hv => by
          have lt : i < ns.length := by rw [← size]; exact (Array.getElem?_eq_some_iff.mp hv).1
          obtain ⟨t, e⟩ := PyProof.Rows.IntsAre.int_at isI i v (by rw [Array.getElem?_toList]; exact hv)
          exact ⟨ns[i], t, List.getElem?_eq_getElem lt, by rw [e, List.getD_eq_getElem?_getD, List.getElem?_eq_getElem lt]; rfl⟩
        refine set_update_ints ((Walks.list calm3 _ l apart its).toS) s.heap.objs.size clear ns size few vals (its.size - 0) 0 _ (by omega) (Nat.zero_le _) ⟨⟨_, Heap.get?_push_size _ rfl, rfl, rfl⟩, isl1.push _⟩ ?first ?last
        case first => exact ⟨0, Nat.le_refl 0, setR_new_at (Heap.get?_push_of_some _ at0)⟩
        case last =>
          intro u m mv hm R
          obtain ⟨g, g2, d2, tk, os2⟩ := u
          obtain rfl : g2 = s.gens := mv.gens
          obtain rfl : d2 = s.drawn := mv.drawn
          obtain rfl : os2 = s.os := mv.os
          show wpAny _ _ _ _ _ _
          refine wpAny_pure ?_
          show wpAny _ _ (ret Value.none) _ _ _
          rw [size] at hm
          refine wpAny_pure ⟨rfl, g, tk, m, rfl, R, hm, fun b o e => ?_⟩
          have lt := Heap.lt_size e
          refine mv.heap b o ?_ (Heap.get?_push_of_some _ (Heap.get?_push_of_some _ e))
          simp only [List.mem_cons, List.not_mem_nil, or_false, not_or]
          rw [sz1]
          exact ⟨Nat.ne_of_lt lt, Nat.ne_of_lt (Nat.lt_succ_of_lt lt)⟩
      · cases r2 with
        | error e => exact hr2
        | ok f2 =>
          cases f2 with
          | ret r =>
            obtain ⟨rfl, g, tk, m, rfl, R, hm, kp⟩ := hr2
            repeat (any_goals (first | assumption | wp_step))
            exact fin _ _ _ R hm kp
          | _ => exact hr2.elim
    | _ => exact hr.elim
end
section
variable {X : Cx}
/-- set(xs), a list of ints -/
def rSetOf (K : PySem.W.Frag) (w : World) : List V → Hp → VK → Prop := fun xs H Q => ∃ (l : Addr) (ns : List Int), xs = [V.ref l] ∧ SqL K H l (ns.map V.int) ∧ ns.length < 64 ∧
  ∀ (a : Addr) (S : Int → Bool) (n : Nat), H a = none → (∀ k, S k = true ↔ k ∈ ns) → n ≤ ns.length → Q (.ref a) (upd H a (SetO w a S n))
theorem cr_setL (hc : X.calm = true) : CallR X (.type "set") (rSetOf X.K X.w) := by
  intro pins s σ H xs us Q I r h
  obtain ⟨l, ns, rfl, hq, few, q⟩ := h
  rw [Vals.ref1 r]
  obtain ⟨its, rv, pl, hz⟩ := I.list hq
  refine set_ofList ns (I.ok.hd hc) pl.isList (by simpa using ints_of_vals rv) (by unfold scanBound; omega) fun g tk m R hm kp => ?_
  have nH : H s.heap.objs.size = none := I.hok.fresh (Nat.le_refl _)
  exact ⟨.ref _, _, I.laid (t' := tk) kp (Nat.le_refl _) (setO_new R), rfl, q _ _ m nH (fun k => decide_eq_true_iff) hm⟩
end
end L2
set_option Elab.async false
set_option linter.all false
set_option maxRecDepth 100000
set_option maxHeartbeats 4000000
namespace L2
open PySem PySem.Spec PyProof.Rows
section
variable {X : Cx}
/-- the walk of a list or a tuple -/
theorem pi_or {tg iter : Expr} {w1 w2 : TI} (h1 : PI X tg iter w1) (h2 : PI X tg iter w2) : PI X tg iter (fun σ H R => w1 σ H R ∨ w2 σ H R) :=
  ⟨fun pins s σ H R I h => h.elim (h1.run pins s σ H R I) (h2.run pins s σ H R I)⟩
end
end L2
namespace Evl
open PySem L2
def EvD (te : TE) (σ : L2.St) (H : Hp) (kvs : List (Key × V)) : Prop := ∀ H1, Ex H H1 → ∀ Q : VK, (∀ p H2, H1 p = none → Ex H1 H2 → H2 p = some (.dK kvs) → Q (.ref p) H2) → te σ H1 Q
section
variable {K : PySem.W.Frag} {σ : L2.St} {H H' : Hp} {ta tb te tx : TE} {t u : TT} {x y z v : V}
theorem EvU.mono {xs : List V} (e : Ex H H') (h : EvU te σ H xs) : EvU te σ H' xs := fun H1 a Q q => h H1 (e.trans a) Q q
theorem ev_fld {f : Str} {a C dx : Addr} {fs : List (Str × V)} (ha : Ev ta σ H (.ref a)) (he : H a = some (.ins C dx fs)) (c : Cls K C) (n : NoAttr K C f) (l : fs.lookup f = some v) : Ev (tFld K ta f) σ H v := fun H1 e Q q =>
  ha H1 e _ fun H2 e2 => ⟨a, C, dx, fs, v, rfl, (e.trans e2) _ _ he, c, n, l, q H2 e2⟩
theorem ev_dget {d : Addr} {kvs : List (Key × V)} {i : Int} (hd : Ev ta σ H (.ref d)) (hk : Ev tb σ H (.int i)) (e0 : H d = some (.dK kvs)) (h : valV kvs (Sum.inl i) = some v) : Ev (tDGet ta tb) σ H v := fun H1 e Q q =>
  hd H1 e _ fun H2 e2 => hk H2 (e.trans e2) _ fun H3 e3 => ⟨d, v, rfl, by
    have g := DGet.k (k := Sum.inl i) (((e.trans e2).trans e3) _ _ e0)
    rw [h] at g
    exact g, q H3 (e2.trans e3)⟩
theorem ev_din {d : Addr} {kvs : List (Key × V)} {i : Int} (hk : Ev tb σ H (.int i)) (hd : Ev ta σ H (.ref d)) (e0 : H d = some (.dK kvs)) : Ev (tDIn tb ta) σ H (.bl (valV kvs (Sum.inl i)).isSome) := fun H1 e Q q =>
  hk H1 e _ fun H2 e2 => hd H2 (e.trans e2) _ fun H3 e3 => ⟨d, _, rfl, DGet.k (k := Sum.inl i) (((e.trans e2).trans e3) _ _ e0), q H3 (e2.trans e3)⟩
theorem ev_isN (h : Ev ta σ H x) : Ev (tIsN ta) σ H (.bl (decide (x = .non))) := fun H1 e Q q => h H1 e _ fun H2 e2 => q H2 e2
/-- which items of xs give -/
def pick {α : Type} (xs : List α) (p : α → Bool) (i : Nat) : Bool := match xs[i]? with
  | some a => p a
  | none => false
def pickV {α : Type} (xs : List α) (g : α → V) (i : Nat) : V := match xs[i]? with
  | some a => g a
  | none => .non
theorem given_pick {α : Type} (p : α → Bool) (g : α → V) : ∀ (xs : List α), given xs.length (pick xs p) (pickV xs g) = (xs.filter p).map g := by
  intro xs
  have key : ∀ n, n ≤ xs.length → given n (pick xs p) (pickV xs g) = ((xs.take n).filter p).map g := by
    intro n
    induction n with
    | zero => intro _; simp [given]
    | succ n ih =>
      intro hn
      have hlt : n < xs.length := hn
      have e : xs[n]? = some xs[n] := List.getElem?_eq_getElem hlt
      have tk : xs.take (n + 1) = xs.take n ++ [xs[n]] := by rw [List.take_add_one, e]; rfl
      have pk : pick xs p n = p xs[n] := by unfold pick; rw [e]
      have pv : pickV xs g n = g xs[n] := by unfold pickV; rw [e]
      rw [tk, List.filter_append, List.map_append]
      cases hp : p xs[n] with
      | true =>
        rw [given_yes (by rw [pk]; exact hp), ih (Nat.le_of_lt hlt), pv]
        simp [hp]
      | false =>
        rw [given_no (by rw [pk]; exact hp), ih (Nat.le_of_lt hlt)]
        simp [hp]
  rw [key xs.length (Nat.le_refl _), List.take_length]
/-- [e for x in xs if t], xs a list that stands: by its items -/
theorem el_lcG {α : Type} {a : Addr} {xs : List α} {tl : TE} {j : Nat} {vs : List Nat} (emb : α → V) (p : α → Bool) (g : α → V) (h : Ev tl σ H (.ref a)) (hx : SqL K H a (xs.map emb)) (hz : xs.length ≤ 40000) (hw : ∀ x, wipe ((wipe σ vs).set j (some x)) vs = wipe σ vs)
    (ht : ∀ b ∈ xs, ∀ H1, Ex H H1 → EvT t ((wipe σ vs).set j (some (emb b))) H1 (p b)) (he : ∀ b ∈ xs, p b = true → ∀ H1, Ex H H1 → Ev te ((wipe σ vs).set j (some (emb b))) H1 (g b)) :
    EvL (tLc (iList K tl) (gName j) t te vs) σ H ((xs.filter p).map g) := by
  have len : (xs.map emb).length = xs.length := List.length_map _
  have at_ : ∀ {i : Nat} {x : V}, (xs.map emb)[i]? = some x → ∃ b, xs[i]? = some b ∧ b ∈ xs ∧ x = emb b := fun {i x} e => by
    rw [List.getElem?_map] at e
    obtain ⟨b, e1, e2⟩ := Option.map_eq_some_iff.mp e
    exact ⟨b, e1, List.mem_of_getElem? e1, e2.symm⟩
  have r := el_lcL (K := K) (xs := xs.map emb) (te := te) (t := t) (j := j) (vs := vs) (pick xs p) (pickV xs g) h hx (by rw [len]; exact hz) hw (fun i x H1 e1 hi => by
      obtain ⟨b, eb, mb, rfl⟩ := at_ hi
      have pk : pick xs p i = p b := by unfold pick; rw [eb]
      rw [pk]
      exact ht b mb H1 e1) (fun i x H1 e1 hi hf => by
      obtain ⟨b, eb, mb, rfl⟩ := at_ hi
      have pk : pick xs p i = p b := by unfold pick; rw [eb]
      have pv : pickV xs g i = g b := by unfold pickV; rw [eb]
      rw [pv]
      exact he b mb (by rw [← pk]; exact hf) H1 e1)
  rw [len, given_pick] at r
  exact r
/-- the same over a new list -/
theorem el_lcGN {α : Type} {xs : List α} {tl : TE} {j : Nat} {vs : List Nat} (emb : α → V) (p : α → Bool) (g : α → V) (h : EvL tl σ H (xs.map emb)) (hz : xs.length ≤ 40000) (hw : ∀ x, wipe ((wipe σ vs).set j (some x)) vs = wipe σ vs)
    (ht : ∀ b ∈ xs, ∀ H1, Ex H H1 → EvT t ((wipe σ vs).set j (some (emb b))) H1 (p b)) (he : ∀ b ∈ xs, p b = true → ∀ H1, Ex H H1 → Ev te ((wipe σ vs).set j (some (emb b))) H1 (g b)) :
    EvL (tLc (iList K tl) (gName j) t te vs) σ H ((xs.filter p).map g) := by
  have len : (xs.map emb).length = xs.length := List.length_map _
  have at_ : ∀ {i : Nat} {x : V}, (xs.map emb)[i]? = some x → ∃ b, xs[i]? = some b ∧ b ∈ xs ∧ x = emb b := fun {i x} e => by
    rw [List.getElem?_map] at e
    obtain ⟨b, e1, e2⟩ := Option.map_eq_some_iff.mp e
    exact ⟨b, e1, List.mem_of_getElem? e1, e2.symm⟩
  have r := el_lcNL (K := K) (xs := xs.map emb) (te := te) (t := t) (j := j) (vs := vs) (pick xs p) (pickV xs g) h (by rw [len]; exact hz) hw (fun i x H1 e1 hi => by
      obtain ⟨b, eb, mb, rfl⟩ := at_ hi
      have pk : pick xs p i = p b := by unfold pick; rw [eb]
      rw [pk]
      exact ht b mb H1 e1) (fun i x H1 e1 hi hf => by
      obtain ⟨b, eb, mb, rfl⟩ := at_ hi
      have pk : pick xs p i = p b := by unfold pick; rw [eb]
      have pv : pickV xs g i = g b := by unfold pickV; rw [eb]
      rw [pv]
      exact he b mb (by rw [← pk]; exact hf) H1 e1)
  rw [len, given_pick] at r
  exact r
theorem et_yes : EvT tYes σ H true := fun H1 _ _ q => q H1 (Ex.refl H1)
theorem filter_all {α : Type} (xs : List α) : xs.filter (fun _ => true) = xs := List.filter_eq_self.mpr fun _ _ => rfl
/-- sorted(set(xs)) of a new list of ints -/
theorem el_sset {w : World} {ns : List Int} {tl : TE} (h : EvL tl σ H (ns.map V.int)) (hz : ns.length < 64) : EvL (tCB (rSortedSet w) (tCons (tCB (rSetOf K w) (tCons tl tNil)) tNil)) σ H ((KB.asc ns).map V.int) := fun H1 e Q q =>
  h H1 e _ fun p H2 np e2 hp => ⟨p, ns, rfl, sq_of hp, hz, fun a S n na hS hn => ⟨a, S, n, rfl, upd_same, by omega, fun ys r so hm hl nr => by
    have ey : ys = KB.asc ns := KB.asc_eq so fun k => (hm k).trans (hS k)
    subst ey
    have e3 : Ex H1 (upd H2 a (SetO w a S n)) := e2.trans (Ex.new na)
    exact q r _ (fresh_back e3 nr) (e3.trans (Ex.new nr)) upd_same⟩⟩
end
end Evl
set_option Elab.async false
set_option linter.all false
set_option maxRecDepth 100000
set_option maxHeartbeats 4000000
namespace PySem
namespace EVX
open PySem.W PySem.Calls PyProof.Rows PySem.HandSPX Builtin Builtin.ObjectAttr
section
variable {prog : Program} {w : World} {A : Around} {R : Result → Shared → Prop} {hp : Heap}
variable {g : Array GenState} {d : Drawn} {t : Nat} {os : OsState} {B : String} {bmB : List Value}
/-- the first field of an exception object, whatever built-in class stands above its own -/
theorem first_field {K : Frag} {nm : Str} {tk : Tok} {v : Value} {x C : Addr} {fv : Array Value}
    (SF : StoreFacts B bmB "object.__setattr__" "object") (KI : K.In hp)
    (hx : hp.get? x = some { cls := .ref C, data := .fields fv })
    (ho : excOver K C bmB = true) (hh : hasDictIn K C = true) (ha : findIn K (.ref C) nm = some none)
    (hq : ∀ h' tk' dx, (∀ b o, b ≠ x → hp.get? b = some o → h'.get? b = some o) → hp.objs.size ≤ dx → dx ≠ x →
      h'.get? x = some { cls := .ref C, dict := some dx, data := .fields fv } →
      h'.Ns1 dx (fun y => if y = nm then some v else none) → R (.ok (.ret .none)) ⟨h', g, d, tk', os⟩) :
    codeAny (model prog w) A (.call (.builtin "object.__setattr__") ⟨[.ref x, .str nm tk, v], []⟩) R ⟨hp, g, d, t, os⟩ := by
  have far : x ≠ hp.objs.size := Nat.ne_of_lt (Heap.lt_size hx)
  obtain ⟨cd, hc, hd⟩ := any_some hh
  have here : Looks (model prog w) hp (classData C) cd := looks_clsIn KI hc
  refine osa_openX (s := ⟨hp, g, d, t, os⟩) (od := none) (r := none) SF KI ⟨hx, rfl, rfl, trivial⟩ ho (by unfold takerIn; rw [ha]; rfl) (fun b => ?_)
  show wpAny _ _ (storeInOwnDict (.ref x) (.ref C) (.str nm tk) nm v b) _ _ _
  obtain ⟨c1, c2, c3, c4, c5, c6, c7, c8, c9, c10, c11⟩ := cd
  dsimp only at hd
  subst hd
  unfold storeInOwnDict ownDictForStores
  repeat (first | with_reducible refine store_in_new ?_ ?_ | with_reducible refine wpAny_loadPart_at hx ?_ | with_reducible refine here.at ?_ | wp_step)
  · exact ⟨_, #[], _, (Heap.get?_update_ne _ _ _ _ far.symm).trans (Heap.get?_push_at rfl rfl),
      rfl, fun e he => absurd he (by simp), fun _ => rfl⟩
  · intro h' tk' hn same
    have old : (hp.push { cls := .type "dict", data := .dict #[] }).get? x = some { cls := .ref C, data := .fields fv } := Heap.get?_push_of_some _ hx
    refine hq h' tk' hp.objs.size (fun b o hb e => ?_) (Nat.le_refl _) far.symm ?_ hn
    · have q1 := same.2 b (Nat.ne_of_lt (Heap.lt_size e))
      rw [q1, Heap.get?_update_ne _ _ _ _ hb]
      exact Heap.get?_push_of_some _ e
    · rw [same.2 x far]
      exact Heap.get?_update_self _ old rfl
end
end EVX
end PySem

set_option Elab.async false
set_option linter.all false
set_option maxRecDepth 100000
set_option maxHeartbeats 4000000
namespace PySem
namespace EVX
open PySem.W PySem.Calls PyProof.Rows PySem.HandSPX Builtin Builtin.ObjectAttr
section
variable {M : Model} {prog : Program} {w : World} {A : Around} {E : Value → Shared → Prop} {R : Result → Shared → Prop} {h : Heap}
variable {g : Array GenState} {d : Drawn} {t : Nat} {os : OsState} {nm q : Str} {C N : Addr} {bs bm bmB : List Value}
variable {hdct : Bool} {sn : List Str} {sub : List Value} {ab : Bool} {col : Option Bool} {dd : Option Addr}
variable {k0 k1 k2 k3 k5 : Option Value} {B newId initId : String} {kn : Str} {kv : Value}
/-- the look at the arguments of __new__, one keyword -/
theorem kw_look (F : ExcBaseFacts B newId initId bmB) (hT : ∀ T : String, bm.contains (.type T) = bmB.contains (.type T)) {Q : Unit → Shared → Prop}
    (hC : h.get? C = some (excClassObj nm q C N bs bm hdct sn sub ab col dd k0 k1 k2 k3 k5 newId)) (go : Q () ⟨h, g, d, t, os⟩) :
    wpAny M A (checkBuiltinCall newId ⟨[.ref C], [(kn, kv)]⟩) Q E ⟨h, g, d, t, os⟩ := by
  have inB : (Value.ref C :: bm).contains (.type B) = true := by
    rw [List.contains_cons, hT, F.hasB, Bool.or_true]
  have star := F.noStar
  simp only [checkBuiltinCall, F.newKind, F.newSplit, F.newRow]
  repeat (first | refine wpAny_loadPart_at hC ?_ | (refine wpAny_isSubtype_exc hC ?_; rw [inB]) | refine wpAny_staticBase_exc hC ?_ | refine wpAny_madeBy_exc hC ?_ | simp only [bne_self_eq_false, Bool.false_eq_true, if_false] | wp_step)
  exact go
theorem kw_new (F : ExcBaseFacts B newId initId bmB) (hT : ∀ T : String, bm.contains (.type T) = bmB.contains (.type T))
    (hC : h.get? C = some (excClassObj nm q C N bs bm hdct sn sub ab col dd k0 k1 k2 k3 k5 newId))
    (go : R (.ok (.ret (.ref (h.objs.size + 1)))) ⟨(h.push (W.kdv_tup [])).push (excO C h.objs.size), g, d, t, os⟩) :
    codeAny (model prog w) A (.builtin newId ⟨[.ref C], [(kn, kv)]⟩) R ⟨h, g, d, t, os⟩ := by
  have hends := F.ends
  have inB : (Value.ref C :: bm).contains (.type B) = true := by
    rw [List.contains_cons, hT, F.hasB, Bool.or_true]
  have noA : (Value.ref C :: bm).contains (.type "AttributeError") = false := by
    rw [List.contains_cons, hT, F.noAttr]; rfl
  have noN : (Value.ref C :: bm).contains (.type "NameError") = false := by
    rw [List.contains_cons, hT, F.noName]; rfl
  refine codeAny_builtinAt F.entry ?_
  unfold Builtin.«BaseException.__new__»
  refine wpAt_bind ?_
  show wpAt _ _ _ (stack >>= _) _ _ _
  refine wpAt_bind (wpAt_stack fun p below => wpAt_of_wpAny ?_)
  wp_walk
  refine wpAt_of_wpAny ?_
  rw [F.owner]
  repeat (first | with_reducible refine wpAny_madeHere_exc F.canon hC ?_ | with_reducible refine wpAny_loadPart_at hC ?_ | (with_reducible refine wpAny_isSubtype_exc hC ?_; first | rw [inB] | rw [noA] | rw [noN]) | wp_step)
  show R _ _
  rw [Heap.size_push]
  exact go
theorem kw_type {fI : Addr} {Q : Fin → Shared → Prop} (F : ExcBaseFacts B newId initId bmB) (hT : ∀ T : String, bm.contains (.type T) = bmB.contains (.type T))
    (hC : h.get? C = some (excClassObj nm q C N bs bm hdct sn sub ab col dd k0 k1 k2 k3 k5 newId))
    (hi : W.Looks (model prog w) h (typeLookup (.ref C) "__init__") (some (.ref fI))) (hb : ∀ self, W.Looks (model prog w) h (bindSpecial (.ref fI) self) (.ref fI, [self]))
    (go : codeAny (model prog w) A (.call (.ref fI) ⟨[.ref (h.objs.size + 1)], [(kn, kv)]⟩)
      (fun r s' => match r with | .ok (.ret v) => v = .none ∧ Q (.done (.ret (.ref (h.objs.size + 1)))) s' | .ok _ => False | .error e => E e s')
      ⟨(h.push (W.kdv_tup [])).push (excO C h.objs.size), g, d, t, os⟩) :
    wpAny (model prog w) A (Builtin.«type.__call__» ⟨[.ref C], [(kn, kv)]⟩) Q E ⟨h, g, d, t, os⟩ := by
  repeat (first | with_reducible refine wpAny_loadPart_at hC ?_ | with_reducible refine wpAny_madeBy_exc hC ?_ | wp_step)
  refine codeAny_call_builtin_code (Code.quiet_builtin _ F.quiet) (kw_look F hT hC ?_)
  refine kw_new F hT hC ?_
  show wpAny _ _ _ _ _ _
  have up : ∀ b o, h.get? b = some o → ((h.push (W.kdv_tup [])).push (excO C h.objs.size)).get? b = some o := fun b o e => Heap.get?_push_of_some _ (Heap.get?_push_of_some _ e)
  have hC1 := up _ _ hC
  have new : ((h.push (W.kdv_tup [])).push (excO C h.objs.size)).get? (h.objs.size + 1) = some (excO C h.objs.size) := by heap_get
  have inC : (Value.ref C :: bm).contains (.ref C) = true := by simp
  have i1 := hi.keeps up
  have b1 := (hb (.ref (h.objs.size + 1))).keeps up
  unfold isInstance
  repeat (first | with_reducible refine wpAny_loadPart_at new ?_ | (with_reducible refine wpAny_isSubtype_exc hC1 ?_; rw [inC]) | wp_step)
  show wpAny _ _ (typeLookup (.ref C) _) _ _ _
  refine i1.at (wpAny_holding (wpAny_bind (b1.at (wpAny_bind (wpAny_call (codeAny_mono go fun r s' z => ?_))))))
  rcases r with e | (v | _ | _ | _) <;> first | exact z | exact z.elim | skip
  obtain ⟨rfl, z⟩ := z
  first | exact wpAny_pure (wpAny_pure z) | (wp_walk; exact z)
/-- C(kn=kv), C an own exception class whose __init__ is the def at fI -/
theorem kw_call {fI : Addr} (F : ExcBaseFacts B newId initId bmB) (hT : ∀ T : String, bm.contains (.type T) = bmB.contains (.type T))
    (hC : h.get? C = some (excClassObj nm q C N bs bm hdct sn sub ab col dd k0 k1 k2 k3 k5 newId))
    (hi : W.Looks (model prog w) h (typeLookup (.ref C) "__init__") (some (.ref fI))) (hb : ∀ self, W.Looks (model prog w) h (bindSpecial (.ref fI) self) (.ref fI, [self]))
    (go : codeAny (model prog w) (A.under (.builtin "type.__call__" ⟨[.ref C], [(kn, kv)]⟩)) (.call (.ref fI) ⟨[.ref (h.objs.size + 1)], [(kn, kv)]⟩) (W.InitBack (h.objs.size + 1) R)
      ⟨(h.push (W.kdv_tup [])).push (excO C h.objs.size), g, d, t, os⟩) :
    codeAny (model prog w) A (.call (.ref C) ⟨[], [(kn, kv)]⟩) R ⟨h, g, d, t, os⟩ := by
  have f1 := tc_lookup
  have f2 := tc_bind (.ref C)
  have isT : (⟨h, g, d, t, os⟩ : Shared).TypeIs (.ref C) "type" := ⟨_, hC, rfl⟩
  refine codeAny_of_tree ?_
  show wpAny _ _ (callAny (.ref C) _) _ _ _
  repeat (any_goals (first | assumption | with_reducible refine wpAny_loadPart_at hC ?_ | wp_step))
  refine ⟨rfl, ?_⟩
  refine codeAny_call_builtin_at (Code.quiet_builtin _ (by decide +kernel)) entry_typeCall (wpAny_check_type_call_sub hC (kw_type F hT hC hi hb ?_))
  refine codeAny_mono go fun r s' z => ?_
  rcases r with e | (v | _ | _ | _) <;> exact z
end
end EVX
end PySem

set_option Elab.async false
set_option linter.all false
set_option maxRecDepth 100000
set_option maxHeartbeats 4000000
namespace L2
open PySem PySem.Spec PyProof.Rows
/-- what the written part says of an own exception class at C, its __init__ at fI -/
structure ExK (K : PySem.W.Frag) (C fI : Addr) (bmB : List Value) (newId : String) : Prop where
  ini : PySem.W.excInitIn K C bmB newId = true
  ovr : PySem.W.excOver K C bmB = true
  sat : PySem.W.findIn K (.ref C) "__setattr__" = some (some (.builtin "object.__setattr__"))
  own : PySem.W.findIn K (.ref C) "__init__" = some (some (.ref fI))
  fun_ : PySem.W.typeIn K (.ref fI) = some (.type "function")
  kep : PySem.W.keepIn K (.ref C) = true
  isc : ExcC K C
section
variable {X : Cx} {pins : List (Addr × Obj)} {σ : St} {H : Hp} {s : Shared} {a C fI : Addr} {f : Str} {y : V} {u : Value}
variable {bmB : List Value} {newId B initId : String} {A : Around} {E : Value → Shared → Prop}
/-- self.f = y, on an exception without fields -/
theorem xst_run {Q : Unit → Shared → Prop} (SF : StoreFacts B bmB "object.__setattr__" "object") (T : ExK X.K C fI bmB newId) (I : Inv X pins σ H s)
    (e : H a = some (exo a C none)) (hno : PySem.W.findIn X.K (.ref C) f = some none) (ry : RelV y u)
    (h : ∀ dx s', H dx = none → dx ≠ a → Inv X pins σ (upd (upd H dx (exd dx [(f, y)])) a (exo a C (some dx))) s' → Q () s') :
    wpAny (model X.prog X.w) A (setAttr (.ref a) f u) Q E s := by
  obtain ⟨t1, at_⟩ := exo_at I.hok e
  obtain ⟨hp, g, d, t, os⟩ := s
  refine PySem.W.set_plain (od := none) I.kIn ⟨at_, rfl, rfl, trivial⟩ T.sat ?_
  refine PySem.EVX.first_field SF I.kIn at_ T.ovr T.isc.hd hno (fun h' tk' dx k big ne hx hn => ?_)
  have nod : H dx = none := I.hok.fresh big
  have low : ∀ {b : Addr} {o : Obj}, hp.get? b = some o → b ≠ dx := fun {b o} z => Nat.ne_of_lt (Nat.lt_of_lt_of_le (Heap.lt_size z) big)
  have nota : ∀ {b : Addr}, H b = none → b ≠ a := fun {b} z q => by
    rw [q, e] at z
    cases z
  have moved : Un X.fs [] H (upd (upd H dx (exd dx [(f, y)])) a (exo a C (some dx))) hp h' :=
    { keep := fun b o z n _ _ => k b o (nota n) z
      slot := fun b o z n _ _ => ⟨o.slots, k b o (nota n) z⟩
      free := fun b o z n _ => by
        rw [upd_ne (nota n), upd_ne (low z)]
        exact n
      there := fun b o z _ => by
        by_cases hb : b = a
        · exact hb ▸ ⟨_, hx⟩
        · exact ⟨o, k b o hb z⟩
      tups := fun b xs z => by
        rw [upd_ne (at_ne e z exo_tup), upd_ne (ne_of_none z nod)]
        exact z
      frzs := fun b o v z => by
        rw [upd_ne (at_ne e z exo_frz), upd_ne (ne_of_none z nod)]
        exact z
      tbls := fun b ps z => ⟨#[], by
        rw [upd_ne (at_ne e z exo_tbl), upd_ne (ne_of_none z nod), z]
        simp⟩ }
  refine h dx _ nod ne (I.un (t' := tk') moved fun b o z => ?_)
  by_cases hb : b = a
  · subst hb
    rw [upd_same] at z
    cases z
    exact exo_ok hx
  · rw [upd_ne hb] at z
    by_cases hd : b = dx
    · subst hd
      rw [upd_same] at z
      cases z
      exact exd_ok hn (relO_put (fs := []) ry fun _ => True.intro)
    · rw [upd_ne hd] at z
      refine (I.hok b o z).stay (fun c v hc q => k c v ?_ q) (fun c hc => ?_) (fun c xs hc => ?_)
      · rcases hc with hc | hc
        · exact hc ▸ hb
        · exact at_ne e hc exo_own
      · rw [upd_ne (at_ne e hc exo_own), upd_ne (ne_of_none hc nod)]
        exact hc
      · rw [upd_ne (at_ne e hc exo_tup), upd_ne (ne_of_none hc nod)]
        exact hc
/-- Base.__init__(self, ..) on an exception without fields -/
theorem xinit_run {us : List Value} {Q : Value → Shared → Prop} (FB : ExcBaseFacts B newId initId bmB) (T : ExK X.K C fI bmB newId) (I : Inv X pins σ H s)
    (e : H a = some (exo a C none)) (hl : us.length ≤ sizeLine) (h : ∀ s', Inv X pins σ H s' → Q .none s') :
    wpAny (model X.prog X.w) A (call (.builtin initId) (.ref a :: us)) Q E s := by
  obtain ⟨_, _, _, _, _, _, _, _, _, _, _, _, _, _, _, _, hC, hT⟩ := PySem.W.excInit_of I.kIn T.ini
  obtain ⟨t1, at_⟩ := exo_at I.hok e
  obtain ⟨hp, g, d, t, os⟩ := s
  refine wpAny_call (PySem.HandSPX.init_base FB hT hC at_ hl fun h' t2 k hx => ?_)
  have J := I.write (t' := t) (x := a) (e := a) (o := exo a C none) (by rw [e]; exact True.intro) (.inl rfl) k ⟨_, hx⟩ (exo_ok hx)
  have same : upd H a (exo a C none) = H := funext fun b => by
    by_cases hb : b = a
    · rw [hb, upd_same, e]
    · rw [upd_ne hb]
  rw [same] at J
  exact h _ J
/-- C(..): an exception, then its __init__ -/
theorem xmk_run {Q : VK} {us : List Value} {vs : List V} {k : Nat} {fd : FuncData} {ps : List Str} {sp : Sp} (FB : ExcBaseFacts B newId initId bmB) (T : ExK X.K C fI bmB newId)
    (G : FnOk X.prog X.w X.K X.mg X.base CX0 k fI fd ps sp) (hr : Room (k + 1) X.A) (hb : Binds X.K fd ps []) (I : Inv X pins σ H s) (r : Vals vs us) (hz : vs.length ≤ 1000)
    (h : ∀ a, H a = none → sp (.ref a :: vs) (upd H a (exo a C none)) (fun v H2 => v = .non ∧ Q (.ref a) H2) E0) :
    wpAny (model X.prog X.w) X.A (call (.ref C) us) (EP X pins σ Q) X.xe s := by
  obtain ⟨_, _, _, _, _, _, _, _, _, _, _, _, _, _, _, _, hC, hT⟩ := PySem.W.excInit_of I.kIn T.ini
  obtain ⟨hp, g, d, t, os⟩ := s
  have big : hp.objs.size ≤ hp.objs.size + 1 := Nat.le_succ _
  have hq := h (hp.objs.size + 1) (I.hok.fresh big)
  have up : ∀ b o, hp.get? b = some o → ((hp.push (PySem.W.kdv_tup us)).push (PySem.HandSPX.excO C hp.objs.size)).get? b = some o := fun b o z => Heap.get?_push_of_some _ (Heap.get?_push_of_some _ z)
  have new : ((hp.push (PySem.W.kdv_tup us)).push (PySem.HandSPX.excO C hp.objs.size)).get? (hp.objs.size + 1) = some (PySem.HandSPX.excO C hp.objs.size) := by heap_get
  have I2 := I.laid (t' := t) (a := hp.objs.size + 1) (o := exo (hp.objs.size + 1) C none) up big (exo_ok new)
  have r2 : Vals (V.ref (hp.objs.size + 1) :: vs) (Value.ref (hp.objs.size + 1) :: us) := .cons rfl r
  have hl : (Value.ref (hp.objs.size + 1) :: us ++ []).length = ps.length := by
    rw [List.append_nil, ← r2.length, G.len _ _ _ _ hq]
  have hus : us.length ≤ sizeLine := by
    rw [← Paired.length r, sizeLine_eq]
    omega
  have bnd := hb _ (Value.ref (hp.objs.size + 1) :: us) I2.kIn hl
  rw [List.append_nil] at bnd
  refine wpAny_call (PySem.HandSPX.call_own FB hT hC (PySem.W.looks_findIn I.kIn T.own) (fun self => PySem.W.bind_fn I.kIn self T.fun_) hus (codeAny_mono (G.run _ X.stack _ _ ⟨_, []⟩ _ _ _ E0 (hr.make C us []) (I2.env0.make C us []) bnd r2 hq) fun r s' z => ?_))
  cases r with
  | error er => exact z.elim
  | ok fl =>
    cases fl with
    | ret u =>
      obtain ⟨v, H', I3, rv, ev, q3⟩ := I2.after z
      subst ev
      exact ⟨rv, ⟨V.ref (hp.objs.size + 1), H', I3, rfl, q3⟩⟩
    | next => exact z.elim
    | brk => exact z.elim
    | cont => exact z.elim
/-- C(kn=y) -/
theorem xmk_kw {Q : VK} {kn : Str} {k : Nat} {fd : FuncData} {ps : List Str} {sp : Sp} (FB : ExcBaseFacts B newId initId bmB) (T : ExK X.K C fI bmB newId)
    (G : FnOk X.prog X.w X.K X.mg X.base CX0 k fI fd ps sp) (hr : Room (k + 1) X.A) (hb : ∀ (s : Shared) (v w : Value), BindsTo s fd ⟨[v], [(kn, w)]⟩ (ps.zip [v, w])) (I : Inv X pins σ H s) (r : RelV y u)
    (h : ∀ a, H a = none → sp [.ref a, y] (upd H a (exo a C none)) (fun v H2 => v = .non ∧ Q (.ref a) H2) E0) :
    wpAny (model X.prog X.w) X.A (call (.ref C) [] [(kn, u)]) (EP X pins σ Q) X.xe s := by
  obtain ⟨_, _, _, _, _, _, _, _, _, _, _, _, _, _, _, _, hC, hT⟩ := PySem.W.excInit_of I.kIn T.ini
  obtain ⟨hp, g, d, t, os⟩ := s
  have big : hp.objs.size ≤ hp.objs.size + 1 := Nat.le_succ _
  have hq := h (hp.objs.size + 1) (I.hok.fresh big)
  have up : ∀ b o, hp.get? b = some o → ((hp.push (PySem.W.kdv_tup [])).push (PySem.HandSPX.excO C hp.objs.size)).get? b = some o := fun b o z => Heap.get?_push_of_some _ (Heap.get?_push_of_some _ z)
  have new : ((hp.push (PySem.W.kdv_tup [])).push (PySem.HandSPX.excO C hp.objs.size)).get? (hp.objs.size + 1) = some (PySem.HandSPX.excO C hp.objs.size) := by heap_get
  have I2 := I.laid (t' := t) (a := hp.objs.size + 1) (o := exo (hp.objs.size + 1) C none) up big (exo_ok new)
  have r2 : Vals [V.ref (hp.objs.size + 1), y] [Value.ref (hp.objs.size + 1), u] := .cons rfl (.cons r .nil)
  refine wpAny_call (PySem.EVX.kw_call FB hT hC (PySem.W.looks_findIn I.kIn T.own) (fun self => PySem.W.bind_fn I.kIn self T.fun_) (codeAny_mono (G.run _ X.stack _ _ ⟨[_], [(kn, u)]⟩ [_, u] _ _ E0 (hr.make C [] [(kn, u)]) (I2.env0.make C [] [(kn, u)]) (hb _ _ _) r2 hq) fun r s' z => ?_))
  cases r with
  | error er => exact z.elim
  | ok fl =>
    cases fl with
    | ret u =>
      obtain ⟨v, H', I3, rv, ev, q3⟩ := I2.after z
      subst ev
      exact ⟨rv, ⟨V.ref (hp.objs.size + 1), H', I3, rfl, q3⟩⟩
    | next => exact z.elim
    | brk => exact z.elim
    | cont => exact z.elim
end
end L2

set_option Elab.async false
set_option linter.all false
set_option maxRecDepth 100000
set_option maxHeartbeats 4000000
namespace L2
open PySem PySem.Spec PyProof.Rows
/-- self.f = e, self an exception of the class at C without fields -/
def tXst (C : Addr) (f : Str) (to te : TE) : TS := fun D σ H => te σ H fun y H1 => to σ H1 fun x H2 =>
  ∃ a : Addr, x = .ref a ∧ H2 a = some (exo a C none) ∧ ∀ dx, H2 dx = none → dx ≠ a → D.nx σ (upd (upd H2 dx (exd dx [(f, y)])) a (exo a C (some dx)))
/-- Base.__init__(self, ..) -/
def tXin (C : Addr) (ta : TA) : TE := fun σ H Q => ta σ H fun vs H1 => ∃ (a : Addr) (ws : List V), vs = .ref a :: ws ∧ ws.length ≤ 1000 ∧ H1 a = some (exo a C none) ∧ Q .non H1
/-- C(..), C(k=..) -/
structure XmkP (C : Addr) (sp : Sp) (ta : TA) (σ : St) (H : Hp) (Q : VK) : Prop where
  run : ta σ H fun vs H1 => vs.length ≤ 1000 ∧ ∀ a, H1 a = none → sp (.ref a :: vs) (upd H1 a (exo a C none)) (fun v H2 => v = .non ∧ Q (.ref a) H2) E0
structure XmkKP (C : Addr) (sp : Sp) (ta : TA) (σ : St) (H : Hp) (Q : VK) : Prop where
  run : ta σ H fun vs H1 => vs.length = 1 ∧ ∀ a, H1 a = none → sp (.ref a :: vs) (upd H1 a (exo a C none)) (fun v H2 => v = .non ∧ Q (.ref a) H2) E0
def tXmk (C : Addr) (sp : Sp) (ta : TA) : TE := XmkP C sp ta
def tXmkK (C : Addr) (sp : Sp) (ta : TA) : TE := XmkKP C sp ta
/-- e.f, e an exception -/
structure XgetP (C : Addr) (f : Str) (te : TE) (σ : St) (H : Hp) (Q : VK) : Prop where
  run : te σ H fun x H1 => ∃ (a dx : Addr) (fs : List (Str × V)) (v : V), x = .ref a ∧ H1 a = some (exo a C (some dx)) ∧ H1 dx = some (exd dx fs) ∧ fs.lookup f = some v ∧ Q v H1
def tXget (C : Addr) (f : Str) (te : TE) : TE := XgetP C f te
section
variable {X : Cx} {o e : Expr} {es : List Expr} {to te : TE} {ta : TA} {f x : Str} {p p' p1 p2 pos kpos : Pos} {C fI : Addr}
variable {bmB : List Value} {newId B initId : String} {k : Nat} {fd : FuncData} {ps : List Str} {sp : Sp}
theorem ps_xst (SF : StoreFacts B bmB "object.__setattr__" "object") (T : ExK X.K C fI bmB newId) (hno : PySem.W.findIn X.K (.ref C) f = some none) (ho : PE X o to) (he : PE X e te)
    (sw : swapsWith e (some (.Attribute o f p')) pos.line X.env = pure false := by rfl) : PS X (.Assign [.Attribute o f p'] e pos) (tXst C f to te) := by
  refine ⟨fun pins s σ H D I h => plainObj_wpAny_Assign_Attribute (thn (he.run pins s σ H _ I h) fun v s1 hv => ?_) sw⟩
  obtain ⟨y, H1, I1, ry, q1⟩ := hv
  refine thn (ho.run pins s1 σ H1 _ I1 q1) fun u s2 hu => ?_
  obtain ⟨x, H2, I2, rx, a, ex, ea, q⟩ := hu
  subst ex
  obtain rfl : u = Value.ref a := rx
  exact xst_run SF T I2 ea hno ry fun dx s' n ne J => ⟨σ, _, J, q dx n ne⟩
theorem pe_xin {pl : Sem Bool} (FB : ExcBaseFacts B newId initId bmB) (T : ExK X.K C fI bmB newId) (hg : Gl X x) (hm : X.mg x = none) (bt : bootBuiltins x = some (.type B)) (ty : typeOf (.type B) = pure (.type "type")) (st : Manifest.isStub B = false)
    (fc : PySem.W.findCls X.K (.type B) (.type "type") "__init__" = some (.val (.builtin initId))) (ha : PA X (e :: es) ta)
    (hd : PySem.W.handedIn (.builtin initId) = true := by rfl) (n1 : x ≠ "__name__" := by decide) (n2 : (x == ("__debug__" : Str)) = false := by decide)
    (hc : eval (.Call (.Attribute (.Name x p1) "__init__" p2) (e :: es) [] pos) X.env = (do
      let ov ← eval (.Name x p1) X.env
      standAt p2.atName
      let (f, first) ← holding [ov] (getMethod ov "__init__" pl)
      callWith pos f first (backTo pos (starEach (e :: es) X.env)) (backToKw pos (keywordEach [] X.env))) := by rfl)
    (he : starEach (e :: es) X.env = (false, eval e X.env) :: starEach es X.env := by rfl) (np : (backTo pos (starEach es X.env)).any (·.1) = false := by rfl) :
    PE X (.Call (.Attribute (.Name x p1) "__init__" p2) (e :: es) [] pos) (tXin C ta) := by
  refine ⟨fun pins s σ H Q I h => PySem.W.methodCall_KW (ld_blt I hg hm bt ?_ n1 n2) hc⟩
  obtain ⟨m, fr⟩ := I.fr
  refine PySem.W.method_type fr I.ok.mod.kin ty st fc hd ?_
  show wpAny _ _ (callWith pos (Value.builtin initId) [] (backTo pos (starEach (e :: es) X.env)) []) _ _ _
  refine PyProof.Rows.callWith_method1 (thn (ha.run pos pins _ σ H _ (I.tok _) h) fun us s1 hu => ?_) he np
  obtain ⟨vs, H1, I1, r1, a, ws, ev, hl, ea, q⟩ := hu
  subst ev
  cases r1 with
  | @cons _ u0 _ ur ra rr =>
    obtain rfl : u0 = Value.ref a := ra
    have hz : ur.length ≤ sizeLine := by
      rw [← Paired.length rr, sizeLine_eq]
      omega
    exact xinit_run FB T I1 ea hz fun s' J => ⟨.non, H1, J, rfl, q⟩
theorem pe_xmk (FB : ExcBaseFacts B newId initId bmB) (T : ExK X.K C fI bmB newId) (G : FnOk X.prog X.w X.K X.mg X.base CX0 k fI fd ps sp) (hr : Room (k + 1) X.A) (hb : Binds X.K fd ps []) (hg : Gl X x) (hm : X.mg x = some (.ref C)) (ha : PA X (e :: es) ta)
    (nd : (x == ("__debug__" : Str)) = false := by decide) (he : starEach (e :: es) X.env = (false, eval e X.env) :: starEach es X.env := by rfl) (np : (backTo pos (starEach es X.env)).any (·.1) = false := by rfl) :
    PE X (.Call (.Name x p) (e :: es) [] pos) (tXmk C sp ta) := by
  refine ⟨fun pins s σ H Q I h => wpAny_Call_Name_kw (ld_glob I hg hm ?_ nd)⟩
  refine PySem.W.callWith_K (h₀ := X.base) I.ok.mod.kin T.kep (thn (ha.run pos pins s σ H _ I h.run) fun us s1 hu => ?_) he np
  obtain ⟨vs, H1, I1, r1, hz, q⟩ := hu
  exact ⟨I1.kIn, xmk_run FB T G hr hb I1 r1 hz q⟩
theorem pe_xmk0 (FB : ExcBaseFacts B newId initId bmB) (T : ExK X.K C fI bmB newId) (G : FnOk X.prog X.w X.K X.mg X.base CX0 k fI fd ps sp) (hr : Room (k + 1) X.A) (hb : Binds X.K fd ps []) (hg : Gl X x) (hm : X.mg x = some (.ref C))
    (nd : (x == ("__debug__" : Str)) = false := by decide) : PE X (.Call (.Name x p) [] [] pos) (tXmk C sp tNil) := by
  refine ⟨fun pins s σ H Q I h => wpAny_Call_Name_kw (ld_glob I hg hm ?_ nd)⟩
  exact PySem.W.callWith_K0 I.kIn T.kep (xmk_run (us := []) FB T G hr hb I .nil h.run.1 h.run.2)
theorem pe_xmkK {kn : Str} (FB : ExcBaseFacts B newId initId bmB) (T : ExK X.K C fI bmB newId) (G : FnOk X.prog X.w X.K X.mg X.base CX0 k fI fd ps sp) (hr : Room (k + 1) X.A) (hb : ∀ (s : Shared) (v w : Value), BindsTo s fd ⟨[v], [(kn, w)]⟩ (ps.zip [v, w]))
    (hg : Gl X x) (hm : X.mg x = some (.ref C)) (ha : PE X e te) (nd : (x == ("__debug__" : Str)) = false := by decide)
    (al : (backToKw pos (keywordEach [⟨some kn, e, kpos⟩] X.env)).all (·.1.isSome) = true := by rfl) (ks : (backToKw pos (keywordEach [⟨some kn, e, kpos⟩] X.env)).filterMap (·.1) = [kn] := by rfl)
    (np : ((backTo pos (starEach [] X.env)).any (·.1) || (backToKw pos (keywordEach [⟨some kn, e, kpos⟩] X.env)).any (·.1.isNone)) = false := by rfl) :
    PE X (.Call (.Name x p) [] [⟨some kn, e, kpos⟩] pos) (tXmkK C sp (tCons te tNil)) := by
  refine ⟨fun pins s σ H Q I h => wpAny_Call_Name_kw (ld_glob I hg hm ?_ nd)⟩
  refine PySem.W.callWith_KW0 (h₀ := X.base) I.ok.mod.kin T.kep al ?_ np
  refine thn ((pk_cons (nm := some kn) (kpos := kpos) ha pk_nil).run pos pins s σ H _ I h.run) fun ws s2 hw => ?_
  obtain ⟨zs, H2, I2, rz, hz, q⟩ := hw
  refine ⟨I2.kIn, ?_⟩
  rw [ks]
  match zs, ws, rz, hz, q with
  | [z], [w], .cons r1 .nil, _, q => exact xmk_kw FB T G hr hb I2 r1 q
theorem pe_xget (T : ExK X.K C fI bmB newId) (hno : PySem.W.findIn X.K (.ref C) f = some none) (he : PE X e te) (hb : attributeBase e f X.env (eval e X.env) = eval e X.env := by rfl) :
    PE X (.Attribute e f pos) (tXget C f te) := by
  refine ⟨fun pins s σ H Q I h => attr_of hb (thn (he.run pins s σ H _ I h.run) fun u s1 hu => ?_)⟩
  obtain ⟨x, H1, I1, rx, a, dx, fs, v, ex, ea, ed, hl, q⟩ := hu
  subst ex
  obtain rfl : u = Value.ref a := rx
  obtain ⟨t1, at_⟩ := exo_at I1.hok ea
  obtain ⟨mA, ns, rel⟩ := exd_at I1.hok ed
  obtain ⟨od, at2, look⟩ := lookIn_ns ns
  obtain ⟨u, hu, ru⟩ := RelO.some_of (v := v) (o := mA f) (by rw [← hl]; exact rel f)
  have J : PySem.W.InstAt s1.heap a _ C (some od) := ⟨at_, rfl, rfl, at2⟩
  exact HandSPX.exc_get I1.kIn J T.isc.hg T.isc.hk T.isc.hs (PySem.W.findObj_own T.isc.hd hno rfl (by rw [look, hu])) (handed_of ru) ⟨v, H1, I1.tok _, ru, q⟩
/-- isinstance(e, c), e an exception of the class at C, with a field or without -/
def rXis (K : PySem.W.Frag) : List V → Hp → VK → Prop := fun xs H Q => ∃ (a C : Addr) (d : Option Addr) (c : V) (u : Value) (b : Bool),
  xs = [.ref a, c] ∧ ClsV c u ∧ H a = some (exo a C d) ∧ (∀ dx, d = some dx → ∃ fs, H dx = some (exd dx fs)) ∧ ExcC K C ∧ PySem.W.kitOne K (.ref C) u = some b ∧ Q (.bl b) H
def rXisT (K : PySem.W.Frag) : List V → Hp → VK → Prop := fun xs H Q => ∃ (a C : Addr) (d : Option Addr) (tp : Addr) (cs : List V) (us : List Value) (b : Bool),
  xs = [.ref a, .ref tp] ∧ H tp = some (.tup cs) ∧ Paired ClsV cs us ∧ H a = some (exo a C d) ∧ (∀ dx, d = some dx → ∃ fs, H dx = some (exd dx fs)) ∧ ExcC K C ∧ PySem.W.kitAny K (.ref C) us = some b ∧ Q (.bl b) H
theorem xkit {pins : List (Addr × Obj)} {σ : St} {H : Hp} {s : Shared} {a C : Addr} {d : Option Addr} (I : Inv X pins σ H s) (T : ExcC X.K C) (ea : H a = some (exo a C d))
    (ed : ∀ dx, d = some dx → ∃ fs, H dx = some (exd dx fs)) : ∃ P : Heap → Prop, PySem.W.KitX X.K (.ref a) (.ref C) P ∧ P s.heap := by
  obtain ⟨t1, at_⟩ := exo_at I.hok ea
  have cl : (PySem.W.clsIn X.K C).isSome = true := by
    obtain ⟨cd, hc, _⟩ := PySem.W.any_some T.hd
    rw [hc]
    rfl
  cases d with
  | none => exact ⟨_, PySem.W.kitx_exc (od := none) cl T.hg T.hk T.hs T.ha T.hn T.ht T.hm, ⟨at_, rfl, rfl, trivial⟩⟩
  | some dx =>
    obtain ⟨fs, e2⟩ := ed dx rfl
    obtain ⟨mA, ns, _⟩ := exd_at I.hok e2
    obtain ⟨od, at2, _⟩ := lookIn_ns ns
    exact ⟨_, PySem.W.kitx_exc (od := some od) cl T.hg T.hk T.hs T.ha T.hn T.ht T.hm, ⟨at_, rfl, rfl, at2⟩⟩
theorem call_xis : CallR X (.builtin "isinstance") (rXis X.K) := by
  intro pins s σ H xs us Q I r h
  obtain ⟨a, C, d, c, u, b, rfl, hc, ea, ed, T, e, q⟩ := h
  obtain ⟨u1, u2, rfl, r1, r2⟩ := vals2 r
  obtain rfl := hc.eq r2
  obtain rfl : u1 = Value.ref a := r1
  obtain ⟨P, Z, z⟩ := xkit I T ea ed
  exact PySem.W.kia_one Z I.kIn z e (fun q => nomatch q) fun tk => ⟨.bl b, H, I.tok tk, rfl, q⟩
theorem call_xisT : CallR X (.builtin "isinstance") (rXisT X.K) := by
  intro pins s σ H xs us Q I r h
  obtain ⟨a, C, d, tp, cs, ws, b, rfl, hT, hc, ea, ed, T, e, q⟩ := h
  obtain ⟨u1, u2, rfl, r1, r2⟩ := vals2 r
  obtain rfl : u1 = Value.ref a := r1
  obtain rfl : u2 = Value.ref tp := r2
  obtain ⟨P, Z, z⟩ := xkit I T ea ed
  obtain ⟨_, its, rv, o, h1, h2, n, h3⟩ := (show ObjOk X.prog X.w H s.heap tp (.tup cs) from I.hok tp _ hT)
  obtain rfl := ClsV.all hc rv
  obtain ⟨oc, od, dt, sl⟩ := o
  dsimp only at h2 h3
  subst h2 h3
  exact PySem.W.kia_tup Z I.kIn z h1 e (fun q => nomatch q) fun tk => ⟨.bl b, H, I.tok tk, rfl, q⟩
end
end L2
set_option Elab.async false
set_option linter.all false
set_option maxRecDepth 100000
set_option maxHeartbeats 4000000
namespace PySem
theorem HandSPX.FlyingZ.grow {base : Heap} {l : List Env} {e : Addr} {Z : Obj → Prop} {h h' : Heap} (f : HandSPX.FlyingZ base l e Z h) (k : ∀ b o, h.get? b = some o → h'.get? b = some o) : HandSPX.FlyingZ base l e Z h' := by
  obtain ⟨f1, f2, f3, oe, vs, T, oT, ts, he, hz, hd, h1, hn, hT, gT, dT, h3⟩ := f
  exact ⟨fun b o z => k b o (f1 b o z), f2, Heap.FunFrames.of_keeps (fun b o z _ => ⟨o, k b o z, rfl⟩) f3, oe, vs, T, oT, ts, k _ _ he, hz, hd, h1, hn, hT, k _ _ gT, dT, h3⟩
end PySem
namespace L2
open PySem PySem.Spec PyProof.Rows
/-- at a: an exception that was caught -/
def exk (a : Addr) (cls : Value) (d : Option Addr) : HO := .ext fun h => ∃ (o : Obj) (vs : Array Value), h.get? a = some o ∧ Zc cls d o ∧ o.data = .fields vs
theorem exk_ok {P : Program} {w : World} {H : Hp} {h : Heap} {a : Addr} {cls : Value} {d : Option Addr} {o : Obj} {vs : Array Value} (he : h.get? a = some o) (hz : Zc cls d o) (hd : o.data = .fields vs) : ObjOk P w H h a (exk a cls d) :=
  ⟨⟨o, vs, he, hz, hd⟩, ⟨_, he⟩, fun h1 h2 z k => by
    obtain ⟨o, vs, q, z1, z2⟩ := z
    exact ⟨o, vs, k _ q, z1, z2⟩⟩
theorem exk_at {P : Program} {w : World} {H : Hp} {h : Heap} {a : Addr} {cls : Value} {d : Option Addr} (hok : HOk P w H h) (he : H a = some (exk a cls d)) : ∃ (o : Obj) (vs : Array Value), h.get? a = some o ∧ Zc cls d o ∧ o.data = .fields vs := by
  have x : ObjOk P w H h a (.ext fun h => ∃ (o : Obj) (vs : Array Value), h.get? a = some o ∧ Zc cls d o ∧ o.data = .fields vs) := hok a _ he
  exact x.1
section
variable {X : Cx} {pins : List (Addr × Obj)} {σ : St} {H : Hp} {s : Shared}
/-- an exception that stands untold of is told of -/
theorem Inv.track {a : Addr} {o : Obj} {vs : Array Value} {cls : Value} {d : Option Addr} (I : Inv X pins σ H s) (ha : s.heap.get? a = some o) (hd : o.data = .fields vs) (hz : Zc cls d o) (na : H a = none) (nL : a ≠ X.env.locals)
    (n0 : X.s_0.heap.get? a = none) (np : ∀ p ∈ X.pn ++ pins, p.1 ≠ a) : Inv X pins σ (upd H a (exk a cls d)) s :=
  ⟨I.ok, I.os, I.bare,
    ⟨I.base.keep, I.base.slot, fun b o e n hx => by
      rw [upd_ne (fun z => by rw [z, n0] at e; cases e)]
      exact I.base.free b o e n hx, I.base.there, fun b xs e => by
      have q := I.base.tups b xs e
      rw [upd_ne (ne_of_none q na)]
      exact q, fun b o v e => by
      have q := I.base.frzs b o v e
      rw [upd_ne (ne_of_none q na)]
      exact q, fun b ps e => by
      obtain ⟨l, q⟩ := I.base.tbls b ps e
      exact ⟨l, by rw [upd_ne (ne_of_none q na)]; exact q⟩⟩,
    I.loc, I.cell, by rw [upd_ne nL.symm]; exact I.free, fun x c e => by
      have q := I.freeC x c e
      have ne : c ≠ a := fun z => by
        obtain ⟨v, oc, e1, e2⟩ := I.cell x c e
        rw [z, ha] at e1
        have e3 := Option.some.inj e1
        rw [← e3, hd] at e2
        exact Data.noConfusion e2
      rw [upd_ne ne]
      exact q,
    fun p hp => by
      obtain ⟨p1, p2, p3⟩ := I.pin p hp
      exact ⟨p1, by rw [upd_ne (np p hp)]; exact p2, p3⟩,
    fun b u e => by
      by_cases hb : b = a
      · subst hb
        rw [upd_same] at e
        cases e
        exact exk_ok ha hz hd
      · rw [upd_ne hb] at e
        exact (I.hok b u e).stay (fun c v hc z => z) (fun c hc => by rw [upd_ne (ne_of_none hc na)]; exact hc) (fun c xs hc => by rw [upd_ne (ne_of_none hc na)]; exact hc), I.len⟩
end
/-! ### raise C(e, ..), C with an own __init__ -/
section
variable {X : Cx} {e : Expr} {es : List Expr} {ta : TA} {x : Str} {p pos : Pos} {C fI : Addr}
variable {bmB : List Value} {newId B initId : String} {k : Nat} {fd : FuncData} {ps : List Str} {sp : Sp}
theorem pmk_bex (FB : ExcBaseFacts B newId initId bmB) (T : ExK X.K C fI bmB newId) (tyC : PySem.W.typeIn X.K (.ref C) = some (.type "type")) (F1 : FnOk X.prog X.w X.K X.mg X.base CX0 k fI fd ps sp) (hr : Room (k + 1) X.A) (hb : Binds X.K fd ps []) (hg : Gl X x) (hm : X.mg x = some (.ref C)) (ha : PA X (e :: es) ta)
    (hdb : (x == ("__debug__" : Str)) = false := by decide) (he : starEach (e :: es) X.env = (false, eval e X.env) :: starEach es X.env := by rfl) (hpl : (backTo pos (starEach es X.env)).any (·.1) = false := by rfl) :
    PMk X (.Call (.Name x p) (e :: es) [] pos) (tMkO C sp [] ta) := by
  intro pins s σ H Q I h
  refine wpAny_Call_Name_kw (ld_glob I hg hm ?_ hdb)
  refine PySem.W.callWith_K (h₀ := X.base) I.ok.mod.kin T.kep (thn (ha.run pos pins s σ H _ I h) fun us s1 ⟨vs, H1, I1, r1, hz, q1⟩ => ⟨I1.kIn, ?_⟩) he hpl
  show wpAny _ _ (call (.ref C) us) _ _ _
  obtain ⟨_, _, _, _, _, _, _, _, _, _, _, _, _, _, _, _, hC, hT⟩ := PySem.W.excInit_of I1.kIn T.ini
  obtain ⟨hp, g, dr, tk, os⟩ := s1
  have hsz : hp.objs.size ≤ hp.objs.size + 1 := Nat.le_succ _
  have hn : H1 (hp.objs.size + 1) = none := I1.hok.fresh hsz
  have hq := q1 (hp.objs.size + 1) hn
  have kk : ∀ b o, hp.get? b = some o → ((hp.push (PySem.W.kdv_tup us)).push (PySem.HandSPX.excO C hp.objs.size)).get? b = some o := fun b o e => Heap.get?_push_of_some _ (Heap.get?_push_of_some _ e)
  have hget : ((hp.push (PySem.W.kdv_tup us)).push (PySem.HandSPX.excO C hp.objs.size)).get? (hp.objs.size + 1) = some (PySem.HandSPX.excO C hp.objs.size) := by heap_get
  have I2 : Inv X pins σ (upd H1 (hp.objs.size + 1) (exo (hp.objs.size + 1) C none)) ⟨(hp.push (PySem.W.kdv_tup us)).push (PySem.HandSPX.excO C hp.objs.size), g, dr, tk, os⟩ :=
    I1.laid (t' := tk) (a := hp.objs.size + 1) (o := exo (hp.objs.size + 1) C none) (h' := (hp.push (PySem.W.kdv_tup us)).push (PySem.HandSPX.excO C hp.objs.size)) kk hsz (exo_ok hget)
  have r2 : Vals (V.ref (hp.objs.size + 1) :: (vs ++ [])) (Value.ref (hp.objs.size + 1) :: us ++ []) := by
    rw [List.append_nil, List.append_nil]
    exact .cons rfl r1
  have hl : (Value.ref (hp.objs.size + 1) :: us ++ []).length = ps.length := by
    have e := r2.length
    rw [F1.len _ _ _ _ hq] at e
    exact e.symm
  have hus : us.length ≤ sizeLine := by
    rw [← Paired.length r1, sizeLine_eq]
    omega
  have bnd := hb _ (Value.ref (hp.objs.size + 1) :: us) I2.kIn hl
  rw [List.append_nil] at bnd
  have r3 : Vals (V.ref (hp.objs.size + 1) :: (vs ++ [])) (Value.ref (hp.objs.size + 1) :: us) := by
    rw [List.append_nil]
    exact .cons rfl r1
  refine wpAny_call (PySem.HandSPX.call_own FB hT hC (PySem.W.looks_findIn I1.kIn T.own) (fun self => PySem.W.bind_fn I1.kIn self T.fun_) hus
    (codeAny_mono (F1.run _ X.stack _ _ ⟨Value.ref (hp.objs.size + 1) :: us, []⟩ (Value.ref (hp.objs.size + 1) :: us) _ _ (fun _ _ _ => False) (hr.make C us []) (I2.env0.make C us []) bnd r3 hq) fun r s' hq' => ?_))
  cases r with
  | error er => exact hq'.elim
  | ok fl =>
    cases fl with
    | ret u =>
      obtain ⟨v, H2, os2, bare2, un2, hok2, rv, ev, d, fs, ea, ed, hd1, q2⟩ := hq'
      subst ev
      obtain ⟨h2, g2, d2, t2, os'⟩ := s'
      exact ⟨rv, mk_end (raises_own T.isc.hs tyC) I1 hsz kk un2 hok2 os2 bare2 ea ed hd1 q2⟩
    | next => exact False.elim hq'
    | brk => exact False.elim hq'
    | cont => exact False.elim hq'
end
/-! ### try: .. except t as n: suite, and the exception stays -/
/-- the test of an except clause, by what it matches -/
def Tst (X : Cx) (t : Expr) (f : Value → Option Bool) : Prop := ∀ (a : Addr) (q : List (Addr × Obj)) (pins : List (Addr × Obj)) (σ : St) (H : Hp) (s : Shared) (cls : Value) (b : Bool) (Q : Bool → Shared → Prop) (E : Value → Shared → Prop),
  Inv (X.suite a q) pins σ H s → PySem.W.Looks (model X.prog X.w) s.heap (typeOf (.ref a)) cls → f cls = some b → (∀ hh : Heap, (∀ b o, s.heap.get? b = some o → hh.get? b = some o) → Q b { s with heap := hh }) →
  wpAny (model X.prog X.w) (X.A.mark (some (.ref a))) (eval t X.env) (fun c s₁ => wpAny (model X.prog X.w) (X.A.mark (some (.ref a))) (excMatches (.ref a) c) Q E s₁) E s
def endK (D : Ends) (i : Nat) (a : Addr) (cls : Value) (d : Option Addr) : Ends :=
  { nx := fun σ H => D.nx (σ.set i none) (upd H a (exk a cls d)), rt := fun v H => D.rt v (upd H a (exk a cls d)), bk := fun σ H => D.bk (σ.set i none) (upd H a (exk a cls d)), ct := fun σ H => D.ct (σ.set i none) (upd H a (exk a cls d)) }
def wKeep (f : Value → Option Bool) (i : Nat) (ts : Addr → Value → Option Addr → TS) (D : Ends) : WX := fun cls d σ H =>
  f cls = some true ∧ ∀ a, H a = none → ts a cls d (endK D i a cls d) (σ.set i (some (.ref a))) H
section
variable {X : Cx} {n : Str} {i : Nat} {body suite : List Stmt} {b₀ : Stmt} {t : Expr} {pos pos' np np2 tp : Pos} {tb : WX → TS} {ts : Addr → Value → Option Addr → TS} {f : Value → Option Bool}
theorem tst_one {x : Str} {c : Value} (hc : Names X x c) : Tst X (.Name x np) (fun cls => PySem.W.exmOne X.K cls c) := by
  intro a q pins σ H s cls b Q E I LT hb h
  have LM := PySem.W.exm_one (M := model X.prog X.w) I.kIn LT hb
  have test : ∀ {Q : Value → Shared → Prop} {E : Value → Shared → Prop}, Q c s → wpAny (model X.prog X.w) (X.A.mark (some (.ref a))) (eval (.Name x np) X.env) Q E s := fun {Q E} q => by
    obtain ⟨hg, hdbg, hm | ⟨hm, hv, hnn⟩⟩ := hc
    · exact ld_glob I hg hm q hdbg
    · exact ld_blt I hg hm hv q hnn hdbg
  exact test (LM.here (h s.heap fun _ _ z => z))
theorem tst_two {x y : Str} {c1 c2 : Value} {k : Nat} (hx : Names X x c1) (hy : Names X y c2) (e1 : starEach [.Name x np, .Name y np2] X.env = (false, eval (.Name x np) X.env) :: starEach [.Name y np2] X.env := by rfl) (e2 : starEach [.Name y np2] X.env = (false, eval (.Name y np2) X.env) :: starEach [] X.env := by rfl) :
    Tst X (.Tuple [.Name x np, .Name y np2] k tp) (fun cls => PySem.W.exmAny X.K cls [c1, c2]) := by
  intro a q pins σ H s cls b Q E I LT hb h
  have test : ∀ {x : Str} {c : Value} {np : Pos} (hc : Names X x c) {Q : Value → Shared → Prop} {E : Value → Shared → Prop}, Q c s → wpAny (model X.prog X.w) (X.A.mark (some (.ref a))) (eval (.Name x np) X.env) Q E s := fun {x c np} hc {Q E} q => by
    obtain ⟨hg, hdbg, hm | ⟨hm, hv, hnn⟩⟩ := hc
    · exact ld_glob I hg hm q hdbg
    · exact ld_blt I hg hm hv q hnn hdbg
  refine wpAny_Tuple_spliced ?_
  show wpAny _ _ (spliced (backTo tp (starEach [.Name x np, .Name y np2] X.env))) _ _ s
  rw [e1]
  refine Calls.spliced_cons (test hx ?_)
  show wpAny _ _ (spliced (backTo tp (starEach [.Name y np2] X.env))) _ _ s
  rw [e2]
  refine Calls.spliced_cons (test hy ?_)
  refine Calls.spliced_nil ⟨by show 2 ≤ sizeLine; decide, ?_⟩
  have k0 : ∀ b o, s.heap.get? b = some o → (s.heap.push { cls := .type "tuple", data := .seq [c1, c2].toArray }).get? b = some o := fun b o z => Heap.get?_push_of_some _ z
  have LM := PySem.W.exm_tup2 (M := model X.prog X.w) (K := X.K) (h := s.heap.push { cls := .type "tuple", data := .seq [c1, c2].toArray }) (tp := s.heap.objs.size) (I.kIn.keeps k0) (LT.keeps k0) (Heap.get?_push_size _ rfl) hb
  exact LM.here (h _ k0)
theorem ps_try_keep (hs : X.stack = X.env :: X.outer) (hf : X.env.frame = some X.env.locals) (hN : X.N.Nodup) (hi : X.N[i]? = some n) (hln : X.env.kindOf n = some .local) (hex : X.ex = []) (ht : Tst X t f)
    (hb : ∀ (W : WX) (pn : List (Addr × Obj)) (xe : Value → Shared → Prop), Takes (X.tr pn xe) W → PassesOwn (model X.prog X.w) X.A X.env xe → PSs (X.tr pn xe) body (tb W))
    (hsu : ∀ (a : Addr) (oe : Obj) (cls : Value) (d : Option Addr) (pn : List (Addr × Obj)), Zc cls d oe → (∃ vs, oe.data = .fields vs) → PSs (X.suite a ((a, oe) :: pn)) (b₀ :: suite) (ts a cls d)) :
    PS X (.Try body [.ExceptHandler (some t) (some n) (b₀ :: suite) pos'] [] [] pos) (fun D σ H => tb (wKeep f i ts D) D σ H) := by
  refine ⟨fun pins s σ H D I h => ?_⟩
  have ok := I.ok
  have hfr : X.A.frames = some (X.env :: X.outer) := by rw [ok.frames, hs]
  have hloc : Loc X.env.scope n := .inl hln
  refine wpAny_Try_except ?_
  refine wpAny_mono ((hb (wKeep f i ts D) (X.pn ++ pins) (fun e s₁ => wpAny (model X.prog X.w) X.A (noteFrame e X.env) (fun _ s₂ => wpAny (model X.prog X.w) X.A (setFlight e none) (fun _ s₃ =>
    wpAny (model X.prog X.w) X.A (handleBy e X.env [.ExceptHandler (some t) (some n) (b₀ :: suite) pos']) (SP X pins D) X.xe s₃) X.xe s₂) X.xe s₁) (fun u s' xx => ?_) PassesOwn.looking).run [] s σ H D (I.toTry _) h) (fun f s1 hsp => ?_) (fun e s1 he => he)
  · -- the catch
    obtain ⟨a, B, sI, pins', σ', H', cls, d, rfl, J', nb, up, sky, na, os, ag, hb1, hyes⟩ := xx
    have J : Inv X pins σ' H' sI := J'.ofTry ok
    have sky' : Sky B (X.env :: X.outer) a (Zc cls d) X.env.locals s'.heap := by rw [← hs]; exact sky
    show wpAny (model X.prog X.w) X.A (noteFrame (.ref a) X.env) _ _ _
    refine Sky.land Zc.steady hfr hf sky' fun h3 fl3 up3 => ?_
    have J3 : Inv X pins σ' H' { s' with heap := h3 } := J.landed nb fl3.1 (up.trans up3) os ag
    obtain ⟨oe3, vs3, he3, hz3, hd3⟩ := fl3.there
    have notFr : ∀ {h : Heap} {o : Obj} {vs : Array Value}, h.FunFrames B (X.env :: X.outer) → h.get? a = some o → o.data = .fields vs → a ∉ frs (X.env :: X.outer) := fun {h o vs} ff e dd hm => by
      obtain ⟨_, o', e', hnf⟩ := ff.mem hm
      rw [e] at e'; cases e'
      exact hnf _ dd
    have nfr := notFr fl3.2.2.1 he3 hd3
    have nL : a ≠ X.env.locals := fun z => nfr (List.mem_filterMap.mpr ⟨X.env, List.mem_cons_self, by rw [hf, z]⟩)
    have nF : a ∉ X.fs := fun hm => by
      obtain ⟨e, he, q⟩ := List.mem_filterMap.mp hm
      exact nfr (List.mem_filterMap.mpr ⟨e, List.mem_cons_of_mem _ he, q⟩)
    have nI : sI.heap.get? a = none := by
      cases z : sI.heap.get? a with
      | none => rfl
      | some o =>
        have q := nb a o z (by rw [hs]; exact nfr)
        rw [fl3.2.1] at q
        cases q
    have n0 : X.s_0.heap.get? a = none := by
      cases z : X.s_0.heap.get? a with
      | none => rfl
      | some o =>
        obtain ⟨o', q⟩ := J.base.there a o z (by rw [hex]; simp)
        rw [nI] at q
        cases q
    have np : ∀ p ∈ X.pn ++ pins, p.1 ≠ a := fun p hp z => by
      have q := (J.pin p hp).1
      rw [z, nI] at q
      cases q
    have S3 := J3.suite he3 hd3 na nL nF
    refine wpAny_handleBy_cons (codeAny_handlers_test ?_) (by intro q; cases q)
    have LT : PySem.W.Looks (model X.prog X.w) h3 (typeOf (.ref a)) cls := fun A Q E s k q => wpAny_typeOf_ref (k _ _ he3) (by rw [hz3.1]; exact q)
    refine ht a _ _ _ _ _ cls true _ _ S3 LT hb1 fun hh k4 => ?_
    have fl3' := fl3.grow k4
    have up3' : s'.heap.UpToSlots hh := fun b o e z => by
      obtain ⟨sl, q⟩ := up3 b o e z
      exact ⟨sl, k4 _ _ q⟩
    show codeAny _ _ _ _ _
    refine codeAny_handlers_suite_as ?_
    refine HandSPX.lands_againZ (s := { s' with heap := hh }) fl3' fun h4 fl4 up4 => ?_
    have J4 : Inv X pins σ' H' { s' with heap := h4 } := J.landed nb fl4.1 ((up.trans up3').trans up4) os ag
    obtain ⟨oe4, vs4, he4, hz4, hd4⟩ := fl4.there
    have S4 := J4.suite he4 hd4 na nL nF
    refine store_ok (X := X.suite a ((a, oe4) :: (X.pn ++ pins))) (v := .ref a) S4 hN hi hloc rfl (fun s5 S5 => ?_) (.inr hln)
    refine wpAny_mono ((hsu a oe4 cls d (X.pn ++ pins) hz4 ⟨_, hd4⟩).run [] s5 _ H' _ S5 (hyes a na)) (fun f s6 hsp => ?_) (fun _ _ z => False.elim z)
    have end_ : ∀ {σ6 : St} {H6 : Hp} {Q : Shared → Prop}, Inv (X.suite a ((a, oe4) :: (X.pn ++ pins))) [] σ6 H6 s6 → (∀ s7, Inv X pins (σ6.set i none) (upd H6 a (exk a cls d)) s7 → Q s7) →
        wpAny (model X.prog X.w) X.A (do bindName X.env n .none; unbindBehindTheSuite X.env n pos') (fun _ s7 => Q s7) X.xe s6 := fun {σ6 H6 Q} S6 hq => by
      obtain ⟨p1, p2, _⟩ := S6.pin (a, oe4) (List.mem_append_left _ List.mem_cons_self)
      exact gone_ok ((S6.unsuite ok).track p1 hd4 hz4 p2 nL n0 np) hN hi hln hq
    cases f with
    | next =>
      obtain ⟨σ6, H6, S6, q6⟩ := hsp
      exact end_ S6 fun s7 J7 => ⟨_, _, J7, q6⟩
    | brk =>
      obtain ⟨σ6, H6, S6, q6⟩ := hsp
      exact end_ S6 fun s7 J7 => ⟨_, _, J7, q6⟩
    | cont =>
      obtain ⟨σ6, H6, S6, q6⟩ := hsp
      exact end_ S6 fun s7 J7 => ⟨_, _, J7, q6⟩
    | ret u =>
      obtain ⟨v6, σ6, H6, S6, r6, q6⟩ := hsp
      exact end_ S6 fun s7 J7 => ⟨_, _, _, J7, r6, q6⟩
  · cases f with
    | next =>
      obtain ⟨σ', H', J', q⟩ := hsp
      exact wpAny_execs_nil ⟨σ', H', J'.ofTry ok, q⟩
    | brk =>
      obtain ⟨σ', H', J', q⟩ := hsp
      exact ⟨σ', H', J'.ofTry ok, q⟩
    | cont =>
      obtain ⟨σ', H', J', q⟩ := hsp
      exact ⟨σ', H', J'.ofTry ok, q⟩
    | ret u =>
      obtain ⟨v, σ', H', J', r, q⟩ := hsp
      exact ⟨v, σ', H', J'.ofTry ok, r, q⟩
end
/-! ### what was caught: its field, its class -/
section
variable {X : Cx} {e : Expr} {te : TE} {f : Str} {pos : Pos} {C : Addr}
structure KgetP (C : Addr) (f : Str) (te : TE) (σ : St) (H : Hp) (Q : VK) : Prop where
  run : te σ H fun x H1 => ∃ (a dx : Addr) (fs : List (Str × V)) (v : V), x = .ref a ∧ H1 a = some (exk a (.ref C) (some dx)) ∧ H1 dx = some (.xd fs) ∧ fs.lookup f = some v ∧ Q v H1
def tKget (C : Addr) (f : Str) (te : TE) : TE := KgetP C f te
theorem pe_kget (T : ExcC X.K C) (hno : PySem.W.findIn X.K (.ref C) f = some none) (he : PE X e te) (hb : attributeBase e f X.env (eval e X.env) = eval e X.env := by rfl) :
    PE X (.Attribute e f pos) (tKget C f te) := by
  refine ⟨fun pins s σ H Q I h => attr_of hb (thn (he.run pins s σ H _ I h.run) fun u s1 hu => ?_)⟩
  obtain ⟨x, H1, I1, rx, a, dx, fs, v, ex, ea, ed, hl, q⟩ := hu
  subst ex
  obtain rfl : u = Value.ref a := rx
  obtain ⟨o, vs, at_, hz, hd⟩ := exk_at I1.hok ea
  have hx : ObjOk X.prog X.w H1 s1.heap dx (.xd fs) := I1.hok dx _ ed
  obtain ⟨mA, ns, rel⟩ := hx
  obtain ⟨od, at2, look⟩ := lookIn_ns ns
  obtain ⟨u, hu, ru⟩ := RelO.some_of (v := v) (o := mA f) (by rw [← hl]; exact rel f)
  have J : PySem.W.InstAt s1.heap a o C (some od) := ⟨at_, hz.1, by unfold PySem.W.notCls; rw [hd] <;> rfl, by rw [hz.2]; exact at2⟩
  exact HandSPX.exc_get I1.kIn J T.hg T.hk T.hs (PySem.W.findObj_own T.hd hno rfl (by rw [look, hu])) (handed_of ru) ⟨v, H1, I1.tok _, ru, q⟩
/-- isinstance(e, c), e an exception that was caught -/
def rKis (K : PySem.W.Frag) : List V → Hp → VK → Prop := fun xs H Q => ∃ (a C : Addr) (d : Option Addr) (c : V) (u : Value) (b : Bool),
  xs = [.ref a, c] ∧ ClsV c u ∧ H a = some (exk a (.ref C) d) ∧ (∀ dx, d = some dx → ∃ fs, H dx = some (.xd fs)) ∧ ExcC K C ∧ PySem.W.kitOne K (.ref C) u = some b ∧ Q (.bl b) H
theorem kkit {pins : List (Addr × Obj)} {σ : St} {H : Hp} {s : Shared} {a C : Addr} {d : Option Addr} (I : Inv X pins σ H s) (T : ExcC X.K C) (ea : H a = some (exk a (.ref C) d))
    (ed : ∀ dx, d = some dx → ∃ fs, H dx = some (.xd fs)) : ∃ P : Heap → Prop, PySem.W.KitX X.K (.ref a) (.ref C) P ∧ P s.heap := by
  obtain ⟨o, vs, at_, hz, hd⟩ := exk_at I.hok ea
  have nc : PySem.W.notCls o = true := by unfold PySem.W.notCls; rw [hd] <;> rfl
  have cl : (PySem.W.clsIn X.K C).isSome = true := by
    obtain ⟨cd, hc, _⟩ := PySem.W.any_some T.hd
    rw [hc]
    rfl
  cases d with
  | none => exact ⟨_, PySem.W.kitx_exc (od := none) cl T.hg T.hk T.hs T.ha T.hn T.ht T.hm, ⟨at_, hz.1, nc, by rw [hz.2]; trivial⟩⟩
  | some dx =>
    obtain ⟨fs, e2⟩ := ed dx rfl
    have hx : ObjOk X.prog X.w H s.heap dx (.xd fs) := I.hok dx _ e2
    obtain ⟨mA, ns, _⟩ := hx
    obtain ⟨od, at2, _⟩ := lookIn_ns ns
    exact ⟨_, PySem.W.kitx_exc (od := some od) cl T.hg T.hk T.hs T.ha T.hn T.ht T.hm, ⟨at_, hz.1, nc, by rw [hz.2]; exact at2⟩⟩
theorem call_kis : CallR X (.builtin "isinstance") (rKis X.K) := by
  intro pins s σ H xs us Q I r h
  obtain ⟨a, C, d, c, u, b, rfl, hc, ea, ed, T, e, q⟩ := h
  obtain ⟨u1, u2, rfl, r1, r2⟩ := vals2 r
  obtain rfl := hc.eq r2
  obtain rfl : u1 = Value.ref a := r1
  obtain ⟨P, Z, z⟩ := kkit I T ea ed
  exact PySem.W.kia_one Z I.kIn z e (fun q => nomatch q) fun tk => ⟨.bl b, H, I.tok tk, rfl, q⟩
end
end L2
set_option Elab.async false
set_option linter.all false
set_option maxRecDepth 100000
set_option maxHeartbeats 4000000
namespace KB
open PySem PySem.Spec PyProof.Rows L2 Evl
def topS (i : Nat) : Stmt := PySem.Challenge.pw_treethaw_k08_waits_for_children.main.body.getD i (.Pass ⟨0, 0, 0, 0⟩)
theorem same_new {H : Hp} {p : Addr} {o : HO} (h : H p = none) : Same H (upd H p o) := fun b x e => by
  rw [upd_ne (ne_of_none e h)]
  exact e
theorem same_mut {H H' : Hp} {p : Addr} {o : HO} (s : Same H H') (h : H p = none) : Same H (upd H' p o) := fun b x e => by
  rw [upd_ne (ne_of_none e h)]
  exact s b x e
mutual
/-- data at any depth, all of it tracked -/
inductive Dx (H : Hp) : V → PyData → Prop
  | non : Dx H .non .none
  | bl (b : Bool) : Dx H (.bl b) (.bool b)
  | int (i : Int) : Dx H (.int i) (.int i)
  | str (x : Str) : Dx H (.str x) (.str x)
  | lst {a : Addr} {xs : List V} {ds : List PyData} : H a = some (.lst xs) → DxAll H xs ds → Dx H (.ref a) (.list ds)
  | tup {a : Addr} {xs : List V} {ds : List PyData} : H a = some (.tup xs) → DxAll H xs ds → Dx H (.ref a) (.tuple ds)
inductive DxAll (H : Hp) : List V → List PyData → Prop
  | nil : DxAll H [] []
  | cons {v : V} {vs : List V} {d : PyData} {ds : List PyData} : Dx H v d → DxAll H vs ds → DxAll H (v :: vs) (d :: ds)
end
mutual
theorem Dx.mono {H H' : Hp} (s : Same H H') : ∀ {v : V} {d : PyData}, Dx H v d → Dx H' v d
  | _, _, .non => .non
  | _, _, .bl b => .bl b
  | _, _, .int i => .int i
  | _, _, .str x => .str x
  | _, _, .lst e h => .lst (s _ _ e) (DxAll.mono s h)
  | _, _, .tup e h => .tup (s _ _ e) (DxAll.mono s h)
theorem DxAll.mono {H H' : Hp} (s : Same H H') : ∀ {vs : List V} {ds : List PyData}, DxAll H vs ds → DxAll H' vs ds
  | _, _, .nil => .nil
  | _, _, .cons h t => .cons (Dx.mono s h) (DxAll.mono s t)
end
theorem DxAll.length {H : Hp} : ∀ {vs : List V} {ds : List PyData}, DxAll H vs ds → vs.length = ds.length
  | _, _, .nil => rfl
  | _, _, .cons _ t => by rw [List.length_cons, List.length_cons, DxAll.length t]
theorem DxAll.get {H : Hp} : ∀ {vs : List V} {ds : List PyData} {i : Nat} {v : V}, DxAll H vs ds → vs[i]? = some v → ∃ d, ds[i]? = some d ∧ Dx H v d
  | _, _, _, _, .nil, e => by simp at e
  | _, _, 0, _, .cons h _, e => by
    simp at e
    subst e
    exact ⟨_, rfl, h⟩
  | _, _, i + 1, v, .cons _ t, e => by
    obtain ⟨d, h1, h2⟩ := DxAll.get (i := i) (v := v) t (by simpa using e)
    exact ⟨d, by simpa using h1, h2⟩
theorem DxAll.snoc {H : Hp} {v : V} {d : PyData} (h : Dx H v d) : ∀ {vs : List V} {ds : List PyData}, DxAll H vs ds → DxAll H (vs ++ [v]) (ds ++ [d])
  | _, _, .nil => .cons h .nil
  | _, _, .cons h1 t => .cons h1 (DxAll.snoc h t)
/-- of nesting below n -/
def Sh : Nat → PyData → Prop
  | 0, _ => False
  | n + 1, .list ds => ds.length ≤ 1000 ∧ ∀ d ∈ ds, Sh n d
  | n + 1, .tuple ds => ds.length ≤ 1000 ∧ ∀ d ∈ ds, Sh n d
  | _ + 1, .dict _ => False
  | _ + 1, _ => True
/-- the heap without the objects of M -/
def mask (H : Hp) (M : List Addr) : Hp := fun b => if b ∈ M then none else H b
theorem mask_nil (H : Hp) : mask H [] = H := funext fun b => if_neg List.not_mem_nil
theorem mask_at {H : Hp} {M : List Addr} {a : Addr} {o : HO} (e : mask H M a = some o) : H a = some o ∧ a ∉ M := by
  unfold mask at e
  by_cases h : a ∈ M
  · rw [if_pos h] at e
    cases e
  · rw [if_neg h] at e
    exact ⟨e, h⟩
theorem mask_of {H : Hp} {M : List Addr} {a : Addr} {o : HO} (e : H a = some o) (h : a ∉ M) : mask H M a = some o := (if_neg h).trans e
theorem mask_same {H H' : Hp} {M M' : List Addr} (s : Same H H') (h : ∀ b o, H b = some o → b ∈ M' → b ∈ M) : Same (mask H M) (mask H' M') := fun b o e => by
  obtain ⟨e1, e2⟩ := mask_at e
  exact mask_of (s b o e1) fun z => e2 (h b o e1 z)
theorem mask_upd {H : Hp} {M : List Addr} {a : Addr} {o : HO} (h : a ∈ M) : mask (upd H a o) M = mask H M := funext fun b => by
  unfold mask
  by_cases z : b ∈ M
  · rw [if_pos z, if_pos z]
  · have ne : b ≠ a := fun e => z (e ▸ h)
    rw [if_neg z, if_neg z, upd_ne ne]
theorem dx_ints {H : Hp} : ∀ (ns : List Int), DxAll H (ns.map V.int) (ns.map PyData.int)
  | [] => .nil
  | n :: ns => .cons (.int n) (dx_ints ns)
/-- told a datum -/
def RetD (d : PyData) (H : Hp) (Q : VK) : Prop := ∀ v H2, Ex H H2 → Dx H2 v d → Q v H2
def EvX (te : TE) (σ : L2.St) (H : Hp) (d : PyData) : Prop := ∀ H1, Ex H H1 → ∀ Q : VK, (∀ v H2, Ex H1 H2 → Dx H2 v d → Q v H2) → te σ H1 Q
def SpX (sp : Sp) (vs : List V) (H : Hp) (d : PyData) : Prop := ∀ H1, Ex H H1 → ∀ Q : VK, (∀ v H2, Ex H1 H2 → Dx H2 v d → Q v H2) → ∀ E : XK, sp vs H1 Q E
section
variable {K : PySem.W.Frag} {σ : L2.St} {H H' : Hp} {ta tb te tx : TE} {tz : TS} {D : Ends}
theorem ex_call {sp : Sp} {dvs vs : List V} {d : PyData} {E : XK} {ta : TA} (h : EvA ta σ H vs) (hs : SpX sp (vs ++ dvs) H d) : EvX (tCall sp dvs E ta) σ H d := fun H1 e Q q =>
  h H1 e _ fun H2 e2 => hs H2 (e.trans e2) Q (fun v H3 e3 g => q v H3 (e2.trans e3) g) E
theorem s_asgX {i : Nat} {d : PyData} (h : EvX te σ H d) (k : ∀ v H1, Ex H H1 → Dx H1 v d → D.nx (σ.set i (some v)) H1) : tAsg te (gName i) D σ H := h H (Ex.refl H) _ fun v H1 e g => k v H1 e g
theorem q_asgX {i : Nat} {d : PyData} (h : EvX te σ H d) (k : ∀ v H1, Ex H H1 → Dx H1 v d → tz D (σ.set i (some v)) H1) : tSeq (tAsg te (gName i)) tz D σ H := s_asgX (D := { D with nx := tz D }) h k
theorem s_retX {d : PyData} (h : EvX te σ H d) (k : ∀ v H1, Ex H H1 → Dx H1 v d → D.rt v H1) : tRet te D σ H := h H (Ex.refl H) _ k
end
end KB
set_option Elab.async false
set_option linter.all false
set_option maxRecDepth 100000
set_option maxHeartbeats 4000000
namespace KB
open PySem PySem.Spec PyProof.Rows L2
abbrev sSame : Stmt := topS 94
abbrev nSame : List Str := ["_law_found", "_law_due", "_law_mine", "_law_its"]
theorem scSame : FnScope nSame ["_law_found", "_law_due"] (defScope sSame) := ⟨rfl, rfl, rfl, by decide +kernel, rfl, by decide +kernel, by decide +kernel⟩
/-- equal data: True -/
def spSame (n : Nat) : Sp := fun vs H Q _ => ∃ (x y : V) (d : PyData), vs = [x, y] ∧ Dx H x d ∧ Dx H y d ∧ Sh n d ∧ ∀ H', Same H H' → Q (.bl true) H'
theorem kit2 {K : PySem.W.Frag} {T a b : String} {r1 r2 : Bool} (h1 : kitB T a = some r1) (h2 : kitB T b = some r2) : PySem.W.kitAny K (.type T) [.type a, .type b] = some (r1 || r2) := by
  refine kitAny_cons (kit_ty h1) (fun e => ?_) (fun e => by rw [e]; rfl)
  rw [e]
  refine kitAny_cons (kit_ty h2) (fun e2 => by rw [e2]; exact kitAny_nil) (fun e2 => by rw [e2]; rfl)
theorem walk_zipT2 {K : PySem.W.Frag} {a b : Addr} {xs ys : List V} (hl : xs.length = ys.length) : Walk (RZ.ItzT K a b) xs.length (fun H => SqT K H a xs ∧ SqT K H b ys) (YPair (fun i => xs[i]?) (fun i => ys[i]?)) := by
  refine ⟨fun i _ hi q => ?_, fun _ q => ⟨xs, ys, q.1, q.2, .inl (Nat.le_refl _)⟩, fun i H v H' _ q y => ?_⟩
  · have h2 : i < ys.length := by omega
    exact ⟨xs, ys, xs[i], ys[i], q.1, q.2, List.getElem?_eq_getElem hi, List.getElem?_eq_getElem h2⟩
  · obtain ⟨T, x, z, h1, h2, h3, h4, h5⟩ := y
    exact ⟨T, x, z, h1, h2, h3, h4 xs q.1, h5 ys q.2⟩
section
variable {P : Program} {w : World} {K : PySem.W.Frag} {mg : Str → Option Value} {base : Heap} {f : Addr} {fd : FuncData}
theorem no_same : FnOk P w K mg base CX0 0 f fd ["_law_found", "_law_due"] (spSame 0) :=
  ⟨fun vs H Q E ⟨_, _, _, _, _, _, h, _⟩ => h.elim, fun _ _ _ _ _ _ _ _ _ _ _ _ _ ⟨_, _, _, _, _, _, h, _⟩ => h.elim⟩
theorem ok_same {n : Nat} (F : Fun K "_law_same" "_law_same" sSame f fd) (G : FnOk P w K mg base CX0 n f fd ["_law_found", "_law_due"] (spSame n)) (bG : Binds K fd ["_law_found", "_law_due"] []) (mG : mg "_law_same" = some (.ref f))
    (mI : mg "isinstance" = none) (mL : mg "list" = none) (mT : mg "tuple" = none) (mN : mg "len" = none) (mA : mg "all" = none) (mZ : mg "zip" = none) (mB : mg "bool" = none) (mS : mg "str" = none) (mi : mg "int" = none) :
    FnOk P w K mg base CX0 (n + 1) f fd ["_law_found", "_law_due"] (spSame (n + 1)) := by
  refine F.ok scSame (fun vs H Q E h => ?_) (fun cdv A outer s H vs Q E hr h => ?_)
  · obtain ⟨x, y, d, rfl, _⟩ := h
    rfl
  · obtain ⟨x, y, d, rfl, hx, hy, hs, q⟩ := h
    refine ⟨_, pss_cons (ps_if (pt_val (pe_callB call_isiT (by rfl) mI (by decide +kernel) (pa_cons (pv 1) (pa_cons (pe_tup (pa_cons (pe_bltn (v := .ty "list") (by rfl) mL (by decide +kernel) rfl) (pa_cons (pe_bltn (v := .ty "tuple") (by rfl) mT (by decide +kernel) rfl) pa_nil))) pa_nil))))
        (pss_cons (ps_if (PW.pt (pw_or (pt_cmpR op_ne (pe_callB call_isi (by rfl) mI (by decide +kernel) (pa_cons (pv 0) (pa_cons (pe_bltn (v := .ty "list") (by rfl) mL (by decide +kernel) rfl) pa_nil))) (pe_callB call_isi (by rfl) mI (by decide +kernel) (pa_cons (pv 1) (pa_cons (pe_bltn (v := .ty "list") (by rfl) mL (by decide +kernel) rfl) pa_nil))) (nomark _)) (pw_or1 (pt_cmpR op_ne (pe_callB call_isi (by rfl) mI (by decide +kernel) (pa_cons (pv 0) (pa_cons (pe_bltn (v := .ty "tuple") (by rfl) mT (by decide +kernel) rfl) pa_nil))) (pe_callB call_isi (by rfl) mI (by decide +kernel) (pa_cons (pv 1) (pa_cons (pe_bltn (v := .ty "tuple") (by rfl) mT (by decide +kernel) rfl) pa_nil))) (nomark _)))))
          (pss_one (ps_ret pe_bl)) pss_nil)
        (pss_one (ps_ret (pe_and (pe_cmpR op_eq (pe_callB call_len_seq (by rfl) mN PySem.boot_len (pa_cons (pv 0) pa_nil)) (pe_callB call_len_seq (by rfl) mN PySem.boot_len (pa_cons (pv 1) pa_nil)) (nomark _)) (pe_one (pe_callB (cr_all rfl) (by rfl) mA (by decide +kernel) (pa_cons
          (pe_lc (own := [("_law_mine", 2), ("_law_its", 3)]) (g := gTup _ 2 (gCons (gName 2) (gCons (gName 3) gNil))) (tt := tYes) rfl scSame.nd (RZ.pi_zipA (by rfl) mZ (pa_cons (pv 0) (pa_cons (pv 1) pa_nil))) (blkOk_by (N := nSame) (sc := defScope sSame) (by decide +kernel))
            (fun _ _ _ _ _ => pg_tup rfl (pgs_cons (pg_name (i := 2) scSame.nd rfl (Or.inl rfl)) (pgs_cons (pg_name (i := 3) scSame.nd rfl (Or.inl rfl)) pgs_nil))) (fun _ _ _ _ _ => pts_nil) (fun _ _ _ _ _ => pe_call G hr rfl mG F.kp bG .nil pass0 (pa_cons (pv 2) (pa_cons (pv 3) pa_nil)))) pa_nil))))))) pss_nil)
      (pss_cons (ps_if (PW.pt (pw_or (pt_cmp (pc_isN (pv 1))) (pw_or1 (pt_val (pe_callB call_isiT (by rfl) mI (by decide +kernel) (pa_cons (pv 1) (pa_cons (pe_tup (pa_cons (pe_bltn (v := .ty "bool") (by rfl) mB (by decide +kernel) rfl) (pa_cons (pe_bltn (v := .ty "str") (by rfl) mS (by decide +kernel) rfl) pa_nil))) pa_nil)))))))
        (pss_one (ps_ret (pe_and (pe_cmpR op_eq (pv 0) (pv 1) (nomark _)) (pe_and (pe_cmpR op_eq (pe_callB call_isi (by rfl) mI (by decide +kernel) (pa_cons (pv 0) (pa_cons (pe_bltn (v := .ty "bool") (by rfl) mB (by decide +kernel) rfl) pa_nil))) (pe_callB call_isi (by rfl) mI (by decide +kernel) (pa_cons (pv 1) (pa_cons (pe_bltn (v := .ty "bool") (by rfl) mB (by decide +kernel) rfl) pa_nil))) (nomark _)) (pe_one (pe_cmpR op_eq (pe_cmp (pc_isN (pv 0))) (pe_cmp (pc_isN (pv 1))) (nomark _)))))))  pss_nil)
      (pss_one (ps_ret (pe_and (pe_callB call_isi (by rfl) mI (by decide +kernel) (pa_cons (pv 0) (pa_cons (pe_bltn (v := .ty "int") (by rfl) mi (by decide +kernel) rfl) pa_nil))) (pe_and (pe_not (pe_callB call_isi (by rfl) mI (by decide +kernel) (pa_cons (pv 0) (pa_cons (pe_bltn (v := .ty "bool") (by rfl) mB (by decide +kernel) rfl) pa_nil)))) (pe_one (pe_cmpR op_eq (pv 0) (pv 1) (nomark _)))))))), ?_⟩
    cases hx with
    | non =>
      cases hy
      refine ⟨_, rfl, by show 2 ≤ sizeLine; decide, fun t1 n1 => ⟨_, t1, _, _, _, false, rfl, upd_same, .cons (.ty _) (.cons (.ty _) .nil), .base .non, kit2 (T := "NoneType") (a := "list") (b := "tuple") (r1 := false) (r2 := false) (by decide +kernel) (by decide +kernel), _, rfl, iteF ?_⟩⟩
      have s1 := same_new (o := HO.tup [.ty "list", .ty "tuple"]) n1
      refine ⟨_, rfl, _, rfl, iteT (iteT ?_)⟩
      refine ⟨_, rfl, _, rfl, rfl, _, rfl, iteT ?_⟩
      refine ⟨_, rfl, _, _, _, _, false, rfl, .ty _, .base .non, kit_ty (by decide +kernel), _, rfl, _, _, _, _, false, rfl, .ty _, .base .non, kit_ty (by decide +kernel), rfl, _, rfl, iteT ?_⟩
      exact ⟨_, rfl, _, rfl, rfl, q _ s1⟩
    | bl b =>
      cases hy
      refine ⟨_, rfl, by show 2 ≤ sizeLine; decide, fun t1 n1 => ⟨_, t1, _, _, _, false, rfl, upd_same, .cons (.ty _) (.cons (.ty _) .nil), .base (.bl b), kit2 (T := "bool") (a := "list") (b := "tuple") (r1 := false) (r2 := false) (by decide +kernel) (by decide +kernel), _, rfl, iteF ?_⟩⟩
      have s1 := same_new (o := HO.tup [.ty "list", .ty "tuple"]) n1
      refine ⟨_, rfl, _, rfl, iteF ?_⟩
      refine ⟨_, rfl, by show 2 ≤ sizeLine; decide, fun t2 n2 => ⟨_, t2, _, _, _, true, rfl, upd_same, .cons (.ty _) (.cons (.ty _) .nil), .base (.bl b), kit2 (T := "bool") (a := "bool") (b := "str") (r1 := true) (r2 := false) (by decide +kernel) (by decide +kernel), _, rfl, iteT ?_⟩⟩
      have s2 := s1.trans (same_new (o := HO.tup [.ty "bool", .ty "str"]) n2)
      refine ⟨_, rfl, _, rfl, rfl, _, rfl, ?_⟩
      rw [decide_eq_true (rfl : (V.bl b) = V.bl b)]
      refine iteT ⟨_, rfl, _, _, _, _, true, rfl, .ty _, .base (.bl b), kit_ty (by decide +kernel), _, rfl, _, _, _, _, true, rfl, .ty _, .base (.bl b), kit_ty (by decide +kernel), rfl, _, rfl, iteT ?_⟩
      exact ⟨_, rfl, _, rfl, rfl, q _ s2⟩
    | str z =>
      cases hy
      refine ⟨_, rfl, by show 2 ≤ sizeLine; decide, fun t1 n1 => ⟨_, t1, _, _, _, false, rfl, upd_same, .cons (.ty _) (.cons (.ty _) .nil), .base (.str z), kit2 (T := "str") (a := "list") (b := "tuple") (r1 := false) (r2 := false) (by decide +kernel) (by decide +kernel), _, rfl, iteF ?_⟩⟩
      have s1 := same_new (o := HO.tup [.ty "list", .ty "tuple"]) n1
      refine ⟨_, rfl, _, rfl, iteF ?_⟩
      refine ⟨_, rfl, by show 2 ≤ sizeLine; decide, fun t2 n2 => ⟨_, t2, _, _, _, true, rfl, upd_same, .cons (.ty _) (.cons (.ty _) .nil), .base (.str z), kit2 (T := "str") (a := "bool") (b := "str") (r1 := false) (r2 := true) (by decide +kernel) (by decide +kernel), _, rfl, iteT ?_⟩⟩
      have s2 := s1.trans (same_new (o := HO.tup [.ty "bool", .ty "str"]) n2)
      refine ⟨_, rfl, _, rfl, rfl, _, rfl, ?_⟩
      rw [decide_eq_true (rfl : (V.str z) = V.str z)]
      refine iteT ⟨_, rfl, _, _, _, _, false, rfl, .ty _, .base (.str z), kit_ty (by decide +kernel), _, rfl, _, _, _, _, false, rfl, .ty _, .base (.str z), kit_ty (by decide +kernel), rfl, _, rfl, iteT ?_⟩
      exact ⟨_, rfl, _, rfl, rfl, q _ s2⟩
    | int i =>
      cases hy
      refine ⟨_, rfl, by show 2 ≤ sizeLine; decide, fun t1 n1 => ⟨_, t1, _, _, _, false, rfl, upd_same, .cons (.ty _) (.cons (.ty _) .nil), .base (.int i), kit2 (T := "int") (a := "list") (b := "tuple") (r1 := false) (r2 := false) (by decide +kernel) (by decide +kernel), _, rfl, iteF ?_⟩⟩
      have s1 := same_new (o := HO.tup [.ty "list", .ty "tuple"]) n1
      refine ⟨_, rfl, _, rfl, iteF ?_⟩
      refine ⟨_, rfl, by show 2 ≤ sizeLine; decide, fun t2 n2 => ⟨_, t2, _, _, _, false, rfl, upd_same, .cons (.ty _) (.cons (.ty _) .nil), .base (.int i), kit2 (T := "int") (a := "bool") (b := "str") (r1 := false) (r2 := false) (by decide +kernel) (by decide +kernel), _, rfl, iteF ?_⟩⟩
      have s2 := s1.trans (same_new (o := HO.tup [.ty "bool", .ty "str"]) n2)
      refine ⟨_, rfl, _, _, _, _, true, rfl, .ty _, .base (.int i), kit_ty (by decide +kernel), _, rfl, iteT ?_⟩
      refine ⟨_, rfl, _, _, _, _, false, rfl, .ty _, .base (.int i), kit_ty (by decide +kernel), _, rfl, _, rfl, iteT ?_⟩
      refine ⟨_, rfl, _, rfl, rfl, ?_⟩
      rw [decide_eq_true (rfl : (V.int i) = V.int i)]
      exact q _ s2
    | @lst a xs ds ea hxs =>
      cases hy with
      | @lst b ys _ eb hys =>
        have hlen : xs.length = ys.length := hxs.length.trans hys.length.symm
        refine ⟨_, rfl, by show 2 ≤ sizeLine; decide, fun t1 n1 => ?_⟩
        have s1 := same_new (o := HO.tup [.ty "list", .ty "tuple"]) n1
        refine ⟨_, t1, _, _, _, true, rfl, upd_same, .cons (.ty _) (.cons (.ty _) .nil), .base (.lst (s1 _ _ eb)), kit2 (T := "list") (a := "list") (b := "tuple") (r1 := true) (r2 := false) (by decide +kernel) (by decide +kernel), _, rfl, iteT ?_⟩
        refine ⟨_, rfl, _, _, _, _, true, rfl, .ty _, .base (.lst (s1 _ _ ea)), kit_ty (by decide +kernel), _, rfl, _, _, _, _, true, rfl, .ty _, .base (.lst (s1 _ _ eb)), kit_ty (by decide +kernel), rfl, _, rfl, iteF ?_⟩
        refine ⟨_, rfl, _, _, _, _, false, rfl, .ty _, .base (.lst (s1 _ _ ea)), kit_ty (by decide +kernel), _, rfl, _, _, _, _, false, rfl, .ty _, .base (.lst (s1 _ _ eb)), kit_ty (by decide +kernel), rfl, _, rfl, iteF ?_⟩
        refine ⟨_, rfl, a, xs, rfl, .inl (SqL.of (s1 _ _ ea)), _, rfl, b, ys, rfl, .inl (SqL.of (s1 _ _ eb)), rfl, _, rfl, ?_⟩
        rw [hlen, decide_eq_true (rfl : (V.int (ys.length : Int)) = V.int (ys.length : Int))]
        refine iteT ?_
        refine ⟨_, rfl, _, rfl, a, b, xs, ys, rfl, .inl ⟨SqL.of (s1 _ _ ea), SqL.of (s1 _ _ eb), fun D nD => ?_⟩⟩
        have nDH : H D = none := s1.free nD
        refine lc_it (walk_zip (n := xs.length) (by omega)) (fun i H3 => Same H H3 ∧ H3 D = some (.lst ((List.replicate i true).map V.bl)))
          ⟨s1.trans (same_new nD), upd_same⟩ (fun i H3 _ p => ⟨SqL.of (p.1 _ _ ea), SqL.of (p.1 _ _ eb)⟩) ?_ ?_
        · rintro i x H3 H4 hi ⟨s3, eD⟩ ⟨t, x1, x2, rfl, nt, rfl, f1, f2⟩
          have f1' : xs[i]? = some x1 := f1
          have f2' : ys[i]? = some x2 := f2
          obtain ⟨d1, e1, g1⟩ := hxs.get f1'
          obtain ⟨d2, e2, g2⟩ := hys.get f2'
          obtain rfl : d1 = d2 := Option.some.inj (e1.symm.trans e2)
          have s4 := s3.trans (same_new (o := HO.tup [x1, x2]) nt)
          refine ⟨t, _, rfl, .inl (.inl upd_same), rfl, _, _, rfl, _, _, rfl, rfl, rfl, _, rfl, _, rfl, x1, x2, d1, rfl, g1.mono s4, g2.mono s4, hs.2 d1 (List.mem_of_getElem? e1), fun H5 s5 => ?_⟩
          refine ⟨_, s5 _ _ ((upd_ne (ne_of_none eD nt)).trans eD), ?_, same_mut (s4.trans s5) nDH, ?_⟩
          · rw [List.length_map, List.length_replicate]
            have z := hs.1
            have z2 := hxs.length
            exact Nat.lt_of_le_of_lt (show i ≤ 1000 by omega) (by decide)
          · rw [upd_same, List.replicate_succ', List.map_append]
            rfl
        · rintro H3 ⟨s3, eD⟩
          refine ⟨D, _, rfl, SqL.of eD, ?_⟩
          have al : (List.replicate xs.length true).all id = true := by
            rw [List.all_eq_true]
            intro z hz
            rw [List.eq_of_mem_replicate hz]
            rfl
          rw [al]
          exact q _ s3
    | @tup a xs ds ea hxs =>
      cases hy with
      | @tup b ys _ eb hys =>
        have hlen : xs.length = ys.length := hxs.length.trans hys.length.symm
        refine ⟨_, rfl, by show 2 ≤ sizeLine; decide, fun t1 n1 => ?_⟩
        have s1 := same_new (o := HO.tup [.ty "list", .ty "tuple"]) n1
        refine ⟨_, t1, _, _, _, true, rfl, upd_same, .cons (.ty _) (.cons (.ty _) .nil), .base (.tup (s1 _ _ eb)), kit2 (T := "tuple") (a := "list") (b := "tuple") (r1 := false) (r2 := true) (by decide +kernel) (by decide +kernel), _, rfl, iteT ?_⟩
        refine ⟨_, rfl, _, _, _, _, false, rfl, .ty _, .base (.tup (s1 _ _ ea)), kit_ty (by decide +kernel), _, rfl, _, _, _, _, false, rfl, .ty _, .base (.tup (s1 _ _ eb)), kit_ty (by decide +kernel), rfl, _, rfl, iteF ?_⟩
        refine ⟨_, rfl, _, _, _, _, true, rfl, .ty _, .base (.tup (s1 _ _ ea)), kit_ty (by decide +kernel), _, rfl, _, _, _, _, true, rfl, .ty _, .base (.tup (s1 _ _ eb)), kit_ty (by decide +kernel), rfl, _, rfl, iteF ?_⟩
        refine ⟨_, rfl, a, xs, rfl, .inr (SqT.of (s1 _ _ ea)), _, rfl, b, ys, rfl, .inr (SqT.of (s1 _ _ eb)), rfl, _, rfl, ?_⟩
        rw [hlen, decide_eq_true (rfl : (V.int (ys.length : Int)) = V.int (ys.length : Int))]
        refine iteT ?_
        refine ⟨_, rfl, _, rfl, a, b, xs, ys, rfl, .inr ⟨SqT.of (s1 _ _ ea), SqT.of (s1 _ _ eb), fun D nD => ?_⟩⟩
        have nDH : H D = none := s1.free nD
        refine lc_it (walk_zipT2 hlen) (fun i H3 => Same H H3 ∧ H3 D = some (.lst ((List.replicate i true).map V.bl)))
          ⟨s1.trans (same_new nD), upd_same⟩ (fun i H3 _ p => ⟨SqT.of (p.1 _ _ ea), SqT.of (p.1 _ _ eb)⟩) ?_ ?_
        · rintro i x H3 H4 hi ⟨s3, eD⟩ ⟨t, x1, x2, rfl, nt, rfl, f1, f2⟩
          have f1' : xs[i]? = some x1 := f1
          have f2' : ys[i]? = some x2 := f2
          obtain ⟨d1, e1, g1⟩ := hxs.get f1'
          obtain ⟨d2, e2, g2⟩ := hys.get f2'
          obtain rfl : d1 = d2 := Option.some.inj (e1.symm.trans e2)
          have s4 := s3.trans (same_new (o := HO.tup [x1, x2]) nt)
          refine ⟨t, _, rfl, .inl (.inl upd_same), rfl, _, _, rfl, _, _, rfl, rfl, rfl, _, rfl, _, rfl, x1, x2, d1, rfl, g1.mono s4, g2.mono s4, hs.2 d1 (List.mem_of_getElem? e1), fun H5 s5 => ?_⟩
          refine ⟨_, s5 _ _ ((upd_ne (ne_of_none eD nt)).trans eD), ?_, same_mut (s4.trans s5) nDH, ?_⟩
          · rw [List.length_map, List.length_replicate]
            have z := hs.1
            have z2 := hxs.length
            exact Nat.lt_of_le_of_lt (show i ≤ 1000 by omega) (by decide)
          · rw [upd_same, List.replicate_succ', List.map_append]
            rfl
        · rintro H3 ⟨s3, eD⟩
          refine ⟨D, _, rfl, SqL.of eD, ?_⟩
          have al : (List.replicate xs.length true).all id = true := by
            rw [List.all_eq_true]
            intro z hz
            rw [List.eq_of_mem_replicate hz]
            rfl
          rw [al]
          exact q _ s3
end
section
open Evl
variable {σ : L2.St} {H : Hp} {ta tb : TE}
theorem ev_same {n : Nat} {d : PyData} (h1 : EvX ta σ H d) (h2 : EvX tb σ H d) (hs : Sh n d) : Ev (tCall (spSame n) [] E0 (tCons ta (tCons tb tNil))) σ H (.bl true) := fun H1 e Q q =>
  h1 H1 e _ fun v H2 e2 g2 => h2 H2 (e.trans e2) _ fun u H3 e3 g3 => ⟨v, u, d, rfl, g2.mono e3, g3, hs, fun H' s => q H' ((e2.trans e3).trans s)⟩
end
end KB
set_option Elab.async false
set_option linter.all false
set_option maxRecDepth 100000
set_option maxHeartbeats 4000000
namespace L2
open PySem PySem.Spec PyProof.Rows
/-! ### defs, methods, makers, exceptions: their facts in one -/
/-- a def of the module -/
structure Kf (P : Program) (w : World) (K : PySem.W.Frag) (mg : Str → Option Value) (base : Heap) (L : Nat) (x : Str) (ps : List Str) (sp : Sp) : Prop where
  ex : ∃ k f fd, k ≤ L ∧ FnOk P w K mg base CX0 k f fd ps sp ∧ Binds K fd ps [] ∧ PySem.W.keepIn K (.ref f) = true ∧ mg x = some (.ref f)
/-- a def that may raise -/
structure KfX (P : Program) (w : World) (K : PySem.W.Frag) (mg : Str → Option Value) (base : Heap) (L : Nat) (x : Str) (ps : List Str) (sp : Sp) : Prop where
  ex : ∃ k f fd, k ≤ L ∧ FnOk P w K mg base (L2.CX P w) k f fd ps sp ∧ Binds K fd ps [] ∧ PySem.W.keepIn K (.ref f) = true ∧ mg x = some (.ref f)
/-- a method -/
structure Km (P : Program) (w : World) (K : PySem.W.Frag) (mg : Str → Option Value) (base : Heap) (L : Nat) (C : Addr) (m : Str) (ps : List Str) (sp : Sp) : Prop where
  ex : ∃ k f fd, k ≤ L ∧ FnOk P w K mg base CX0 k f fd ps sp ∧ Binds K fd ps [] ∧ Meth K C m f
  cls : Cls K C
structure KmX (P : Program) (w : World) (K : PySem.W.Frag) (mg : Str → Option Value) (base : Heap) (L : Nat) (C : Addr) (m : Str) (ps : List Str) (sp : Sp) : Prop where
  ex : ∃ k f fd, k ≤ L ∧ FnOk P w K mg base (L2.CX P w) k f fd ps sp ∧ Binds K fd ps [] ∧ Meth K C m f
  cls : Cls K C
/-- a class that is made -/
structure Kc (P : Program) (w : World) (K : PySem.W.Frag) (mg : Str → Option Value) (base : Heap) (L : Nat) (C : Addr) (x : Str) (ps : List Str) (sp : Sp) : Prop where
  ex : ∃ k f fd, k + 1 ≤ L ∧ FnOk P w K mg base CX0 k f fd ps sp ∧ Binds K fd ps [] ∧ Mk K C f ∧ mg x = some (.ref C)
/-- an exception class with an __init__ -/
structure Ke (P : Program) (w : World) (K : PySem.W.Frag) (mg : Str → Option Value) (base : Heap) (L : Nat) (C : Addr) (x : Str) (sp : Sp) : Prop where
  ex : ∃ B newId initId bmB fI k fd ps, k + 1 ≤ L ∧ ExcBaseFacts B newId initId bmB ∧ ExK K C fI bmB newId ∧ PySem.W.typeIn K (.ref C) = some (.type "type") ∧ FnOk P w K mg base CX0 k fI fd ps sp ∧ Binds K fd ps [] ∧ mg x = some (.ref C)
theorem Ke.isc {P : Program} {w : World} {K : PySem.W.Frag} {mg : Str → Option Value} {base : Heap} {L : Nat} {C : Addr} {x : Str} {sp : Sp} (T : Ke P w K mg base L C x sp) : ExcC K C := by
  obtain ⟨_, _, _, _, _, _, _, _, _, _, T, _⟩ := T.ex
  exact T.isc
theorem Ke.at_ {P : Program} {w : World} {K : PySem.W.Frag} {mg : Str → Option Value} {base : Heap} {L : Nat} {C : Addr} {x : Str} {sp : Sp} (T : Ke P w K mg base L C x sp) : mg x = some (.ref C) := by
  obtain ⟨_, _, _, _, _, _, _, _, _, _, _, _, _, _, m⟩ := T.ex
  exact m
section
variable {X : Cx} {L : Nat} {C : Addr} {ps : List Str} {sp : Sp} {x m : Str} {p pos apos : Pos} {e o : Expr} {es : List Expr} {ta : TE} {t : TA}
theorem pe_fn (G : Kf X.prog X.w X.K X.mg X.base L x ps sp) (hr : Room L X.A) (ha : PA X (e :: es) t) (hg : Gl X x := by rfl) (hdb : (x == ("__debug__" : Str)) = false := by decide)
    (he : starEach (e :: es) X.env = (false, eval e X.env) :: starEach es X.env := by rfl) (hpl : (backTo pos (starEach es X.env)).any (·.1) = false := by rfl) : PE X (.Call (.Name x p) (e :: es) [] pos) (tCall sp [] E0 t) := by
  obtain ⟨k, f, fd, hk, F, b, kp, mg⟩ := G.ex
  exact pe_call F (hr.mono hk) hg mg kp b .nil pass0 ha hdb he hpl
theorem pe_fn0 (G : Kf X.prog X.w X.K X.mg X.base L x ps sp) (hr : Room L X.A) (hg : Gl X x := by rfl) (hdb : (x == ("__debug__" : Str)) = false := by decide) : PE X (.Call (.Name x p) [] [] pos) (tCall sp [] E0 tNil) := by
  obtain ⟨k, f, fd, hk, F, b, kp, mg⟩ := G.ex
  exact pe_call0 F (hr.mono hk) hg mg kp b .nil pass0 hdb
theorem pe_mt {pl : Sem Bool} (he : PE X o ta) (G : Km X.prog X.w X.K X.mg X.base L C m ps sp) (hr : Room L X.A) (ha : PA X (e :: es) t)
    (hst : starEach (e :: es) X.env = (false, eval e X.env) :: starEach es X.env := by rfl) (hpl : (backTo pos (starEach es X.env)).any (·.1) = false := by rfl)
    (ht : eval (.Call (.Attribute o m apos) (e :: es) [] pos) X.env = (do
      let ov ← eval o X.env
      standAt apos.atName
      let (f, first) ← holding [ov] (getMethod ov m pl)
      callWith pos f first (backTo pos (starEach (e :: es) X.env)) (backToKw pos (keywordEach [] X.env))) := by rfl) :
    PE X (.Call (.Attribute o m apos) (e :: es) [] pos) (tMeth C m sp [] E0 ta t) := by
  obtain ⟨k, f, fd, hk, F, b, M⟩ := G.ex
  exact pe_meth (pl := pl) he G.cls M F (hr.mono hk) b .nil pass0 ha hst hpl ht
theorem pe_mt0 {pl : Sem Bool} (he : PE X o ta) (G : Km X.prog X.w X.K X.mg X.base L C m ps sp) (hr : Room L X.A)
    (ht : eval (.Call (.Attribute o m apos) [] [] pos) X.env = (do
      let ov ← eval o X.env
      standAt apos.atName
      let (f, first) ← holding [ov] (getMethod ov m pl)
      callWith pos f first (backTo pos (starEach [] X.env)) (backToKw pos (keywordEach [] X.env))) := by rfl) :
    PE X (.Call (.Attribute o m apos) [] [] pos) (tMeth C m sp [] E0 ta tNil) := by
  obtain ⟨k, f, fd, hk, F, b, M⟩ := G.ex
  exact pe_meth0 (pl := pl) he G.cls M F (hr.mono hk) b .nil pass0 ht
theorem pe_mk (G : Kc X.prog X.w X.K X.mg X.base L C x ps sp) (hr : Room L X.A) (ha : PA X (e :: es) t) (hg : Gl X x := by rfl) (hdb : (x == ("__debug__" : Str)) = false := by decide)
    (he : starEach (e :: es) X.env = (false, eval e X.env) :: starEach es X.env := by rfl) (hpl : (backTo pos (starEach es X.env)).any (·.1) = false := by rfl) : PE X (.Call (.Name x p) (e :: es) [] pos) (tMake C sp [] E0 t) := by
  obtain ⟨k, f, fd, hk, F, b, M, mg⟩ := G.ex
  exact pe_make M F (hr.mono hk) hg mg b .nil pass0 ha hdb he hpl
theorem pe_mk0 (G : Kc X.prog X.w X.K X.mg X.base L C x ps sp) (hr : Room L X.A) (hg : Gl X x := by rfl) (hdb : (x == ("__debug__" : Str)) = false := by decide) : PE X (.Call (.Name x p) [] [] pos) (tMake C sp [] E0 tNil) := by
  obtain ⟨k, f, fd, hk, F, b, M, mg⟩ := G.ex
  exact pe_make0 M F (hr.mono hk) hg mg b .nil pass0 hdb
theorem pmk_C (T : Ke X.prog X.w X.K X.mg X.base L C x sp) (hr : Room L X.A) (ha : PA X (e :: es) t) (hg : Gl X x := by rfl) (hdb : (x == ("__debug__" : Str)) = false := by decide)
    (he : starEach (e :: es) X.env = (false, eval e X.env) :: starEach es X.env := by rfl) (hpl : (backTo pos (starEach es X.env)).any (·.1) = false := by rfl) : PMk X (.Call (.Name x p) (e :: es) [] pos) (tMkO C sp [] t) := by
  obtain ⟨B, newId, initId, bmB, fI, k, fd, ps, hk, FB, T, ty, F, b, mg⟩ := T.ex
  exact pmk_bex FB T ty F (hr.mono hk) b hg mg ha hdb he hpl
end
/-! ### calls that may raise, in a try -/
section
variable {X : Cx} {L : Nat} {C : Addr} {ps : List Str} {sp : Sp} {E : St → XK} {x m : Str} {p pos apos : Pos} {e o : Expr} {es : List Expr} {ta : TE} {t : TA}
theorem pe_fnS (G : KfX X.prog X.w X.K X.mg X.base L x ps sp) (hr : Room L X.A) (hx : ∀ σ, PassesAt (L2.CX X.prog X.w) X σ (E σ)) (ha : PA X (e :: es) t) (hg : Gl X x := by rfl) (hdb : (x == ("__debug__" : Str)) = false := by decide)
    (he : starEach (e :: es) X.env = (false, eval e X.env) :: starEach es X.env := by rfl) (hpl : (backTo pos (starEach es X.env)).any (·.1) = false := by rfl) : PE X (.Call (.Name x p) (e :: es) [] pos) (tCallS sp E t) := by
  obtain ⟨k, f, fd, hk, F, b, kp, mg⟩ := G.ex
  exact pe_callS F (hr.mono hk) hg mg kp b hx ha hdb he hpl
def tMethX (C : Addr) (m : Str) (sp : Sp) (E : St → XK) (ta : TE) (t : TA) : TE := fun σ H Q => ta σ H fun x H1 => ∃ a dx fs, x = .ref a ∧ H1 a = some (.ins C dx fs) ∧ fs.lookup m = none ∧ t σ H1 fun vs H2 => sp (x :: vs) H2 Q (E σ)
theorem pe_mtS {pl : Sem Bool} (he : PE X o ta) (G : KmX X.prog X.w X.K X.mg X.base L C m ps sp) (hr : Room L X.A) (hx : ∀ σ, PassesAt (L2.CX X.prog X.w) X σ (E σ)) (ha : PA X (e :: es) t)
    (hst : starEach (e :: es) X.env = (false, eval e X.env) :: starEach es X.env := by rfl) (hpl : (backTo pos (starEach es X.env)).any (·.1) = false := by rfl)
    (ht : eval (.Call (.Attribute o m apos) (e :: es) [] pos) X.env = (do
      let ov ← eval o X.env
      standAt apos.atName
      let (f, first) ← holding [ov] (getMethod ov m pl)
      callWith pos f first (backTo pos (starEach (e :: es) X.env)) (backToKw pos (keywordEach [] X.env))) := by rfl) :
    PE X (.Call (.Attribute o m apos) (e :: es) [] pos) (tMethX C m sp E ta t) := by
  obtain ⟨k, f, fd, hk, F, b, M⟩ := G.ex
  refine ⟨fun pins s σ H Q I h => ?_⟩
  refine PySem.W.methodCall_KW (pl := pl) (thn (he.run pins s σ H _ I h) fun u s1 ⟨x, H1, I1, rx, a, dx, fs, ex, ea, l, q⟩ => ?_) ht
  subst ex
  obtain rfl : u = Value.ref a := rx
  refine getmeth_ok I1 ea G.cls M l ?_
  refine PySem.W.callWith_K (first := [.ref a]) (h₀ := X.base) I.ok.mod.kin M.kp (thn (ha.run pos pins s1 σ H1 _ I1 q) fun us s2 ⟨vs, H2, I2, r, q2⟩ => ⟨I2.kIn, ?_⟩) hst hpl
  exact run_fnS (us := .ref a :: us) (vs := .ref a :: vs) F (hr.mono hk) b (hx σ) I2 (.cons rfl r) q2
theorem pe_mtS0 {pl : Sem Bool} (he : PE X o ta) (G : KmX X.prog X.w X.K X.mg X.base L C m ps sp) (hr : Room L X.A) (hx : ∀ σ, PassesAt (L2.CX X.prog X.w) X σ (E σ))
    (ht : eval (.Call (.Attribute o m apos) [] [] pos) X.env = (do
      let ov ← eval o X.env
      standAt apos.atName
      let (f, first) ← holding [ov] (getMethod ov m pl)
      callWith pos f first (backTo pos (starEach [] X.env)) (backToKw pos (keywordEach [] X.env))) := by rfl) :
    PE X (.Call (.Attribute o m apos) [] [] pos) (tMethX C m sp E ta tNil) := by
  obtain ⟨k, f, fd, hk, F, b, M⟩ := G.ex
  refine ⟨fun pins s σ H Q I h => ?_⟩
  refine PySem.W.methodCall_KW (pl := pl) (thn (he.run pins s σ H _ I h) fun u s1 ⟨x, H1, I1, rx, a, dx, fs, ex, ea, l, q⟩ => ?_) ht
  subst ex
  obtain rfl : u = Value.ref a := rx
  refine getmeth_ok I1 ea G.cls M l ?_
  exact PySem.W.callWith_K0 (first := [.ref a]) I1.kIn M.kp (run_fnS (us := [.ref a]) (vs := [.ref a]) F (hr.mono hk) b (hx σ) I1 (.cons rfl .nil) q)
end
/-! ### what an error is made with -/
abbrev mroV : List Value := [.type "ValueError", .type "Exception", .type "BaseException", .type "object"]
abbrev mroL : List Value := [.type "LookupError", .type "Exception", .type "BaseException", .type "object"]
abbrev mroR : List Value := [.type "RuntimeError", .type "Exception", .type "BaseException", .type "object"]
theorem ty_V : typeOf (.type "ValueError") = pure (.type "type") := by kernel_rfl
theorem ty_L : typeOf (.type "LookupError") = pure (.type "type") := by kernel_rfl
theorem ty_R : typeOf (.type "RuntimeError") = pure (.type "type") := by kernel_rfl
/-- a number or a word that an error is made with -/
def Said (y : V) : Prop := (∃ i : Int, y = .int i ∧ i.natAbs.log2 < 900) ∨ ∃ z : Str, y = .str z ∧ z.length ≤ 1000
theorem said_fmt {y : V} (h : Said y) : ∃ m : Str, m.length ≤ 1000 ∧ ∀ (σ : L2.St) (j : Nat) (H : Hp) (Q : VK), σ[j]? = some (some y) → Q (.str m) H → tFmt (tVar j) σ H Q := by
  rcases h with ⟨i, rfl, hi⟩ | ⟨z, rfl, hz⟩
  · refine ⟨toString i, ?_, fun σ j H Q e q => ⟨_, e, .inr ⟨i, rfl, by omega, q⟩⟩⟩
    have e := int_text_length_le (k := 900) (by decide) hi
    rw [PySem.ofString_length]
    omega
  · exact ⟨z, hz, fun σ j H Q e q => ⟨_, e, .inl ⟨z, rfl, Nat.le_trans hz (by decide), q⟩⟩⟩
theorem len_add {a b : Str} {n m k : Nat} (ha : a.length ≤ n) (hb : b.length ≤ m) (h : n + m ≤ k) : (a ++ b).length ≤ k := by
  rw [strLen_append]
  omega
def spInit0 (C : Addr) : Sp := fun vs H Q _ => ∃ a : Addr, vs = [.ref a] ∧ H a = some (exo a C none) ∧ Q .non H
def spInit (C : Addr) (f : Str) : Sp := fun vs H Q _ => ∃ (a : Addr) (y : V), vs = [.ref a, y] ∧ H a = some (exo a C none) ∧ Said y ∧
  ∀ dx, H dx = none → dx ≠ a → Q .non (upd (upd H dx (exd dx [(f, y)])) a (exo a C (some dx)))
theorem sz0 : (Str.empty : Str).length ≤ 0 := by decide +kernel
theorem small_line {n : Nat} (h : n ≤ 100000) : n ≤ sizeLine := Nat.le_trans h (by decide)
end L2
namespace Evl
open PySem L2
/-! ### heaps that change within M -/
def Xc (M : List Addr) (H H' : Hp) : Prop := ∀ a o, a ∉ M → H a = some o → H' a = some o
theorem Xc.of {M : List Addr} {H H' : Hp} (e : Ex H H') : Xc M H H' := fun a o _ h => e a o h
theorem Xc.trans {M : List Addr} {H H1 H2 : Hp} (a : Xc M H H1) (b : Xc M H1 H2) : Xc M H H2 := fun x o n h => b x o n (a x o n h)
theorem Xc.sub {M M' : List Addr} {H H' : Hp} (e : Xc M H H') (h : ∀ a ∈ M, a ∈ M') : Xc M' H H' := fun a o n g => e a o (fun z => n (h a z)) g
theorem Xc.put {M : List Addr} {H H' : Hp} {p : Addr} {o : HO} (e : Xc M H H') (h : p ∈ M) : Xc M H (upd H' p o) := fun a u n g => by
  have ne : a ≠ p := fun z => n (by rw [z]; exact h)
  rw [upd_ne ne]
  exact e a u n g
theorem Xc.new {M : List Addr} {H H' : Hp} {p : Addr} {o : HO} (e : Xc M H H') (h : H p = none) : Xc M H (upd H' p o) := fun a u n g => by
  rw [upd_ne (ne_of_none g h)]
  exact e a u n g
theorem Xc.refl (M : List Addr) (H : Hp) : Xc M H H := fun _ _ _ h => h
section
variable {K : PySem.W.Frag} {σ : L2.St} {H H' : Hp} {ta tb te tx : TE} {t : TA} {x y z v : V} {Q : VK} {D : Ends} {tz : TS}
/-- a call, whatever it does -/
theorem ef_call {sp : Sp} {vs : List V} {E : XK} (h : EvA t σ H vs) (k : ∀ H1, Ex H H1 → sp vs H1 Q E) : tCall sp [] E t σ H Q := h H (Ex.refl H) _ fun H1 e => by
  show sp (vs ++ []) H1 Q E
  rw [List.append_nil]
  exact k H1 e
theorem ef_meth {C : Addr} {m : Str} {sp : Sp} {E : XK} {vs : List V} {a dx : Addr} {fs : List (Str × V)} (ho : Ev ta σ H (.ref a)) (he : H a = some (.ins C dx fs)) (hl : fs.lookup m = none) (h : EvA t σ H vs) (k : ∀ H1, Ex H H1 → sp (.ref a :: vs) H1 Q E) : tMeth C m sp [] E ta t σ H Q :=
  ho H (Ex.refl H) _ fun H1 e1 => ⟨a, dx, fs, rfl, e1 _ _ he, hl, h H1 e1 _ fun H2 e2 => by
    show sp (.ref a :: (vs ++ [])) H2 Q E
    rw [List.append_nil]
    exact k H2 (e1.trans e2)⟩
theorem ef_methX {C : Addr} {m : Str} {sp : Sp} {E : L2.St → XK} {vs : List V} {a dx : Addr} {fs : List (Str × V)} (ho : Ev ta σ H (.ref a)) (he : H a = some (.ins C dx fs)) (hl : fs.lookup m = none) (h : EvA t σ H vs) (k : ∀ H1, Ex H H1 → sp (.ref a :: vs) H1 Q (E σ)) : tMethX C m sp E ta t σ H Q :=
  ho H (Ex.refl H) _ fun H1 e1 => ⟨a, dx, fs, rfl, e1 _ _ he, hl, h H1 e1 _ fun H2 e2 => k H2 (e1.trans e2)⟩
theorem ef_ev (h : Ev te σ H v) (k : ∀ H1, Ex H H1 → Q v H1) : te σ H Q := h H (Ex.refl H) _ k
/-- o.f = e -/
theorem s_fld {f : Str} {a C dx : Addr} {fs : List (Str × V)} (hv : Ev te σ H v) (ho : Ev ta σ H (.ref a)) (he : H a = some (.ins C dx fs)) (c : Cls K C) (n : NoAttr K C f) (hl : fs.length < 1000) (k : ∀ H1, Ex H H1 → D.nx σ (upd H1 a (.ins C dx (putF f v fs)))) : sFld K ta te f D σ H :=
  hv H (Ex.refl H) _ fun H1 e1 => ho H1 e1 _ fun H2 e2 => ⟨a, C, dx, fs, rfl, (e1.trans e2) _ _ he, c, n, hl, k H2 (e1.trans e2)⟩
theorem q_fld {f : Str} {a C dx : Addr} {fs : List (Str × V)} (hv : Ev te σ H v) (ho : Ev ta σ H (.ref a)) (he : H a = some (.ins C dx fs)) (c : Cls K C) (n : NoAttr K C f) (hl : fs.length < 1000) (k : ∀ H1, Ex H H1 → tz D σ (upd H1 a (.ins C dx (putF f v fs)))) : tSeq (sFld K ta te f) tz D σ H :=
  s_fld (D := { D with nx := tz D }) hv ho he c n hl k
theorem s_fldL {f : Str} {a C dx : Addr} {fs : List (Str × V)} {xs : List V} (hv : EvL te σ H xs) (ho : Ev ta σ H (.ref a)) (he : H a = some (.ins C dx fs)) (c : Cls K C) (n : NoAttr K C f) (hl : fs.length < 1000) (k : ∀ p H1, H p = none → Ex H H1 → H1 p = some (.lst xs) → D.nx σ (upd H1 a (.ins C dx (putF f (.ref p) fs)))) : sFld K ta te f D σ H :=
  hv H (Ex.refl H) _ fun p H1 np e1 gp => ho H1 e1 _ fun H2 e2 => ⟨a, C, dx, fs, rfl, (e1.trans e2) _ _ he, c, n, hl, k p H2 np (e1.trans e2) (e2 _ _ gp)⟩
theorem q_fldL {f : Str} {a C dx : Addr} {fs : List (Str × V)} {xs : List V} (hv : EvL te σ H xs) (ho : Ev ta σ H (.ref a)) (he : H a = some (.ins C dx fs)) (c : Cls K C) (n : NoAttr K C f) (hl : fs.length < 1000) (k : ∀ p H1, H p = none → Ex H H1 → H1 p = some (.lst xs) → tz D σ (upd H1 a (.ins C dx (putF f (.ref p) fs)))) : tSeq (sFld K ta te f) tz D σ H :=
  s_fldL (D := { D with nx := tz D }) hv ho he c n hl k
/-- raise C(e) -/
theorem s_raise {C : Addr} {f : Str} {W : XK} (h : Ev te σ H v) (sv : Said v) (k : ∀ d H1, H d = none → Ex H H1 → H1 d = some (.xd [(f, v)]) → W (.ref C) (some d) H1) : tMkO C (spInit C f) [] (tCons te tNil) σ H W :=
  h H (Ex.refl H) _ fun H1 e1 => ⟨by show 1 ≤ 1000; omega, fun a na => ⟨a, v, rfl, upd_same, sv, fun dx nd ne => ⟨rfl, dx, _, upd_same, by rw [upd_ne ne, upd_same], by rw [upd_ne ne] at nd; exact nd, by
    rw [upd_ne ne] at nd
    refine k dx _ (fresh_back e1 nd) (fun b o hb => ?_) upd_same
    have g1 := e1 b o hb
    rw [upd_ne (ne_of_none g1 nd), del_ne (ne_of_none g1 na), upd_ne (ne_of_none g1 na), upd_ne (ne_of_none g1 nd), upd_ne (ne_of_none g1 na)]
    exact g1⟩⟩⟩
/-- d[k] = v, d a dict with text or int keys -/
theorem s_dput {d : Addr} {kvs : List (Key × V)} {ky : Key} {td tk : TE} (hz : kvs.length < 100000) (hv : Ev te σ H v) (hd : Ev td σ H (.ref d)) (hk : Ev tk σ H (kV ky)) (e : H d = some (.dK kvs)) (k : ∀ H1, Ex H H1 → D.nx σ (upd H1 d (.dK (putK kvs ky v)))) : sDPut td tk te D σ H :=
  hv H (Ex.refl H) _ fun H1 e1 => hd H1 e1 _ fun H2 e2 => hk H2 (e1.trans e2) _ fun H3 e3 => ⟨d, _, rfl, DPut.k (((e1.trans e2).trans e3) _ _ e) (sz_lt hz), k H3 ((e1.trans e2).trans e3)⟩
theorem q_dput {d : Addr} {kvs : List (Key × V)} {ky : Key} {td tk : TE} (hz : kvs.length < 100000) (hv : Ev te σ H v) (hd : Ev td σ H (.ref d)) (hk : Ev tk σ H (kV ky)) (e : H d = some (.dK kvs)) (k : ∀ H1, Ex H H1 → tz D σ (upd H1 d (.dK (putK kvs ky v)))) : tSeq (sDPut td tk te) tz D σ H :=
  s_dput (D := { D with nx := tz D }) hz hv hd hk e k
variable {td : TE}
def rSrtD : List V → Hp → VK → Prop := fun xs H Q => ∃ (a : Addr) (kvs : List (Key × V)) (ks : List Int), xs = [.ref a] ∧ Rd H a (.dK kvs) ∧ kvs.map (·.1) = ks.map Sum.inl ∧ ks.length < 64 ∧ ∀ (ys : List Int) (p : Addr), ys.Perm ks → ys.Pairwise (· ≤ ·) → H p = none → Q (.ref p) (upd H p (.lst (ys.map V.int)))
theorem el_srtD {d : Addr} {kvs : List (Key × V)} {ks : List Int} (hd : Ev td σ H (.ref d)) (e0 : Rd H d (.dK kvs)) (hk : kvs.map (·.1) = ks.map Sum.inl) (nd : ks.Nodup) (hl : ks.length < 64) : EvL (tCB rSrtD (tCons td tNil)) σ H ((KB.asc ks).map V.int) := fun H1 e Q q =>
  hd H1 e _ fun H2 e2 => ⟨d, kvs, ks, rfl, ex_rd (e.trans e2) e0, hk, hl, fun ys p pm so np => by
    have ey : ys = KB.asc ks := KB.asc_eq (by
      have nd' : ys.Nodup := pm.nodup_iff.mpr nd
      exact List.Pairwise.imp (fun h => by have h1 := h.1; have h2 := h.2; omega) (so.and nd')) fun k => pm.mem_iff
    subst ey
    exact q p _ (fresh_back e2 np) (e2.trans (Ex.new np)) upd_same⟩
theorem cr_srtD {X : Cx} (hc : X.calm = true) : CallR X (.builtin "sorted") rSrtD := call_sortedDI hc
/-- a dict's length -/
theorem ev_lenD {d : Addr} {kvs : List (Key × V)} (h : Ev ta σ H (.ref d)) (e0 : H d = some (.dK kvs)) : Ev (tCB (fun xs H Q => ∃ a kvs, xs = [V.ref a] ∧ H a = some (.dK kvs) ∧ Q (.int kvs.length) H) (tCons ta tNil)) σ H (.int kvs.length) := fun H1 e Q q =>
  h H1 e _ fun H2 e2 => ⟨d, kvs, rfl, (e.trans e2) _ _ e0, q H2 e2⟩
theorem ev_notN (h : Ev ta σ H x) : Ev (tNotN ta) σ H (.bl (!decide (x = .non))) := fun H1 e Q q => h H1 e _ fun H2 e2 => q H2 e2
/-- a list's or a tuple's item, by what it reads -/
theorem rv_ixq {p : Addr} {xs : List V} {i : Nat} (h : H p = some (.lst xs) ∨ H p = some (.tup xs)) (ha : xs[i]? = some v) : RV (rIx K) (.ref p) (.int (i : Int)) H v := fun H1 e _ q => by
  rcases h with h | h
  · exact .inl ⟨p, xs, _, v, rfl, rfl, sq_of (e _ _ h), atI_nat ha, q H1 (Ex.refl H1)⟩
  · exact .inr (.inl ⟨p, xs, _, v, rfl, rfl, st_of (e _ _ h), atI_nat ha, q H1 (Ex.refl H1)⟩)
end
end Evl
set_option Elab.async false
set_option linter.all false
set_option maxRecDepth 100000
set_option maxHeartbeats 4000000
namespace Evl
open PySem L2
section
variable {K : PySem.W.Frag} {σ : L2.St} {H H' G : Hp} {ta tb te tx td tl : TE} {t : TT}
theorem eu_if {b : Bool} {xs : List V} (h : EvT t σ H b) (h1 : b = true → EvU ta σ H xs) (h2 : b = false → EvU tb σ H xs) : EvU (tIf t ta tb) σ H xs := fun H1 e Q q => h H1 e _ fun H2 e2 => by
  cases b with
  | true =>
    show ta σ H2 Q
    exact h1 rfl H2 (e.trans e2) Q fun p H3 np e3 g => q p H3 (fresh_back e2 np) (e2.trans e3) g
  | false =>
    show tb σ H2 Q
    exact h2 rfl H2 (e.trans e2) Q fun p H3 np e3 g => q p H3 (fresh_back e2 np) (e2.trans e3) g
theorem eu_nil : EvU (tTup tNil) σ H [] := eu_tup ea_nil (by show 0 ≤ 100000; omega)
def rTupOf (K : PySem.W.Frag) : List V → Hp → VK → Prop := fun xs H Q => ∃ p ys, xs = [.ref p] ∧ ((SqL K H p ys ∧ ∀ l, H l = none → Q (.ref l) (upd H l (.tup ys))) ∨ (SqT K H p ys ∧ Q (.ref p) H))
theorem eu_tupOf {a : Addr} {xs : List V} (h : Ev ta σ H (.ref a)) (g : H a = some (.lst xs)) : EvU (tCB (rTupOf K) (tCons ta tNil)) σ H xs := fun H1 e Q q =>
  h H1 e _ fun H2 e2 => ⟨a, xs, rfl, .inl ⟨sq_of (e2 _ _ (e _ _ g)), fun l nl => q l _ (fresh_back e2 nl) (e2.trans (Ex.new nl)) upd_same⟩⟩
end
end Evl
namespace KB
open PySem PySem.Spec PyProof.Rows L2 Evl
/-! ### data that are made -/
/-- a datum that holds nothing of what came since H -/
def EvM (te : TE) (σ : L2.St) (H : Hp) (d : PyData) : Prop := ∀ (Mk : List Addr) H1, Ex H H1 → (∀ b ∈ Mk, H b = none ∧ H1 b ≠ none) → ∀ Q : VK, (∀ v H2, Ex H1 H2 → Dx (mask H2 Mk) v d → Q v H2) → te σ H1 Q
theorem DxAll.app {H : Hp} : ∀ {vs us : List V} {ds es : List PyData}, DxAll H vs ds → DxAll H us es → DxAll H (vs ++ us) (ds ++ es)
  | _, _, _, _, .nil, k => k
  | _, _, _, _, .cons h t, k => .cons h (DxAll.app t k)
theorem mask_ex {H H1 : Hp} {Mk : List Addr} (e : Ex H H1) (h : ∀ b ∈ Mk, H b = none) : Ex H (mask H1 Mk) := fun b o hb => mask_of (e b o hb) fun m => by rw [h b m] at hb; cases hb
theorem mask_sub (H : Hp) (Mk : List Addr) : Ex (mask H Mk) H := fun b o h => (mask_at h).1
theorem Dx.unmask {H : Hp} {Mk : List Addr} {v : V} {d : PyData} (h : Dx (mask H Mk) v d) : Dx H v d := h.mono (mask_sub H Mk)
section
variable {K : PySem.W.Frag} {σ : L2.St} {H H' : Hp} {ta tb te tx tl : TE} {t : TT} {d : PyData}
theorem EvM.x (h : EvM te σ H d) : EvX te σ H d := fun H1 e Q q => h [] H1 e (fun b m => nomatch m) Q fun v H2 e2 g => q v H2 e2 g.unmask
theorem em_tup {ta : TA} {vs : List V} {ds : List PyData} (h : EvA ta σ H vs) (hd : DxAll H vs ds) (hl : vs.length ≤ 100000) : EvM (tTup ta) σ H (.tuple ds) := fun Mk H1 e hM Q q =>
  h H1 e _ fun H2 e2 => ⟨sz_of hl, fun p np => q _ _ (e2.trans (Ex.new np)) (.tup (mask_of upd_same fun m => (hM p m).2 (fresh_back e2 np)) (hd.mono (mask_ex ((e.trans e2).trans (Ex.new np)) fun b m => (hM b m).1)))⟩
theorem ex_cat {ds es : List PyData} (ha : EvX ta σ H (.list ds)) (hb : EvX tb σ H (.list es)) (hz : ds.length + es.length ≤ 100000) : EvX (tOp rCat ta tb) σ H (.list (ds ++ es)) := fun H1 e Q q =>
  ha H1 e _ fun v H2 e2 dv => hb H2 (e.trans e2) _ fun u H3 e3 du => by
    cases dv with
    | @lst a xs _ ga hx =>
      cases du with
      | @lst b ys _ gb hy =>
        refine ⟨a, b, xs, ys, rfl, rfl, e3 _ _ ga, gb, sz_of (by rw [hx.length, hy.length]; exact hz), fun p np => q _ _ ((e2.trans e3).trans (Ex.new np)) ?_⟩
        exact .lst upd_same (((hx.mono e3).app hy).mono (Ex.new np))
theorem ev_x {v : V} (h : Ev te σ H v) (g : Dx H v d) : EvX te σ H d := fun H1 e Q q => h H1 e _ fun H2 e2 => q v H2 e2 (g.mono (e.trans e2))
/-- the list of data that is made, behind i turns -/
def MadeX {α : Type} (H1 : Hp) (xs : List α) (p : α → Bool) (g : α → PyData) (Dl : Addr) (i : Nat) (G : Hp) : Prop := H1 Dl = none ∧ Ex H1 G ∧ ∃ acc, G Dl = some (.lst acc) ∧ DxAll (mask G [Dl]) acc (((xs.take i).filter p).map g)
theorem madeX_turn {α : Type} {H1 G : Hp} {xs : List α} {p : α → Bool} {g : α → PyData} {Dl : Addr} {i : Nat} {b : α} {σ2 : L2.St} (m : MadeX H1 xs p g Dl i G) (hz : xs.length ≤ 40000) (eb : xs[i]? = some b) (ht : EvT t σ2 H1 (p b)) (he : p b = true → EvM te σ2 H1 (g b)) :
    t σ2 G fun c H3 => if c = true then te σ2 H3 fun y H4 => ∃ acc, H4 Dl = some (.lst acc) ∧ acc.length < sizeLine ∧ MadeX H1 xs p g Dl (i + 1) (upd H4 Dl (.lst (acc ++ [y]))) else MadeX H1 xs p g Dl (i + 1) H3 := by
  obtain ⟨n1, eG, acc, gD, da⟩ := m
  have nx : (xs.take (i + 1)).filter p = (xs.take i).filter p ++ if p b = true then [b] else [] := by
    rw [List.take_add_one, eb, List.filter_append]
    show _ ++ List.filter p [b] = _
    cases hp : p b <;> simp [hp]
  refine ht G eG _ fun G2 e2 => ?_
  cases hp : p b with
  | true =>
    refine iteT (he hp [Dl] G2 (eG.trans e2) (fun c mc => by rw [List.mem_singleton.mp mc]; exact ⟨n1, by rw [e2 _ _ gD]; exact fun z => nomatch z⟩) _ fun v G3 e3 dv => ⟨acc, e3 _ _ (e2 _ _ gD), ?_, n1, Ex.mut (eG.trans (e2.trans e3)) n1, acc ++ [v], upd_same, ?_⟩)
    · rw [da.length, List.length_map]
      exact sz_lt (by have h1 := List.length_filter_le p (xs.take i); have h2 := List.length_take_le i xs; have h3 := (List.getElem?_eq_some_iff.mp eb).1; omega)
    · rw [mask_upd (List.mem_singleton.mpr rfl), nx, hp, List.map_append]
      exact (da.mono (mask_same (e2.trans e3) fun _ _ _ z => z)).snoc dv
  | false =>
    refine iteF ⟨n1, eG.trans e2, acc, e2 _ _ gD, ?_⟩
    rw [nx, hp]
    simpa using da.mono (mask_same e2 fun _ _ _ z => z)
theorem madeX_end {α : Type} {H1 G : Hp} {xs : List α} {p : α → Bool} {g : α → PyData} {Dl : Addr} (m : MadeX H1 xs p g Dl xs.length G) : Dx G (.ref Dl) (.list ((xs.filter p).map g)) := by
  obtain ⟨_, _, acc, gD, da⟩ := m
  rw [List.take_length] at da
  exact .lst gD (da.mono (mask_sub G _))
/-- [e for x in xs if t], e a new datum; xs a new list -/
theorem ex_lcN {α : Type} {xs : List α} {j : Nat} {vs : List Nat} (emb : α → V) (p : α → Bool) (g : α → PyData) (h : EvL tl σ H (xs.map emb)) (hz : xs.length ≤ 40000) (hw : ∀ x, wipe ((wipe σ vs).set j (some x)) vs = wipe σ vs)
    (ht : ∀ b ∈ xs, ∀ H1, Ex H H1 → EvT t ((wipe σ vs).set j (some (emb b))) H1 (p b)) (he : ∀ b ∈ xs, p b = true → ∀ H1, Ex H H1 → EvM te ((wipe σ vs).set j (some (emb b))) H1 (g b)) :
    EvX (tLc (iList K tl) (gName j) t te vs) σ H (.list ((xs.filter p).map g)) := fun H0 e0 Q q => by
  have len : (xs.map emb).length = xs.length := List.length_map _
  refine h H0 e0 _ fun a H1 na e1 ga => ⟨a, rfl, ⟨_, sq_of ga⟩, fun Dl hD => lc_it (walk_list (K := K) (a := a) (xs := xs.map emb)) (MadeX H1 xs p g Dl) ⟨hD, Ex.new hD, [], upd_same, .nil⟩ (fun i G _ m => sq_of (m.2.1 _ _ ga)) ?_ fun G m => ?_⟩
  · rintro i x G _ hi m ⟨rfl, ex⟩
    rw [List.getElem?_map] at ex
    obtain ⟨b, eb, rfl⟩ := Option.map_eq_some_iff.mp ex
    have mb := List.mem_of_getElem? eb
    exact ⟨hw _, madeX_turn m hz eb (ht b mb H1 (e0.trans e1)) (fun hp => he b mb hp H1 (e0.trans e1))⟩
  · rw [len] at m
    exact q _ G (e1.trans m.2.1) (madeX_end m)
/-- .. xs a list that stands -/
theorem ex_lcV {α : Type} {xs : List α} {j : Nat} {vs : List Nat} {a : Addr} (emb : α → V) (p : α → Bool) (g : α → PyData) (h : Ev tl σ H (.ref a)) (hx : SqL K H a (xs.map emb)) (hz : xs.length ≤ 40000) (hw : ∀ x, wipe ((wipe σ vs).set j (some x)) vs = wipe σ vs)
    (ht : ∀ b ∈ xs, ∀ H1, Ex H H1 → EvT t ((wipe σ vs).set j (some (emb b))) H1 (p b)) (he : ∀ b ∈ xs, p b = true → ∀ H1, Ex H H1 → EvM te ((wipe σ vs).set j (some (emb b))) H1 (g b)) :
    EvX (tLc (iList K tl) (gName j) t te vs) σ H (.list ((xs.filter p).map g)) := fun H0 e0 Q q => by
  have len : (xs.map emb).length = xs.length := List.length_map _
  refine h H0 e0 _ fun H1 e1 => ⟨a, rfl, ⟨_, ex_l (e0.trans e1) hx⟩, fun Dl hD => lc_it (walk_list (K := K) (a := a) (xs := xs.map emb)) (MadeX H1 xs p g Dl) ⟨hD, Ex.new hD, [], upd_same, .nil⟩ (fun i G _ m => ex_l (e0.trans (e1.trans m.2.1)) hx) ?_ fun G m => ?_⟩
  · rintro i x G _ hi m ⟨rfl, ex⟩
    rw [List.getElem?_map] at ex
    obtain ⟨b, eb, rfl⟩ := Option.map_eq_some_iff.mp ex
    have mb := List.mem_of_getElem? eb
    exact ⟨hw _, madeX_turn m hz eb (ht b mb H1 (e0.trans e1)) (fun hp => he b mb hp H1 (e0.trans e1))⟩
  · rw [len] at m
    exact q _ G (e1.trans m.2.1) (madeX_end m)
end
def EvXA (ta : TA) (σ : L2.St) (H : Hp) (ds : List PyData) : Prop := ∀ H1, Ex H H1 → ∀ Q : List V → Hp → Prop, (∀ vs H2, Ex H1 H2 → DxAll H2 vs ds → Q vs H2) → ta σ H1 Q
section
variable {K : PySem.W.Frag} {σ : L2.St} {H H' : Hp} {ta tb te tl : TE} {tx : TA} {t : TT} {d : PyData} {ds : List PyData} {v : V} {ns : List Int}
theorem xa_nil : EvXA tNil σ H [] := fun H1 _ Q q => q [] H1 (Ex.refl H1) .nil
theorem xa_cons (h : EvX ta σ H d) (h2 : EvXA tx σ H ds) : EvXA (tCons ta tx) σ H (d :: ds) := fun H1 e Q q =>
  h H1 e _ fun v H2 e2 g2 => h2 H2 (e.trans e2) _ fun vs H3 e3 g3 => q (v :: vs) H3 (e2.trans e3) (.cons (g2.mono e3) g3)
theorem ex_tupA (h : EvXA tx σ H ds) (hz : ds.length ≤ 100000) : EvX (tTup tx) σ H (.tuple ds) := fun H1 e Q q =>
  h H1 e _ fun vs H2 e2 g2 => ⟨by rw [g2.length]; exact sz_of hz, fun l nl => q _ _ (e2.trans (Ex.new nl)) (.tup upd_same (g2.mono (Ex.new nl)))⟩
theorem ex_lstA (h : EvXA tx σ H ds) (hz : ds.length ≤ 100000) : EvX (tLst tx) σ H (.list ds) := fun H1 e Q q =>
  h H1 e _ fun vs H2 e2 g2 => ⟨by rw [g2.length]; exact sz_of hz, fun l nl => q _ _ (e2.trans (Ex.new nl)) (.lst upd_same (g2.mono (Ex.new nl)))⟩
def cutL {α : Type} (xs : List α) (lo hi : Option Int) : List α := (xs.drop (HT.sIx xs.length 0 lo)).take (HT.sIx xs.length xs.length hi - HT.sIx xs.length 0 lo)
theorem cutL_mem {α : Type} {xs : List α} {lo hi : Option Int} {x : α} (h : x ∈ cutL xs lo hi) : x ∈ xs := List.mem_of_mem_drop (List.mem_of_mem_take h)
theorem cutL_len {α : Type} (xs : List α) (lo hi : Option Int) : (cutL xs lo hi).length ≤ xs.length := by
  unfold cutL
  rw [List.length_take, List.length_drop]
  omega
theorem DxAll.drop {H : Hp} : ∀ {xs : List V} {ds : List PyData} (n : Nat), DxAll H xs ds → DxAll H (xs.drop n) (ds.drop n)
  | _, _, 0, h => h
  | _, _, n + 1, .nil => .nil
  | _, _, n + 1, .cons _ t => DxAll.drop n t
theorem DxAll.take {H : Hp} : ∀ {xs : List V} {ds : List PyData} (n : Nat), DxAll H xs ds → DxAll H (xs.take n) (ds.take n)
  | _, _, 0, _ => .nil
  | _, _, n + 1, .nil => .nil
  | _, _, n + 1, .cons h t => .cons h (DxAll.take n t)
theorem DxAll.cut {H : Hp} {xs : List V} {ds : List PyData} (h : DxAll H xs ds) (lo hi : Option Int) : DxAll H (cutV xs lo hi) (cutL ds lo hi) := by
  unfold cutV cutL
  rw [h.length]
  exact (h.drop _).take _
/-- xs[lo:hi] -/
theorem ex_cutL {to1 to2 : TO} {lo hi : Option Int} (h : Ev ta σ H v) (g : Dx H v (.list ds)) (h1 : ∀ H1 Q, Q lo H1 → to1 σ H1 Q) (h2 : ∀ H1 Q, Q hi H1 → to2 σ H1 Q) : EvX (tSl (rSlL K) ta to1 to2) σ H (.list (cutL ds lo hi)) := fun H1 e Q q =>
  h H1 e _ fun H2 e2 => h1 H2 _ (h2 H2 _ (by
    have g2 := g.mono (e.trans e2)
    cases g2 with
    | @lst a xs _ ga hx => exact ⟨a, xs, rfl, sq_of ga, fun p np => q _ _ (e2.trans (Ex.new np)) (.lst upd_same ((hx.cut lo hi).mono (Ex.new np)))⟩))
theorem cut_whole {α : Type} {xs : List α} {lo hi : Option Int} (h : HT.sIx xs.length 0 lo = 0 ∧ HT.sIx xs.length xs.length hi = xs.length) : cutL xs lo hi = xs := by
  unfold cutL
  rw [h.1, h.2, List.drop_zero, Nat.sub_zero, List.take_length]
theorem ex_cutT {to1 to2 : TO} {lo hi : Option Int} (h : Ev ta σ H v) (g : Dx H v (.tuple ds)) (h1 : ∀ H1 Q, Q lo H1 → to1 σ H1 Q) (h2 : ∀ H1 Q, Q hi H1 → to2 σ H1 Q) : EvX (tSl (rSlA K) ta to1 to2) σ H (.tuple (cutL ds lo hi)) := fun H1 e Q q =>
  h H1 e _ fun H2 e2 => h1 H2 _ (h2 H2 _ (by
    have g2 := g.mono (e.trans e2)
    cases g2 with
    | @tup a xs _ ga hx =>
      refine ⟨a, xs, rfl, st_of ga, fun hw => ?_, fun _ p np => q _ _ (e2.trans (Ex.new np)) (.tup upd_same ((hx.cut lo hi).mono (Ex.new np)))⟩
      rw [hx.length] at hw
      rw [cut_whole hw] at q
      exact q _ H2 e2 (.tup ga hx)))
theorem DxAll.rev {H : Hp} : ∀ {xs : List V} {ds : List PyData}, DxAll H xs ds → DxAll H xs.reverse ds.reverse
  | _, _, .nil => .nil
  | _, _, .cons h t => by
    rw [List.reverse_cons, List.reverse_cons]
    exact (DxAll.rev t).app (.cons h .nil)
theorem ex_tupOf (h : Ev ta σ H v) (g : Dx H v (.list ds)) : EvX (tCB (rTupOf K) (tCons ta tNil)) σ H (.tuple ds) := fun H1 e Q q =>
  h H1 e _ fun H2 e2 => by
    have g2 := g.mono (e.trans e2)
    cases g2 with
    | @lst a xs _ ga hx => exact ⟨a, xs, rfl, .inl ⟨sq_of ga, fun p np => q _ _ (e2.trans (Ex.new np)) (.tup upd_same (hx.mono (Ex.new np)))⟩⟩
theorem ex_listOf (h : Ev ta σ H v) (g : Dx H v (.tuple ds)) : EvX (tCB (fun xs H Q => ∃ p ys, xs = [.ref p] ∧ (SqL K H p ys ∨ SqT K H p ys) ∧ ∀ l, H l = none → Q (.ref l) (upd H l (.lst ys))) (tCons ta tNil)) σ H (.list ds) := fun H1 e Q q =>
  h H1 e _ fun H2 e2 => by
    have g2 := g.mono (e.trans e2)
    cases g2 with
    | @tup a xs _ ga hx => exact ⟨a, xs, rfl, .inr (st_of ga), fun p np => q _ _ (e2.trans (Ex.new np)) (.lst upd_same (hx.mono (Ex.new np)))⟩
/-- t + u -/
theorem ex_catT {es : List PyData} (h : EvX ta σ H (.tuple ds)) (h2 : EvX tb σ H (.tuple es)) (hz : ds.length + es.length ≤ 100000) : EvX (tOp (rCatA K) ta tb) σ H (.tuple (ds ++ es)) := fun H1 e Q q =>
  h H1 e _ fun v H2 e2 g2 => h2 H2 (e.trans e2) _ fun u H3 e3 g3 => by
    have g2 := g2.mono e3
    cases g2 with
    | @tup a xs _ ga hx =>
      cases g3 with
      | @tup b ys _ gb hy =>
        have lx := hx.length
        have ly := hy.length
        refine ⟨a, b, xs, ys, rfl, rfl, st_of ga, st_of gb, sz_of (by omega), fun z => ?_, fun _ z => ?_, fun _ _ p np => q _ _ ((e2.trans e3).trans (Ex.new np)) (.tup upd_same ((hx.mono (Ex.new np)).app (hy.mono (Ex.new np))))⟩
        · have : ds = [] := List.length_eq_zero_iff.mp (by rw [← lx, z]; rfl)
          subst this
          exact q _ H3 (e2.trans e3) (.tup gb hy)
        · have : es = [] := List.length_eq_zero_iff.mp (by rw [← ly, z]; rfl)
          subst this
          rw [List.append_nil] at q
          exact q _ H3 (e2.trans e3) (.tup ga hx)
end
section
variable {K : PySem.W.Frag} {σ : L2.St} {H H' : Hp} {ta tb te tx tl : TE} {t : TT} {d : PyData}
theorem ex_if {b : Bool} {d : PyData} (h : EvT t σ H b) (h1 : b = true → EvX ta σ H d) (h2 : b = false → EvX tb σ H d) : EvX (tIf t ta tb) σ H d := fun H1 e Q q => h H1 e _ fun H2 e2 => by
  cases b with
  | true =>
    show ta σ H2 Q
    exact h1 rfl H2 (e.trans e2) Q fun v H3 e3 g => q v H3 (e2.trans e3) g
  | false =>
    show tb σ H2 Q
    exact h2 rfl H2 (e.trans e2) Q fun v H3 e3 g => q v H3 (e2.trans e3) g
theorem ex_lst2 {d1 d2 : PyData} (h1 : EvX ta σ H d1) (h2 : EvX tb σ H d2) : EvX (tLst (tCons ta (tCons tb tNil))) σ H (.list [d1, d2]) := fun H1 e Q q =>
  h1 H1 e _ fun v H2 e2 g2 => h2 H2 (e.trans e2) _ fun u H3 e3 g3 => ⟨by show 2 ≤ sizeLine; decide, fun l nl => q _ _ ((e2.trans e3).trans (Ex.new nl)) (.lst upd_same (.cons ((g2.mono e3).mono (Ex.new nl)) (.cons (g3.mono (Ex.new nl)) .nil)))⟩
/-- what is made behind i turns of a walk -/
def MadeI (H1 : Hp) (g : Nat → PyData) (Dl : Addr) (i : Nat) (G : Hp) : Prop := H1 Dl = none ∧ Ex H1 G ∧ ∃ acc, G Dl = some (.lst acc) ∧ DxAll (mask G [Dl]) acc ((List.range i).map g)
theorem madeI_turn {H1 G G1 : Hp} {g : Nat → PyData} {Dl : Addr} {i : Nat} {σ2 : L2.St} (m : MadeI H1 g Dl i G) (hi : i < 40000) (eG : Ex G G1) (he : EvM te σ2 H1 (g i)) :
    te σ2 G1 fun y H4 => ∃ acc, H4 Dl = some (.lst acc) ∧ acc.length < sizeLine ∧ MadeI H1 g Dl (i + 1) (upd H4 Dl (.lst (acc ++ [y]))) := by
  obtain ⟨n1, e1, acc, gD, da⟩ := m
  refine he [Dl] G1 (e1.trans eG) (fun c mc => by rw [List.mem_singleton.mp mc]; exact ⟨n1, by rw [eG _ _ gD]; exact fun z => nomatch z⟩) _ fun v G3 e3 dv => ⟨acc, e3 _ _ (eG _ _ gD), ?_, n1, Ex.mut (e1.trans (eG.trans e3)) n1, acc ++ [v], upd_same, ?_⟩
  · rw [da.length, List.length_map, List.length_range]
    exact sz_lt (by omega)
  · rw [mask_upd (List.mem_singleton.mpr rfl), List.range_succ, List.map_append]
    exact (da.mono (mask_same (eG.trans e3) fun _ _ _ z => z)).snoc dv
/-- [e for i, x in enumerate(xs)], e a new datum, xs a list that stands -/
theorem ex_lcE {xs : List V} {j1 j2 : Nat} {vs : List Nat} {a : Addr} (g : Nat → PyData) (h : Ev tl σ H (.ref a)) (hx : SqL K H a xs) (hz : xs.length ≤ 40000) (hw : ∀ x y, wipe (((wipe σ vs).set j1 (some x)).set j2 (some y)) vs = wipe σ vs)
    (he : ∀ (i : Nat) b, xs[i]? = some b → ∀ H1, Ex H H1 → EvM te (((wipe σ vs).set j1 (some (.int (i : Int)))).set j2 (some b)) H1 (g i)) :
    EvX (tLc (iEnum K (tCons tl tNil)) (gTup K 2 (gCons (gName j1) (gCons (gName j2) gNil))) tYes te vs) σ H (.list ((List.range xs.length).map g)) := fun H0 e0 Q q =>
  h H0 e0 _ fun H1 e1 => ⟨a, xs, rfl, ex_l (e0.trans e1) hx, fun Dl hD => lc_it (walk_enum (K := K) (a := a) (xs := xs)) (MadeI H1 g Dl) ⟨hD, Ex.new hD, [], upd_same, .nil⟩ (fun i G _ m => ex_l (e0.trans (e1.trans m.2.1)) hx) (by
    rintro i x G _ hi m ⟨T, y1, y2, rfl, nT, rfl, f1, f2⟩
    cases f1
    exact ⟨T, _, rfl, .inl (.inl upd_same), rfl, _, _, rfl, _, _, rfl, rfl, hw _ _, madeI_turn m (by omega) (Ex.new nT) (he i y2 f2 H1 (e0.trans e1))⟩) fun G m => by
    obtain ⟨_, eG, acc, gD, da⟩ := m
    exact q _ G (e1.trans eG) (.lst gD (da.mono (mask_sub G _)))⟩
/-- .. over range(n) -/
theorem ex_lcR {j : Nat} {vs : List Nat} {n : Int} {ta : TA} (g : Nat → PyData) (h : EvA ta σ H [.int n]) (hn : 0 ≤ n ∧ n ≤ 40000) (hw : ∀ x, wipe ((wipe σ vs).set j (some x)) vs = wipe σ vs)
    (he : ∀ i : Nat, (i : Int) < n → ∀ H1, Ex H H1 → EvM te ((wipe σ vs).set j (some (.int (i : Int)))) H1 (g i)) :
    EvX (tLc (iRng1 ta) (gName j) tYes te vs) σ H (.list ((List.range n.toNat).map g)) := fun H0 e0 Q q =>
  h H0 e0 _ fun H1 e1 => ⟨n, rfl, by omega, by omega, fun Dl hD => lc_it (walk_range (lo := 0) (n := n.toNat)) (MadeI H1 g Dl) ⟨hD, Ex.new hD, [], upd_same, .nil⟩ (fun _ _ _ _ => trivial) (by
    rintro i x G _ hi m ⟨rfl, rfl⟩
    have e2 : (0 : Int) + (i : Int) = (i : Int) := Int.zero_add _
    have z := he i (by omega) H1 (e0.trans e1)
    rw [← e2] at z
    exact ⟨hw _, madeI_turn m (by omega) (Ex.refl _) z⟩) fun G m => by
    obtain ⟨_, eG, acc, gD, da⟩ := m
    exact q _ G (e1.trans eG) (.lst gD (da.mono (mask_sub G _)))⟩
/-- new data that hold nothing of what came since -/
theorem em_tupV {ta : TA} {vs : List V} {ds : List PyData} (h : EvA ta σ H vs) (hd : DxAll H vs ds) (hl : vs.length ≤ 100000) : EvM (tTup ta) σ H (.tuple ds) := em_tup h hd hl
end
section
variable {K : PySem.W.Frag} {σ : L2.St} {H H' : Hp} {ta tb te tl : TE} {tx : TA} {d : PyData} {ds : List PyData} {v : V} {D : Ends}
/-- a datum in a new object -/
def EvN (te : TE) (σ : L2.St) (H : Hp) (d : PyData) : Prop := ∀ H1, Ex H H1 → ∀ Q : VK, (∀ a H2, H1 a = none → Ex H1 H2 → Dx H2 (.ref a) d → Q (.ref a) H2) → te σ H1 Q
theorem en_lstA (h : EvXA tx σ H ds) (hz : ds.length ≤ 100000) : EvN (tLst tx) σ H (.list ds) := fun H1 e Q q =>
  h H1 e _ fun vs H2 e2 g2 => ⟨by rw [g2.length]; exact sz_of hz, fun l nl => q _ _ (fresh_back e2 nl) (e2.trans (Ex.new nl)) (.lst upd_same (g2.mono (Ex.new nl)))⟩
theorem en_lcE {xs : List V} {j1 j2 : Nat} {vs : List Nat} {a : Addr} (g : Nat → PyData) (h : Ev tl σ H (.ref a)) (hx : SqL K H a xs) (hz : xs.length ≤ 40000) (hw : ∀ x y, wipe (((wipe σ vs).set j1 (some x)).set j2 (some y)) vs = wipe σ vs)
    (he : ∀ (i : Nat) b, xs[i]? = some b → ∀ H1, Ex H H1 → EvM te (((wipe σ vs).set j1 (some (.int (i : Int)))).set j2 (some b)) H1 (g i)) :
    EvN (tLc (iEnum K (tCons tl tNil)) (gTup K 2 (gCons (gName j1) (gCons (gName j2) gNil))) tYes te vs) σ H (.list ((List.range xs.length).map g)) := fun H0 e0 Q q =>
  h H0 e0 _ fun H1 e1 => ⟨a, xs, rfl, ex_l (e0.trans e1) hx, fun Dl hD => lc_it (walk_enum (K := K) (a := a) (xs := xs)) (MadeI H1 g Dl) ⟨hD, Ex.new hD, [], upd_same, .nil⟩ (fun i G _ m => ex_l (e0.trans (e1.trans m.2.1)) hx) (by
    rintro i x G _ hi m ⟨T, y1, y2, rfl, nT, rfl, f1, f2⟩
    cases f1
    exact ⟨T, _, rfl, .inl (.inl upd_same), rfl, _, _, rfl, _, _, rfl, rfl, hw _ _, madeI_turn m (by omega) (Ex.new nT) (he i y2 f2 H1 (e0.trans e1))⟩) fun G m => by
    obtain ⟨n1, eG, acc, gD, da⟩ := m
    exact q _ G (fresh_back e1 n1) (e1.trans eG) (.lst gD (da.mono (mask_sub G _)))⟩
theorem s_retN (h : EvN te σ H d) (k : ∀ a H1, H a = none → Ex H H1 → Dx H1 (.ref a) d → D.rt (.ref a) H1) : tRet te D σ H := h H (Ex.refl H) _ k
end
end KB
set_option Elab.async false
set_option linter.all false
set_option maxRecDepth 100000
set_option maxHeartbeats 4000000
namespace KB
open PySem PySem.Spec PyProof.Rows L2 Evl
def cpOk (s : Str) : Prop := ∀ c ∈ s.cps.toList, c < 0x110000
theorem cp_of (s : String) : cpOk (s : Str) := fun c m => by
  have m : c ∈ (Str.ofString s).cps.toList := m
  rw [signs_ofString] at m
  obtain ⟨ch, _, rfl⟩ := List.mem_map.mp m
  have h := ch.valid
  have e : ch.val.toNat = ch.toNat := rfl
  simp only [UInt32.isValidChar, Nat.isValidChar] at h
  omega
theorem cp_app {a b : Str} (h : cpOk a) (h2 : cpOk b) : cpOk (a ++ b) := fun c m => (mem_cps_append.mp m).elim (h c) (h2 c)
theorem cp_join {sep : Str} {ts : List Str} (h : cpOk sep) (h2 : ∀ t ∈ ts, cpOk t) : cpOk (Str.join sep ts) := fun c m => by
  rcases (mem_join sep c ts).mp m with ⟨t, mt, mc⟩ | ⟨_, mc⟩
  · exact h2 t mt c mc
  · exact h c mc
theorem cp_lay {s : Str} (h : cpOk s) : PyData.canLay0 (.str s) = true := by
  simp only [PyData.canLay0]
  show s.cps.all (fun c => decide (c < 0x110000)) = true
  rw [Array.all_eq_true']
  exact fun c m => decide_eq_true (h c (Array.mem_toList_iff.mpr m))
theorem cp_cut {z : Str} (h : cpOk z) (lo hi : Option Int) : cpOk (cutS z lo hi) := fun c m => h c (List.mem_of_mem_drop (List.mem_of_mem_take (by simpa [cutS] using m)))
section
variable {K : PySem.W.Frag} {σ : L2.St} {H H' : Hp} {ta tb te : TE} {v : V}
mutual
theorem Dx.dp {H : Hp} : ∀ {v : V} {d : PyData}, Dx H v d → Dp K H v d
  | _, _, .non => .non
  | _, _, .bl b => .bl b
  | _, _, .int i => .int i
  | _, _, .str x => .str x
  | _, _, .lst e h => .lst (SqL.of e) (DxAll.dp h)
  | _, _, .tup e h => .tup (SqT.of e) (DxAll.dp h)
theorem DxAll.dp {H : Hp} : ∀ {vs : List V} {ds : List PyData}, DxAll H vs ds → DpAll K H vs ds
  | _, _, .nil => .nil
  | _, _, .cons h t => .cons (Dx.dp h) (DxAll.dp t)
end
/-- x == y of data -/
theorem ev_eqX {d e : PyData} (h : Ev ta σ H v) (g : Dx H v d) (h2 : EvX tb σ H e) (sd : SeqAt.shaped d = true) (se : SeqAt.shaped e = true) : Ev (tOp (rEqD K) ta tb) σ H (.bl (PyData.eqv d e)) := fun H1 e1 Q q =>
  h H1 e1 _ fun H2 e2 => h2 H2 (e1.trans e2) _ fun u H3 e3 du => ⟨d, e, (g.mono ((e1.trans e2).trans e3)).dp, du.dp, sd, se, q H3 (e2.trans e3)⟩
/-- d[k], a text's key -/
theorem ev_dgetS {d : Addr} {kvs : List (Key × V)} {k : Str} (hd : Ev ta σ H (.ref d)) (hk : Ev tb σ H (.str k)) (e0 : H d = some (.dK kvs)) (h : valV kvs (Sum.inr k) = some v) : Ev (tDGet ta tb) σ H v := fun H1 e Q q =>
  hd H1 e _ fun H2 e2 => hk H2 (e.trans e2) _ fun H3 e3 => ⟨d, v, rfl, by
    have g := DGet.k (k := Sum.inr k) (((e.trans e2).trans e3) _ _ e0)
    rw [h] at g
    exact g, q H3 (e2.trans e3)⟩
end
end KB
namespace KB
open PySem PySem.Spec PyProof.Rows L2 Evl
section
variable {K : PySem.W.Frag} {σ : L2.St} {H H' : Hp} {ta tb te : TE} {v : V} {C a dx : Addr} {m : Str} {fs : List (Str × V)} {sp : Sp} {E : XK} {d : PyData}
theorem ev_meth0 (ho : Ev ta σ H (.ref a)) (he : H a = some (.ins C dx fs)) (hl : fs.lookup m = none) (hs : SpV sp [.ref a] H v) : Ev (tMeth C m sp [] E ta tNil) σ H v := fun H1 e Q q =>
  ho H1 e _ fun H2 e2 => ⟨a, dx, fs, rfl, (e.trans e2) _ _ he, hl, hs H2 (e.trans e2) Q (fun H3 e3 => q H3 (e2.trans e3)) E⟩
theorem ex_meth0 (ho : Ev ta σ H (.ref a)) (he : H a = some (.ins C dx fs)) (hl : fs.lookup m = none) (hs : SpX sp [.ref a] H d) : EvX (tMeth C m sp [] E ta tNil) σ H d := fun H1 e Q q =>
  ho H1 e _ fun H2 e2 => ⟨a, dx, fs, rfl, (e.trans e2) _ _ he, hl, hs H2 (e.trans e2) Q (fun v H3 e3 g => q v H3 (e2.trans e3) g) E⟩
end
end KB
set_option Elab.async false
set_option linter.all false
namespace KB
theorem split_at {α : Type} {xs : List α} {i : Nat} {x : α} (h : xs[i]? = some x) : xs = xs.take i ++ x :: xs.drop (i + 1) := by
  obtain ⟨hi, e⟩ := List.getElem?_eq_some_iff.mp h
  rw [← e, List.getElem_cons_drop hi, List.take_append_drop]
theorem filter_none {α : Type} {p : α → Bool} {l : List α} (h : ∀ x ∈ l, p x = false) : l.filter p = [] := List.filter_eq_nil_iff.mpr fun x m => by rw [h x m]; exact Bool.false_ne_true
theorem head_filter {α : Type} {p : α → Bool} {xs : List α} {i : Nat} {x : α} (h : xs[i]? = some x) (h0 : ∀ y ∈ xs.take i, p y = false) (h1 : p x = true) : (xs.filter p).head? = some x := by
  rw [split_at h, List.filter_append, filter_none h0, List.filter_cons, if_pos h1]
  rfl
theorem head_flat {α β : Type} {f : α → List β} {xs : List α} {i : Nat} {x : α} (h : xs[i]? = some x) (h0 : ∀ y ∈ xs.take i, f y = []) {z : β} (h1 : (f x).head? = some z) : (xs.flatMap f).head? = some z := by
  have e : (xs.take i).flatMap f = [] := List.flatMap_eq_nil_iff.mpr h0
  rw [split_at h, List.flatMap_append, e, List.flatMap_cons, List.nil_append, List.head?_append, h1]
  rfl
theorem nodup_len : ∀ {l m : List Int}, l.Nodup → (∀ a ∈ l, a ∈ m) → l.length ≤ m.length
  | [], _, _, _ => Nat.zero_le _
  | a :: l, m, nd, h => by
    rw [List.nodup_cons] at nd
    have ma : a ∈ m := h a List.mem_cons_self
    have len := List.length_erase_of_mem ma
    have pos : 0 < m.length := List.length_pos_of_mem ma
    have := nodup_len (l := l) (m := m.erase a) nd.2 fun b mb => (List.mem_erase_of_ne (fun z : b = a => nd.1 (by rw [← z]; exact mb))).mpr (h b (List.mem_cons_of_mem _ mb))
    simp only [List.length_cons]
    omega
theorem first_idx {x : Int} : ∀ {l : List Int}, x ∈ l → ∃ i : Nat, l[i]? = some x ∧ ∀ j, j < i → ∀ y, l[j]? = some y → y ≠ x
  | [], h => nomatch h
  | a :: l, h => by
    by_cases z : a = x
    · exact ⟨0, by rw [z]; rfl, fun j hj => absurd hj (Nat.not_lt_zero _)⟩
    · obtain ⟨i, h1, h2⟩ := first_idx (l := l) ((List.mem_cons.mp h).resolve_left fun e => z e.symm)
      refine ⟨i + 1, by simpa using h1, fun j hj y ey => ?_⟩
      cases j with
      | zero => simp at ey; rw [← ey]; exact z
      | succ j => exact h2 j (by omega) y (by simpa using ey)
section
variable {M : Fam} {n : Int}
theorem need_in (W : WF M) {x : Int} (h : need M n = some x) : x ∈ keys M := by
  unfold need at h
  split at h
  · rename_i c
    have m := List.mem_of_find?_eq_some h
    have p := List.find?_some h
    simp at p
    rcases List.mem_cons.mp m with m | m
    · rw [m]; exact c.1
    · exact (above_in W _ c.1 x m).resolve_left p.1
  · cases h
theorem need_out (W : WF M) (h : n ∉ keys M) : need M n = none := by
  unfold need
  rw [if_neg]
  intro c
  have : ses M n = 1 := by unfold ses; rw [look_none h]; rfl
  rw [this] at c
  exact W.one c.1
/-- the line from s upwards -/
theorem line_up (W : WF M) : ∀ s ∈ keys M, ∀ (i : Nat) (b : Int), (above M s)[i]? = some b → ∃ a, (s :: above M s)[i]? = some a ∧ a ≠ 1 ∧ up M a = b := by
  refine up_ind W (fun s m z i b h => ?_) (fun s m z ih i b h => ?_)
  · rw [above_eq W m, if_pos z] at h
    cases i with
    | zero =>
      exact ⟨s, rfl, fun e => W.one (e ▸ m), by simpa using h⟩
    | succ i => simp at h
  · rw [above_eq W m, if_neg z] at h
    cases i with
    | zero => exact ⟨s, rfl, fun e => W.one (e ▸ m), by simpa using h⟩
    | succ i =>
      obtain ⟨a, e1, e2⟩ := ih i b (by simpa using h)
      refine ⟨a, ?_, e2⟩
      rw [above_eq W m, if_neg z]
      simpa using e1
theorem find_at {α : Type} {p : α → Bool} {xs : List α} {i : Nat} {x : α} (h : xs[i]? = some x) (h1 : p x = true) (h0 : ∀ j, j < i → ∀ y, xs[j]? = some y → p y = false) : xs.find? p = some x := by
  rw [split_at h, List.find?_append]
  have e : (xs.take i).find? p = none := List.find?_eq_none.mpr fun y m => by
    obtain ⟨j, hj, e⟩ := List.getElem_of_mem m
    rw [List.length_take] at hj
    have e2 : xs[j]? = some y := by
      rw [List.getElem_take] at e
      rw [List.getElem?_eq_getElem (by omega), e]
    rw [h0 j (by omega) y e2]
    exact Bool.false_ne_true
  rw [e, List.find?_cons, h1]
  rfl
/-- what the program finds in the line -/
theorem need_line (W : WF M) (ls : ses M n ∈ keys M) (ne : ses M n ≠ n) (ht : topB M (ses M n) n = true) {i : Nat} (hi : (above M (ses M n))[i]? = some (up M n)) (h0 : ∀ j, j < i → ∀ y, (above M (ses M n))[j]? = some y → y ≠ up M n) :
    ∃ a, (ses M n :: above M (ses M n))[i]? = some a ∧ need M n = some a := by
  obtain ⟨a, e1, e2, e3⟩ := line_up W _ ls i _ hi
  refine ⟨a, e1, ?_⟩
  unfold need
  rw [if_pos ⟨ls, ne, ht⟩]
  refine find_at e1 (by simp [e2, e3]) fun j hj y ey => ?_
  have lt : j < (above M (ses M n)).length := by
    have := (List.getElem?_eq_some_iff.mp hi).1
    omega
  obtain ⟨a', f1, f2, f3⟩ := line_up W _ ls j _ (List.getElem?_eq_getElem lt)
  rw [ey] at f1
  cases f1
  have := h0 j hj _ (List.getElem?_eq_getElem lt)
  rw [← f3] at this
  simp [this]
theorem need_no (W : WF M) (ls : ses M n ∈ keys M) (h : up M n ∉ above M (ses M n)) : need M n = none := by
  unfold need
  split
  · refine List.find?_eq_none.mpr fun a m c => ?_
    simp at c
    have ma : a ∈ keys M := by
      rcases List.mem_cons.mp m with m | m
      · rw [m]; exact ls
      · exact (above_in W _ ls a m).resolve_left c.1
    -- up a is above the leader
    have key : ∀ s ∈ keys M, ∀ a ∈ keys M, a ∈ s :: above M s → up M a ∈ above M s := by
      refine up_ind W (fun s ms z a ma m => ?_) (fun s ms z ih a ma m => ?_)
      · rw [above_eq W ms, if_pos z] at m ⊢
        rcases List.mem_cons.mp m with m | m
        · rw [m]; exact List.mem_cons_self
        · have e := (List.mem_singleton.mp m).trans z
          exact absurd (e ▸ ma) W.one
      · rw [above_eq W ms, if_neg z] at m ⊢
        rcases List.mem_cons.mp m with m | m
        · rw [m]; exact List.mem_cons_self
        · exact List.mem_cons_of_mem _ (ih a ma m)
    exact h (c.2 ▸ key _ ls a ma m)
  · rfl
/-- rings, step by step -/
theorem ring_out (W : WF M) (h : n ∉ keys M) : ring M n = none := by
  unfold ring
  rw [need_out W h]
  have e : (ringGo M 64 [n] none).2 = none := rfl
  dsimp only
  rw [if_neg]
  rw [e]
  exact fun c => nomatch c.1
end
def firstS (M : Fam) : Option Rs := ((sessions M).flatMap fun s => ((keys M).filter (barsS M s)).map (Rs.session s)).head?
def firstG (M : Fam) : Option Rs := (((groups M).filter (splitB M)).map Rs.group).head?
def firstR (M : Fam) : Option Rs := (((keys M).filterMap (ring M)).map Rs.ring).head?
def barM (M : Fam) : Option Rs := (reasons M).head?
theorem barM_eq (M : Fam) : barM M = match firstS M with | some r => some r | none => match firstG M with | some r => some r | none => firstR M := by
  unfold barM reasons firstS firstG firstR
  rw [List.head?_append, List.head?_append]
  cases (List.flatMap (fun s => List.map (Rs.session s) (List.filter (barsS M s) (keys M))) (sessions M)).head? with
  | some r => rfl
  | none =>
    cases ((List.map Rs.group (List.filter (splitB M) (groups M))).head?) with
    | some r => rfl
    | none => rfl
end KB
set_option Elab.async false
set_option linter.all false
set_option maxRecDepth 100000
set_option maxHeartbeats 4000000
namespace L2
open PySem PySem.Spec PyProof.Rows
/-- a dict comprehension over a walk -/
theorem dc_it {J : It} {n : Nat} {G : Hp → Prop} {Y : Nat → Hp → V → Hp → Prop} (w : Walk J n G Y) {g : TG} {tt : TT} {tk tv : TE} {vs : List Nat} {σ : St} {H1 : Hp} {D : Addr} {Qd : Hp → Prop} (Pv : Nat → Hp → Prop) (start : Pv 0 (upd H1 D (.dK []))) (stands : ∀ i H, i ≤ n → Pv i H → G H)
    (turn : ∀ i x H H', i < n → Pv i H → Y i H x H' → g x (wipe σ vs) H' fun σ2 H2 => wipe σ2 vs = wipe σ vs ∧ tt σ2 H2 fun b H3 =>
      if b = true then tk σ2 H3 fun y H4 => tv σ2 H4 fun z H5 => ∃ kvs k, y = kV k ∧ H5 D = some (.dK kvs) ∧ kvs.length < sizeLine ∧ Pv (i + 1) (upd H5 D (.dK (putK kvs k z))) else Pv (i + 1) H3) (done : ∀ H, Pv n H → Qd H) :
    ∃ W : Nat → Nat → Hp → Prop, (∃ m, W 0 m (upd H1 D (.dK []))) ∧ ∀ i m H, W i m H → (J.stop i H ∧ Qd H) ∨ (J.go i H ∧ ∃ Nx : Hp → Prop, (∀ H', Nx H' → ∃ m', m' < m ∧ W (i + 1) m' H') ∧
      ∀ x H', J.yld i H x H' → g x (wipe σ vs) H' fun σ2 H2 => wipe σ2 vs = wipe σ vs ∧ tt σ2 H2 fun b H3 =>
        if b = true then tk σ2 H3 fun y H4 => tv σ2 H4 fun z H5 => ∃ kvs k, y = kV k ∧ H5 D = some (.dK kvs) ∧ kvs.length < sizeLine ∧ Nx (upd H5 D (.dK (putK kvs k z))) else Nx H3) := by
  refine ⟨fun i m H => m + i = n ∧ Pv i H, ⟨n, rfl, start⟩, ?_⟩
  rintro i m H ⟨hm, p⟩
  have q := stands i H (by omega) p
  by_cases lt : i < n
  · exact .inr ⟨w.goes i H lt q, Pv (i + 1), fun H' p' => ⟨n - (i + 1), by omega, by omega, p'⟩, fun x H' y => turn i x H H' lt p (w.yields i H x H' lt q y)⟩
  · obtain rfl : i = n := by omega
    exact .inl ⟨w.stops H q, done H p⟩
end L2
namespace Evl
open PySem L2
/-- a list or a tuple that stands -/
def Sq (K : PySem.W.Frag) (H : Hp) (a : Addr) (xs : List V) : Prop := SqL K H a xs ∨ SqT K H a xs
theorem Sq.mono {K : PySem.W.Frag} {H H' : Hp} {a : Addr} {xs : List V} (e : Ex H H') (h : Sq K H a xs) : Sq K H' a xs := h.imp (ex_l e) (ex_t e)
def iSeq (K : PySem.W.Frag) (tl : TE) : TI := fun σ H R => iList K tl σ H R ∨ iTup K tl σ H R
theorem pi_seq {X : Cx} {tg l : Expr} {tl : TE} (hl : PE X l tl) : PI X tg l (iSeq X.K tl) := pi_or (pi_list hl) (pi_tup hl)
section
variable {K : PySem.W.Frag} {σ : L2.St} {H H' : Hp} {ta tb te tx : TE} {t u : TT} {x y z v : V} {D : Ends} {tz : TS}
theorem rv_ixSq {p : Addr} {xs : List V} {i : Int} (h : Sq K H p xs) (ha : atI xs i = some v) : RV (rIx K) (.ref p) (.int i) H v := fun H1 e Q q =>
  match h with
  | .inl h => .inl ⟨p, xs, i, v, rfl, rfl, ex_l e h, ha, q H1 (Ex.refl H1)⟩
  | .inr h => .inr (.inl ⟨p, xs, i, v, rfl, rfl, ex_t e h, ha, q H1 (Ex.refl H1)⟩)
/-- the list that is made, behind i turns -/
def Made {α : Type} (H1 : Hp) (xs : List α) (p : α → Bool) (g : α → V) (Dl : Addr) (i : Nat) (G : Hp) : Prop := H1 Dl = none ∧ Ex H1 G ∧ G Dl = some (.lst (((xs.take i).filter p).map g))
theorem made_turn {α : Type} {H1 G : Hp} {xs : List α} {p : α → Bool} {g : α → V} {Dl : Addr} {i : Nat} {b : α} {σ2 : L2.St} (m : Made H1 xs p g Dl i G) (hz : xs.length ≤ 40000) (eb : xs[i]? = some b) (ht : EvT t σ2 H1 (p b)) (he : p b = true → Ev te σ2 H1 (g b)) :
    t σ2 G fun c H3 => if c = true then te σ2 H3 fun y H4 => ∃ acc, H4 Dl = some (.lst acc) ∧ acc.length < sizeLine ∧ Made H1 xs p g Dl (i + 1) (upd H4 Dl (.lst (acc ++ [y]))) else Made H1 xs p g Dl (i + 1) H3 := by
  obtain ⟨n1, eG, gD⟩ := m
  have nx : (xs.take (i + 1)).filter p = (xs.take i).filter p ++ if p b = true then [b] else [] := by
    rw [List.take_add_one, eb, List.filter_append]
    show _ ++ List.filter p [b] = _
    cases hp : p b <;> simp [hp]
  refine ht G eG _ fun G2 e2 => ?_
  cases hp : p b with
  | true =>
    refine iteT (he hp G2 (eG.trans e2) _ fun G3 e3 => ⟨_, e3 _ _ (e2 _ _ gD), ?_, n1, Ex.mut (eG.trans (e2.trans e3)) n1, ?_⟩)
    · rw [List.length_map]
      exact sz_lt (by have h1 := List.length_filter_le p (xs.take i); have h2 := List.length_take_le i xs; have h3 := (List.getElem?_eq_some_iff.mp eb).1; omega)
    · rw [upd_same, nx, hp, List.map_append]
      rfl
  | false =>
    refine iteF ⟨n1, eG.trans e2, ?_⟩
    rw [nx, hp]
    simpa using e2 _ _ gD
/-- [e for x in xs if t], a list or a tuple that stands -/
theorem el_lcS {α : Type} {a : Addr} {xs : List α} {tl : TE} {j : Nat} {vs : List Nat} (emb : α → V) (p : α → Bool) (g : α → V) (h : Ev tl σ H (.ref a)) (hx : Sq K H a (xs.map emb)) (hz : xs.length ≤ 40000) (hw : ∀ x, wipe ((wipe σ vs).set j (some x)) vs = wipe σ vs)
    (ht : ∀ b ∈ xs, ∀ H1, Ex H H1 → EvT t ((wipe σ vs).set j (some (emb b))) H1 (p b)) (he : ∀ b ∈ xs, p b = true → ∀ H1, Ex H H1 → Ev te ((wipe σ vs).set j (some (emb b))) H1 (g b)) :
    EvL (tLc (iSeq K tl) (gName j) t te vs) σ H ((xs.filter p).map g) := fun H0 e0 Q q => by
  have len : (xs.map emb).length = xs.length := List.length_map _
  have fin : ∀ {H1 : Hp} {Dl : Addr} {G : Hp}, Ex H0 H1 → Made H1 xs p g Dl (xs.map emb).length G → Q (.ref Dl) G := fun e1 m => by
    obtain ⟨n1, eG, gD⟩ := m
    rw [len, List.take_length] at gD
    exact q _ _ (fresh_back e1 n1) (e1.trans eG) gD
  have at_ : ∀ {i : Nat} {x : V}, (xs.map emb)[i]? = some x → ∃ b, xs[i]? = some b ∧ b ∈ xs ∧ x = emb b := fun {i x} e => by
    rw [List.getElem?_map] at e
    obtain ⟨b, e1, e2⟩ := Option.map_eq_some_iff.mp e
    exact ⟨b, e1, List.mem_of_getElem? e1, e2.symm⟩
  rcases hx with hL | hT
  · refine .inl (h H0 e0 _ fun H1 e1 => ⟨a, rfl, ⟨_, ex_l (e0.trans e1) hL⟩, fun Dl hD => lc_it (walk_list (K := K) (a := a) (xs := xs.map emb)) (Made H1 xs p g Dl) ⟨hD, Ex.new hD, upd_same⟩ (fun i G _ m => ex_l (e0.trans (e1.trans m.2.1)) hL) ?_ fun G m => fin e1 m⟩)
    rintro i x G _ hi m ⟨rfl, ex⟩
    obtain ⟨b, eb, mb, rfl⟩ := at_ ex
    exact ⟨hw _, made_turn m hz eb (ht b mb H1 (e0.trans e1)) (fun hp => he b mb hp H1 (e0.trans e1))⟩
  · refine .inr (h H0 e0 _ fun H1 e1 => ⟨a, rfl, ⟨_, ex_t (e0.trans e1) hT⟩, fun Dl hD => lc_it (walk_tup (K := K) (a := a) (xs := xs.map emb)) (Made H1 xs p g Dl) ⟨hD, Ex.new hD, upd_same⟩ (fun i G _ m => ex_t (e0.trans (e1.trans m.2.1)) hT) ?_ fun G m => fin e1 m⟩)
    rintro i x G _ hi m ⟨rfl, ex⟩
    obtain ⟨b, eb, mb, rfl⟩ := at_ ex
    exact ⟨hw _, made_turn m hz eb (ht b mb H1 (e0.trans e1)) (fun hp => he b mb hp H1 (e0.trans e1))⟩
def MadeD {α : Type} (H1 : Hp) (xs : List α) (kf : α → Int) (vf : α → V) (Dl : Addr) (i : Nat) (G : Hp) : Prop := H1 Dl = none ∧ Ex H1 G ∧ G Dl = some (.dK ((xs.take i).map fun b => (Sum.inl (kf b), vf b)))
theorem val_no {α : Type} (kf : α → Int) (vf : α → V) (n : Int) : ∀ (xs : List α), n ∉ xs.map kf → valV (xs.map fun b => ((Sum.inl (kf b) : Key), vf b)) (Sum.inl n) = none
  | [], _ => rfl
  | b :: xs, h => by
    rw [List.map_cons, List.mem_cons, not_or] at h
    rw [List.map_cons, valV_neg (fun z => h.1 (Sum.inl.inj z).symm)]
    exact val_no kf vf n xs h.2
theorem madeD_turn {α : Type} {H1 G : Hp} {xs : List α} {kf : α → Int} {vf : α → V} {Dl : Addr} {i : Nat} {b : α} {σ2 : L2.St} (nd : (xs.map kf).Nodup) (m : MadeD H1 xs kf vf Dl i G) (hz : xs.length ≤ 40000) (eb : xs[i]? = some b) (hk : Ev ta σ2 H1 (.int (kf b))) (hv : Ev tb σ2 H1 (vf b)) :
    tYes σ2 G fun c H3 => if c = true then ta σ2 H3 fun y H4 => tb σ2 H4 fun z H5 => ∃ kvs k, y = kV k ∧ H5 Dl = some (.dK kvs) ∧ kvs.length < sizeLine ∧ MadeD H1 xs kf vf Dl (i + 1) (upd H5 Dl (.dK (putK kvs k z))) else MadeD H1 xs kf vf Dl (i + 1) H3 := by
  obtain ⟨n1, eG, gD⟩ := m
  refine (show (fun c H3 => ite (c = true) (ta σ2 H3 fun y H4 => tb σ2 H4 fun z H5 => ∃ kvs k, y = kV k ∧ H5 Dl = some (.dK kvs) ∧ kvs.length < sizeLine ∧ MadeD H1 xs kf vf Dl (i + 1) (upd H5 Dl (.dK (putK kvs k z)))) (MadeD H1 xs kf vf Dl (i + 1) H3)) true G from ?_)
  dsimp only
  rw [if_pos rfl]
  refine hk G eG _ fun G2 e2 => hv G2 (eG.trans e2) _ fun G3 e3 => ⟨_, Sum.inl (kf b), rfl, e3 _ _ (e2 _ _ gD), ?_, n1, Ex.mut (eG.trans (e2.trans e3)) n1, ?_⟩
  · rw [List.length_map]
    exact sz_lt (by have h2 := List.length_take_le i xs; have h3 := (List.getElem?_eq_some_iff.mp eb).1; omega)
  · have no : kf b ∉ (xs.take i).map kf := fun mb => by
      rw [KB.split_at eb, List.map_append, List.map_cons, List.nodup_append] at nd
      exact nd.2.2 _ mb _ List.mem_cons_self rfl
    rw [upd_same, putK_new _ (val_no kf vf _ _ no), List.take_add_one, eb, List.map_append]
    rfl
/-- {k: v for x in xs}, a list or a tuple that stands, the keys different ints -/
theorem ed_dcS {α : Type} {a : Addr} {xs : List α} {tl : TE} {j : Nat} {vs : List Nat} (emb : α → V) (kf : α → Int) (vf : α → V) (nd : (xs.map kf).Nodup) (h : Ev tl σ H (.ref a)) (hx : Sq K H a (xs.map emb)) (hz : xs.length ≤ 40000) (hw : ∀ x, wipe ((wipe σ vs).set j (some x)) vs = wipe σ vs)
    (hk : ∀ b ∈ xs, ∀ H1, Ex H H1 → Ev ta ((wipe σ vs).set j (some (emb b))) H1 (.int (kf b))) (hv : ∀ b ∈ xs, ∀ H1, Ex H H1 → Ev tb ((wipe σ vs).set j (some (emb b))) H1 (vf b)) :
    EvD (tDc (iSeq K tl) (gName j) tYes ta tb vs) σ H (xs.map fun b => (Sum.inl (kf b), vf b)) := fun H0 e0 Q q => by
  have len : (xs.map emb).length = xs.length := List.length_map _
  have fin : ∀ {H1 : Hp} {Dl : Addr} {G : Hp}, Ex H0 H1 → MadeD H1 xs kf vf Dl (xs.map emb).length G → Q (.ref Dl) G := fun e1 m => by
    obtain ⟨n1, eG, gD⟩ := m
    rw [len, List.take_length] at gD
    exact q _ _ (fresh_back e1 n1) (e1.trans eG) gD
  have at_ : ∀ {i : Nat} {x : V}, (xs.map emb)[i]? = some x → ∃ b, xs[i]? = some b ∧ b ∈ xs ∧ x = emb b := fun {i x} e => by
    rw [List.getElem?_map] at e
    obtain ⟨b, e1, e2⟩ := Option.map_eq_some_iff.mp e
    exact ⟨b, e1, List.mem_of_getElem? e1, e2.symm⟩
  rcases hx with hL | hT
  · refine .inl (h H0 e0 _ fun H1 e1 => ⟨a, rfl, ⟨_, ex_l (e0.trans e1) hL⟩, fun Dl hD => dc_it (walk_list (K := K) (a := a) (xs := xs.map emb)) (MadeD H1 xs kf vf Dl) ⟨hD, Ex.new hD, upd_same⟩ (fun i G _ m => ex_l (e0.trans (e1.trans m.2.1)) hL) ?_ fun G m => fin e1 m⟩)
    rintro i x G _ hi m ⟨rfl, ex⟩
    obtain ⟨b, eb, mb, rfl⟩ := at_ ex
    exact ⟨hw _, madeD_turn nd m hz eb (hk b mb H1 (e0.trans e1)) (hv b mb H1 (e0.trans e1))⟩
  · refine .inr (h H0 e0 _ fun H1 e1 => ⟨a, rfl, ⟨_, ex_t (e0.trans e1) hT⟩, fun Dl hD => dc_it (walk_tup (K := K) (a := a) (xs := xs.map emb)) (MadeD H1 xs kf vf Dl) ⟨hD, Ex.new hD, upd_same⟩ (fun i G _ m => ex_t (e0.trans (e1.trans m.2.1)) hT) ?_ fun G m => fin e1 m⟩)
    rintro i x G _ hi m ⟨rfl, ex⟩
    obtain ⟨b, eb, mb, rfl⟩ := at_ ex
    exact ⟨hw _, madeD_turn nd m hz eb (hk b mb H1 (e0.trans e1)) (hv b mb H1 (e0.trans e1))⟩
end
end Evl
set_option Elab.async false
set_option linter.all false
set_option maxRecDepth 100000
set_option maxHeartbeats 4000000
namespace K02
open PySem PySem.Spec PyProof.Rows L2
/-! ### a family, as both sides have it -/
/-- a process: parent, session, group, whether it adopts, is stopped; its code when it has ended; whom it waits for -/
structure Pr where
  par : Option Int
  ses : Int
  grp : Int
  ado : Bool
  stp : Bool
  code : Option Int
  who : Option Int

abbrev Fam := List (Int × Pr)
def Fam.keys (S : Fam) : List Int := S.map (·.1)
def Fam.at (S : Fam) (n : Int) : Option Pr := S.lookup n
def Fam.set (S : Fam) (n : Int) (p : Pr) : Fam := S.map fun e => if e.1 = n then (e.1, p) else e
def Fam.drop (S : Fam) (n : Int) : Fam := S.filter fun e => decide (e.1 ≠ n)
def Fam.sorted (S : Fam) : List Int := KB.asc S.keys
def Fam.kids (S : Fam) (n : Int) : List Int := S.sorted.filter fun k => decide ((S.at k).bind (·.par) = some n)
def Fam.alive (S : Fam) : List Int := S.sorted.filter fun k => ((S.at k).map fun p => p.code.isNone).getD false
def Fam.runs (S : Fam) (n : Int) : Bool := match S.at n with
  | some p => p.code.isNone && !p.stp && p.who.isNone
  | none => false
theorem at_some {S : Fam} {n : Int} (h : n ∈ S.keys) : ∃ p, S.at n = some p := by
  induction S with
  | nil => exact absurd h List.not_mem_nil
  | cons e S ih =>
    by_cases z : n = e.1
    · exact ⟨e.2, by simp [Fam.at, List.lookup, z]⟩
    · have h2 : n ∈ Fam.keys S := by
        rcases List.mem_cons.mp h with h | h
        · exact absurd h z
        · exact h
      obtain ⟨p, hp⟩ := ih h2
      refine ⟨p, ?_⟩
      have : (n == e.1) = false := beq_eq_false_iff_ne.mpr z
      simpa [Fam.at, List.lookup, this] using hp
end K02
set_option Elab.async false
set_option linter.all false
set_option maxRecDepth 100000
set_option maxHeartbeats 4000000
namespace K02
open PySem PySem.Spec PyProof.Rows L2
/-- what never changes: tuples, code objects -/
def Fixd (o : HO) : Prop := (∃ xs, o = .tup xs) ∨ ∃ φ, o = .ext φ
/-- all but F is as it was, and all that never changes -/
def Fr (F : List Addr) (H H' : Hp) : Prop := ∀ b o, H b = some o → (b ∉ F ∨ Fixd o) → H' b = some o
theorem Fr.refl {F : List Addr} {H : Hp} : Fr F H H := fun _ _ e _ => e
theorem Fr.trans {F : List Addr} {H H1 H2 : Hp} (a : Fr F H H1) (b : Fr F H1 H2) : Fr F H H2 := fun c o e n => b c o (a c o e n) n
theorem Fr.more {F G : List Addr} {H H' : Hp} (a : Fr F H H') (h : ∀ x ∈ F, x ∈ G) : Fr G H H' := fun c o e n => a c o e (n.imp (fun z w => z (h c w)) id)
theorem Fr.same {F : List Addr} {H H' : Hp} (s : Same H H') : Fr F H H' := fun b o e _ => s b o e
theorem same_new {H : Hp} {p : Addr} {o : HO} (h : H p = none) : Same H (upd H p o) := fun b x e => by
  rw [upd_ne (ne_of_none e h)]
  exact e
theorem same_mut {H H' : Hp} {p : Addr} {o : HO} (s : Same H H') (h : H p = none) : Same H (upd H' p o) := fun b x e => by
  rw [upd_ne (ne_of_none e h)]
  exact s b x e
def notTup : HO → Prop
  | .tup _ => False
  | .ext _ => False
  | _ => True
theorem Fr.upd {F : List Addr} {H : Hp} {a : Addr} {o u : HO} (e : H a = some o) (n : notTup o) (m : a ∈ F) : Fr F H (upd H a u) := fun b x eb hb => by
  have ne : b ≠ a := fun z => by
    subst z
    rcases hb with hb | ⟨xs, rfl⟩ | ⟨φ, rfl⟩
    · exact hb m
    · rw [e] at eb
      cases eb
      exact n
    · rw [e] at eb
      cases eb
      exact n
  rw [upd_ne ne]
  exact eb
def optV : Option Int → V
  | none => .non
  | some i => .int i
def recKV (p : Pr) (vc : V) : List (Key × V) := [(Sum.inr "parent", optV p.par), (Sum.inr "session", .int p.ses), (Sum.inr "group", .int p.grp), (Sum.inr "adopts", .bl p.ado), (Sum.inr "code", optV p.code), (Sum.inr "stopped", .bl p.stp), (Sum.inr "call", vc)]
/-- the waiting call as a value -/
def CallV (H : Hp) (vc : V) : Option Int → Prop
  | none => vc = .non
  | some k => ∃ t, vc = .ref t ∧ H t = some (.tup [.str "wait", .int k])
theorem CallV.fr {F : List Addr} {H H' : Hp} {vc : V} (f : Fr F H H') : ∀ {k : Option Int}, CallV H vc k → CallV H' vc k
  | none, h => h
  | some k, ⟨t, e, h⟩ => ⟨t, e, f _ _ h (.inr (.inl ⟨_, rfl⟩))⟩
abbrev Ent := Int × Addr × Pr
/-- the law's own world: a dict of dicts -/
structure LW (H : Hp) (lw : Addr) (E : List Ent) : Prop where
  top : H lw = some (.dK (E.map fun e => (Sum.inl e.1, V.ref e.2.1)))
  recs : ∀ e ∈ E, ∃ vc, H e.2.1 = some (.dK (recKV e.2.2 vc)) ∧ CallV H vc e.2.2.who
  nd : (lw :: E.map (·.2.1)).Nodup
  keys : (E.map (·.1)).Nodup
def famE (E : List Ent) : Fam := E.map fun e => (e.1, e.2.2)
def footL (lw : Addr) (E : List Ent) : List Addr := lw :: E.map (·.2.1)
def setE (E : List Ent) (n : Int) (p : Pr) : List Ent := E.map fun e => if e.1 = n then (e.1, e.2.1, p) else e
def dropE (E : List Ent) (n : Int) : List Ent := E.filter fun e => decide (e.1 ≠ n)
theorem fam_keys (E : List Ent) : (famE E).keys = E.map (·.1) := by
  unfold famE Fam.keys
  rw [List.map_map]
  rfl
theorem fam_at (E : List Ent) (n : Int) : (famE E).at n = (E.lookup n).map (·.2) := by
  induction E with
  | nil => rfl
  | cons e E ih =>
    by_cases z : n = e.1
    · simp [famE, Fam.at, List.lookup, z]
    · have : (n == e.1) = false := beq_eq_false_iff_ne.mpr z
      simpa [famE, Fam.at, List.lookup, this] using ih
theorem fam_set (E : List Ent) (n : Int) (p : Pr) : famE (setE E n p) = (famE E).set n p := by
  unfold famE setE Fam.set
  rw [List.map_map, List.map_map]
  refine List.map_congr_left fun e _ => ?_
  by_cases z : e.1 = n <;> simp [z]
theorem fam_drop (E : List Ent) (n : Int) : famE (dropE E n) = (famE E).drop n := by
  unfold famE dropE Fam.drop
  rw [List.filter_map]
  rfl
theorem set_adr (E : List Ent) (n : Int) (p : Pr) : (setE E n p).map (·.2.1) = E.map (·.2.1) := by
  unfold setE
  rw [List.map_map]
  refine List.map_congr_left fun e _ => ?_
  by_cases z : e.1 = n <;> simp [z]
theorem set_top (E : List Ent) (n : Int) (p : Pr) : (setE E n p).map (fun e => ((Sum.inl e.1 : Key), V.ref e.2.1)) = E.map fun e => (Sum.inl e.1, V.ref e.2.1) := by
  unfold setE
  rw [List.map_map]
  refine List.map_congr_left fun e _ => ?_
  by_cases z : e.1 = n <;> simp [z]
theorem set_keys (E : List Ent) (n : Int) (p : Pr) : (setE E n p).map (·.1) = E.map (·.1) := by
  unfold setE
  rw [List.map_map]
  refine List.map_congr_left fun e _ => ?_
  by_cases z : e.1 = n <;> simp [z]
theorem look_in {E : List Ent} {n : Int} {x : Addr × Pr} : E.lookup n = some x → (n, x) ∈ E := by
  induction E with
  | nil => exact fun h => nomatch h
  | cons e E ih =>
    intro h
    by_cases z : n = e.1
    · have h2 : List.lookup n (e :: E) = some e.2 := by simp [List.lookup, z]
      rw [h2] at h
      rw [← Option.some.inj h, z]
      exact List.mem_cons_self
    · have : (n == e.1) = false := beq_eq_false_iff_ne.mpr z
      exact List.mem_cons_of_mem _ (ih (by simpa [List.lookup, this] using h))
theorem in_look {E : List Ent} (nd : (E.map (·.1)).Nodup) {n : Int} {x : Addr × Pr} : (n, x) ∈ E → E.lookup n = some x := by
  induction E with
  | nil => exact fun h => absurd h List.not_mem_nil
  | cons e E ih =>
    intro h
    rw [List.map_cons, List.nodup_cons] at nd
    rcases List.mem_cons.mp h with h | h
    · subst h
      simp [List.lookup]
    · have z : n ≠ e.1 := fun z => nd.1 (by rw [← z]; exact List.mem_map_of_mem (f := fun e : Ent => e.1) h)
      have : (n == e.1) = false := beq_eq_false_iff_ne.mpr z
      rw [show List.lookup n (e :: E) = List.lookup n E by simp [List.lookup, this]]
      exact ih nd.2 h
theorem top_at (E : List Ent) (n : Int) : valV (E.map fun e => ((Sum.inl e.1 : Key), V.ref e.2.1)) (Sum.inl n) = (E.lookup n).map fun x => V.ref x.1 := by
  induction E with
  | nil => rfl
  | cons e E ih =>
    rw [List.map_cons]
    by_cases z : n = e.1
    · rw [valV_pos (by rw [z])]
      simp [List.lookup, z]
    · have h : (n == e.1) = false := beq_eq_false_iff_ne.mpr z
      rw [valV_neg (fun w => z (Sum.inl.inj w).symm), ih]
      simp [List.lookup, h]
end K02
set_option Elab.async false
set_option linter.all false
set_option maxRecDepth 100000
set_option maxHeartbeats 4000000
namespace K02
open PySem PySem.Spec PyProof.Rows L2
section
variable {H H' : Hp} {lw : Addr} {E : List Ent} {F : List Addr} {n : Int} {r : Addr} {p p' : Pr} {vc : V}
theorem LW.fr (w : LW H lw E) (f : Fr F H H') (d : ∀ a ∈ footL lw E, a ∉ F) : LW H' lw E := by
  refine ⟨f _ _ w.top (.inl (d lw List.mem_cons_self)), fun e m => ?_, w.nd, w.keys⟩
  obtain ⟨vc, h1, h2⟩ := w.recs e m
  exact ⟨vc, f _ _ h1 (.inl (d _ (List.mem_cons_of_mem _ (List.mem_map_of_mem (f := fun e : Ent => e.2.1) m)))), h2.fr f⟩
theorem LW.same (w : LW H lw E) (s : Same H H') : LW H' lw E := w.fr (F := []) (Fr.same s) fun _ _ => List.not_mem_nil
theorem LW.rec1 (w : LW H lw E) (h : E.lookup n = some (r, p)) : ∃ vc, H r = some (.dK (recKV p vc)) ∧ CallV H vc p.who := w.recs _ (look_in h)
theorem LW.ne (w : LW H lw E) (h : E.lookup n = some (r, p)) : lw ≠ r := fun z => (List.nodup_cons.mp w.nd).1 (by rw [z]; exact List.mem_map_of_mem (f := fun e : Ent => e.2.1) (look_in h))
theorem LW.foot (h : E.lookup n = some (r, p)) : r ∈ footL lw E := List.mem_cons_of_mem _ (List.mem_map_of_mem (f := fun e : Ent => e.2.1) (look_in h))
theorem adr_inj {E : List Ent} (nd : (E.map (·.2.1)).Nodup) : ∀ {e e' : Ent}, e ∈ E → e' ∈ E → e.2.1 = e'.2.1 → e = e' := by
  induction E with
  | nil => exact fun h => absurd h List.not_mem_nil
  | cons x E ih =>
    rw [List.map_cons, List.nodup_cons] at nd
    intro e e' h h' eq
    rcases List.mem_cons.mp h with a | a
    · rcases List.mem_cons.mp h' with b | b
      · rw [a, b]
      · exact absurd (by rw [← a, eq]; exact List.mem_map_of_mem (f := fun e : Ent => e.2.1) b) nd.1
    · rcases List.mem_cons.mp h' with b | b
      · exact absurd (by rw [← b, ← eq]; exact List.mem_map_of_mem (f := fun e : Ent => e.2.1) a) nd.1
      · exact ih nd.2 a b eq
/-- a record is changed -/
theorem LW.set (w : LW H lw E) (h : E.lookup n = some (r, p)) (c : CallV H vc p'.who) : LW (upd H r (.dK (recKV p' vc))) lw (setE E n p') ∧ Fr [r] H (upd H r (.dK (recKV p' vc))) := by
  obtain ⟨v0, h0, _⟩ := w.rec1 h
  have f : Fr [r] H (upd H r (.dK (recKV p' vc))) := Fr.upd h0 True.intro (List.mem_singleton.mpr rfl)
  have nd := List.nodup_cons.mp w.nd
  refine ⟨⟨?_, fun e m => ?_, by rw [set_adr]; exact w.nd, by rw [set_keys]; exact w.keys⟩, f⟩
  · rw [upd_ne (w.ne h), set_top]
    exact w.top
  · obtain ⟨e0, m0, rfl⟩ := List.mem_map.mp m
    by_cases z : e0.1 = n
    · have e1 : e0 = (n, r, p) := by
        have a := in_look w.keys (n := e0.1) (x := e0.2) m0
        rw [z, h] at a
        have b := Option.some.inj a
        rw [b, ← z]
      subst e1
      rw [if_pos rfl]
      exact ⟨vc, upd_same, c.fr f⟩
    · rw [if_neg z]
      obtain ⟨v1, h1, h2⟩ := w.recs e0 m0
      have ne : e0.2.1 ≠ r := fun q => z (by rw [adr_inj nd.2 m0 (look_in h) q])
      exact ⟨v1, by rw [upd_ne ne]; exact h1, h2.fr f⟩
theorem drop_top (E : List Ent) (n : Int) : dropK (E.map fun e => ((Sum.inl e.1 : Key), V.ref e.2.1)) (Sum.inl n) = (dropE E n).map fun e => (Sum.inl e.1, V.ref e.2.1) := by
  unfold dropK dropE
  rw [List.filter_map]
  refine congrArg _ (List.filter_congr fun e _ => ?_)
  simp [Function.comp]
/-- a record is taken out -/
theorem LW.drop (w : LW H lw E) (n : Int) : LW (upd H lw (.dK (dropK (E.map fun e => ((Sum.inl e.1 : Key), V.ref e.2.1)) (Sum.inl n)))) lw (dropE E n) ∧ Fr [lw] H (upd H lw (.dK (dropK (E.map fun e => ((Sum.inl e.1 : Key), V.ref e.2.1)) (Sum.inl n)))) := by
  have f : Fr [lw] H (upd H lw (.dK (dropK (E.map fun e => ((Sum.inl e.1 : Key), V.ref e.2.1)) (Sum.inl n)))) := Fr.upd w.top True.intro (List.mem_singleton.mpr rfl)
  have nd := List.nodup_cons.mp w.nd
  refine ⟨⟨by rw [upd_same, drop_top], fun e m => ?_, ?_, ?_⟩, f⟩
  · have m0 := (List.mem_filter.mp m).1
    obtain ⟨v1, h1, h2⟩ := w.recs e m0
    have ne : e.2.1 ≠ lw := fun q => nd.1 (by rw [← q]; exact List.mem_map_of_mem (f := fun e : Ent => e.2.1) m0)
    exact ⟨v1, by rw [upd_ne ne]; exact h1, h2.fr f⟩
  · refine List.nodup_cons.mpr ⟨fun m => nd.1 ?_, (List.filter_sublist.map _).nodup nd.2⟩
    obtain ⟨e, me, q⟩ := List.mem_map.mp m
    rw [← q]
    exact List.mem_map_of_mem (f := fun e : Ent => e.2.1) (List.mem_filter.mp me).1
  · exact (List.filter_sublist.map _).nodup w.keys
/-- a record is put in -/
theorem LW.add (w : LW H lw E) (hr : H r = some (.dK (recKV p vc))) (c : CallV H vc p.who) (nr : r ∉ footL lw E) (nn : n ∉ E.map (·.1)) :
    LW (upd H lw (.dK (putK (E.map fun e => ((Sum.inl e.1 : Key), V.ref e.2.1)) (Sum.inl n) (.ref r)))) lw (E ++ [(n, r, p)]) ∧ Fr [lw] H (upd H lw (.dK (putK (E.map fun e => ((Sum.inl e.1 : Key), V.ref e.2.1)) (Sum.inl n) (.ref r)))) := by
  have f : Fr [lw] H (upd H lw (.dK (putK (E.map fun e => ((Sum.inl e.1 : Key), V.ref e.2.1)) (Sum.inl n) (.ref r)))) := Fr.upd w.top True.intro (List.mem_singleton.mpr rfl)
  have nd := List.nodup_cons.mp w.nd
  have no : valV (E.map fun e => ((Sum.inl e.1 : Key), V.ref e.2.1)) (Sum.inl n) = none := by
    rw [top_at]
    cases q : E.lookup n with
    | none => rfl
    | some x => exact absurd (List.mem_map_of_mem (f := fun e : Ent => e.1) (look_in q)) nn
  have nrl : r ≠ lw := fun z => nr (by rw [z]; exact List.mem_cons_self)
  refine ⟨⟨by rw [upd_same, putK_new _ no, List.map_append]; rfl, fun e m => ?_, ?_, ?_⟩, f⟩
  · rcases List.mem_append.mp m with m | m
    · obtain ⟨v1, h1, h2⟩ := w.recs e m
      have ne : e.2.1 ≠ lw := fun q => nd.1 (by rw [← q]; exact List.mem_map_of_mem (f := fun e : Ent => e.2.1) m)
      exact ⟨v1, by rw [upd_ne ne]; exact h1, h2.fr f⟩
    · rw [List.mem_singleton.mp m]
      exact ⟨vc, by rw [upd_ne nrl]; exact hr, c.fr f⟩
  · rw [List.map_append, ← List.cons_append]
    refine List.nodup_append.mpr ⟨w.nd, List.nodup_cons.mpr ⟨List.not_mem_nil, List.nodup_nil⟩, fun a ha b hb z => nr ?_⟩
    have q : b = r := List.mem_singleton.mp hb
    rw [← q, ← z]
    exact ha
  · rw [List.map_append]
    refine List.nodup_append.mpr ⟨w.keys, List.nodup_cons.mpr ⟨List.not_mem_nil, List.nodup_nil⟩, fun a ha b hb z => nn ?_⟩
    have q : b = n := List.mem_singleton.mp hb
    rw [← q, ← z]
    exact ha
end
end K02
set_option Elab.async false
set_option linter.all false
set_option maxRecDepth 100000
set_option maxHeartbeats 4000000
namespace K02
open PySem PySem.Spec PyProof.Rows L2 Evl KB
/-! ### data of tuples alone: they never change -/
inductive Tp (H : Hp) : V → PyData → Prop
  | non : Tp H .non .none
  | bl (b : Bool) : Tp H (.bl b) (.bool b)
  | int (i : Int) : Tp H (.int i) (.int i)
  | str (x : Str) : Tp H (.str x) (.str x)
  | t0 {a : Addr} : H a = some (.tup []) → Tp H (.ref a) (.tuple [])
  | t1 {a : Addr} {u : V} {d : PyData} : H a = some (.tup [u]) → Tp H u d → Tp H (.ref a) (.tuple [d])
  | t2 {a : Addr} {u v : V} {d e : PyData} : H a = some (.tup [u, v]) → Tp H u d → Tp H v e → Tp H (.ref a) (.tuple [d, e])
  | t5 {a : Addr} {u1 u2 u3 u4 u5 : V} {d1 d2 d3 d4 d5 : PyData} : H a = some (.tup [u1, u2, u3, u4, u5]) → Tp H u1 d1 → Tp H u2 d2 → Tp H u3 d3 → Tp H u4 d4 → Tp H u5 d5 → Tp H (.ref a) (.tuple [d1, d2, d3, d4, d5])
theorem Tp.fr {F : List Addr} {H H' : Hp} (f : Fr F H H') {v : V} {d : PyData} (h : Tp H v d) : Tp H' v d := by
  induction h with
  | non => exact .non
  | bl b => exact .bl b
  | int i => exact .int i
  | str x => exact .str x
  | t0 e => exact .t0 (f _ _ e (.inr (.inl ⟨_, rfl⟩)))
  | t1 e _ i1 => exact .t1 (f _ _ e (.inr (.inl ⟨_, rfl⟩))) i1
  | t2 e _ _ i1 i2 => exact .t2 (f _ _ e (.inr (.inl ⟨_, rfl⟩))) i1 i2
  | t5 e _ _ _ _ _ i1 i2 i3 i4 i5 => exact .t5 (f _ _ e (.inr (.inl ⟨_, rfl⟩))) i1 i2 i3 i4 i5
theorem Tp.ex {H H' : Hp} (e : Ex H H') {v : V} {d : PyData} (h : Tp H v d) : Tp H' v d := h.fr (F := []) (Fr.same e)
theorem Tp.dx {H : Hp} {v : V} {d : PyData} (h : Tp H v d) : Dx H v d := by
  induction h with
  | non => exact .non
  | bl b => exact .bl b
  | int i => exact .int i
  | str x => exact .str x
  | t0 e => exact .tup e .nil
  | t1 e _ i1 => exact .tup e (.cons i1 .nil)
  | t2 e _ _ i1 i2 => exact .tup e (.cons i1 (.cons i2 .nil))
  | t5 e _ _ _ _ _ i1 i2 i3 i4 i5 => exact .tup e (.cons i1 (.cons i2 (.cons i3 (.cons i4 (.cons i5 .nil)))))
/-! ### the program's world, without things -/
structure PT (K : PySem.W.Frag) (C : Addr) : Prop where
  cls : Cls K C
  n1 : NoAttr K C "number"
  n2 : NoAttr K C "parent"
  n3 : NoAttr K C "session"
  n4 : NoAttr K C "group"
  n5 : NoAttr K C "adopts"
  n6 : NoAttr K C "stopped"
  n7 : NoAttr K C "code"
  n8 : NoAttr K C "call"
  n9 : NoAttr K C "cells"
  n10 : NoAttr K C "handles"
structure WT (K : PySem.W.Frag) (C : Addr) : Prop where
  cls : Cls K C
  n1 : NoAttr K C "processes"
  n2 : NoAttr K C "files"
  n3 : NoAttr K C "things"
  n4 : NoAttr K C "pipes"
  n5 : NoAttr K C "sides"
  n6 : NoAttr K C "areas"
  n7 : NoAttr K C "serial"
  n8 : NoAttr K C "answered"
def prFs (n : Int) (p : Pr) (vc : V) (ca ha : Addr) : List (Str × V) := [("number", .int n), ("parent", optV p.par), ("session", .int p.ses), ("group", .int p.grp), ("adopts", .bl p.ado), ("stopped", .bl p.stp), ("code", optV p.code), ("call", vc), ("cells", .ref ca), ("handles", .ref ha)]
def wFs (pd fi th pi si ar : Addr) (ser : Int) (ad : Addr) : List (Str × V) := [("processes", .ref pd), ("files", .ref fi), ("things", .ref th), ("pipes", .ref pi), ("sides", .ref si), ("areas", .ref ar), ("serial", .int ser), ("answered", .ref ad)]
abbrev topK (E : List Ent) : List (Key × V) := E.map fun e => ((Sum.inl e.1 : Key), V.ref e.2.1)
structure PrAt (H : Hp) (CP : Addr) (R : List Addr) (ad : Addr) (e : Ent) : Prop where
  is : ∃ dx vc ca ha cs, H e.2.1 = some (.ins CP dx (prFs e.1 e.2.2 vc ca ha)) ∧ CallV H vc e.2.2.who ∧ H ca = some (.lst cs) ∧ cs.length ≤ 4 ∧ H ha = some (.dK []) ∧ ha ≠ ad ∧ ca ∈ R ∧ ha ∈ R
  inR : e.2.1 ∈ R
/-- answers that are kept -/
def AnsAt (H : Hp) (ad : Addr) (A : List (Int × PyData)) : Prop := ∃ vs : List (Int × V), H ad = some (.dK (vs.map fun x => ((Sum.inl x.1 : Key), x.2))) ∧ vs.map (·.1) = A.map (·.1) ∧ ∀ (i : Nat) x y, vs[i]? = some x → A[i]? = some y → Tp H x.2 y.2
/-- what a lambda of reached is called -/
def qLam : Str := "reached" ++ ".<locals>." ++ "<lambda>"
structure WAd (H : Hp) (CW CP tP : Addr) (R : List Addr) (wa pd ad fi th pi si ar dx : Addr) (ser : Int) (E : List Ent) (A : List (Int × PyData)) : Prop where
  obj : H wa = some (.ins CW dx (wFs pd fi th pi si ar ser ad))
  top : H pd = some (.dK (topK E))
  recs : ∀ e ∈ E, PrAt H CP R ad e
  ans : AnsAt H ad A
  em : ∀ b ∈ [fi, th, pi, si, ar], H b = some (.dK []) ∧ b ≠ ad ∧ b ∈ R
  ne : E ≠ []
  keys : (E.map (·.1)).Nodup
  apd : ad ≠ pd
  inR : wa ∈ R ∧ pd ∈ R ∧ ad ∈ R
  cls : CW ≠ CP
  alo : ∀ b ∈ R, ∃ o, H b = some o
  tab : LamX.TabS H tP qLam ∧ tP ∈ R
theorem tab_fr {F : List Addr} {H H' : Hp} {tP : Addr} {q : Str} (t : LamX.TabS H tP q) (f : Fr F H H') (n : tP ∉ F) : LamX.TabS H' tP q := by
  obtain ⟨ps, h1, h2, h3⟩ := t
  refine ⟨ps, f _ _ h1 (.inl n), h2, fun pos cv hc => ?_⟩
  obtain ⟨c, e1, e2⟩ := h3 pos cv hc
  exact ⟨c, e1, f _ _ e2 (.inr (.inr ⟨_, rfl⟩))⟩
theorem tab_ne {H : Hp} {tP a : Addr} {q : Str} {o : HO} (t : LamX.TabS H tP q) (h : H a = some o) (no : ∀ ps, o ≠ .tbl ps) : tP ∉ [a] := fun m => by
  obtain ⟨ps, h1, _⟩ := t
  rw [List.mem_singleton.mp m, h] at h1
  exact no ps (Option.some.inj h1)
theorem alo_upd {H : Hp} {a b : Addr} {x : HO} (h : ∃ o, H b = some o) : ∃ o, upd H a x b = some o := by
  by_cases z : b = a
  · exact ⟨x, by rw [z]; exact upd_same⟩
  · obtain ⟨o, h⟩ := h
    exact ⟨o, (upd_ne z).trans h⟩
def WAt (H : Hp) (CW CP tP : Addr) (R : List Addr) (wa : Addr) (E : List Ent) (A : List (Int × PyData)) : Prop := ∃ pd ad fi th pi si ar dx ser, WAd H CW CP tP R wa pd ad fi th pi si ar dx ser E A
section
variable {K : PySem.W.Frag} {H H' : Hp} {CW CP tP wa pd ad fi th pi si ar dx : Addr} {ser : Int} {R R' F : List Addr} {E : List Ent} {A : List (Int × PyData)} {n : Int} {pa : Addr} {p p' : Pr}
theorem AnsAt.fr (f : Fr F H H') (h : AnsAt H ad A) (n : ad ∉ F) : AnsAt H' ad A := by
  obtain ⟨vs, h1, h2, h3⟩ := h
  exact ⟨vs, f _ _ h1 (.inl n), h2, fun i x y a b => (h3 i x y a b).fr f⟩
theorem PrAt.fr {e : Ent} (f : Fr F H H') (h : PrAt H CP R ad e) (d : ∀ a ∈ R, a ∉ F) : PrAt H' CP R ad e := by
  obtain ⟨dx, vc, ca, ha, cs, h1, h2, h3, h4, h5, h6, h7, h8⟩ := h.is
  exact ⟨⟨dx, vc, ca, ha, cs, f _ _ h1 (.inl (d _ h.inR)), h2.fr f, f _ _ h3 (.inl (d _ h7)), h4, f _ _ h5 (.inl (d _ h8)), h6, h7, h8⟩, h.inR⟩
/-- what others do leaves the world as it is -/
theorem WAd.fr (w : WAd H CW CP tP R wa pd ad fi th pi si ar dx ser E A) (f : Fr F H H') (d : ∀ a ∈ R, a ∉ F) : WAd H' CW CP tP R wa pd ad fi th pi si ar dx ser E A :=
  ⟨f _ _ w.obj (.inl (d _ w.inR.1)), f _ _ w.top (.inl (d _ w.inR.2.1)), fun e m => (w.recs e m).fr f d, w.ans.fr f (d _ w.inR.2.2), fun b m => ⟨f _ _ (w.em b m).1 (.inl (d _ (w.em b m).2.2)), (w.em b m).2⟩, w.ne, w.keys, w.apd, w.inR, w.cls, fun b m => by
    obtain ⟨o, h⟩ := w.alo b m
    exact ⟨o, f _ _ h (.inl (d b m))⟩, tab_fr w.tab.1 f (d _ w.tab.2), w.tab.2⟩
theorem WAd.ex (w : WAd H CW CP tP R wa pd ad fi th pi si ar dx ser E A) (e : Ex H H') : WAd H' CW CP tP R wa pd ad fi th pi si ar dx ser E A := w.fr (F := []) (Fr.same e) fun _ _ => List.not_mem_nil
theorem WAt.ex (w : WAt H CW CP tP R wa E A) (e : Ex H H') : WAt H' CW CP tP R wa E A := by
  obtain ⟨pd, ad, fi, th, pi, si, ar, dx, ser, w⟩ := w
  exact ⟨pd, ad, fi, th, pi, si, ar, dx, ser, w.ex e⟩
theorem WAt.fr (w : WAt H CW CP tP R wa E A) (f : Fr F H H') (d : ∀ a ∈ R, a ∉ F) : WAt H' CW CP tP R wa E A := by
  obtain ⟨pd, ad, fi, th, pi, si, ar, dx, ser, w⟩ := w
  exact ⟨pd, ad, fi, th, pi, si, ar, dx, ser, w.fr f d⟩
theorem WAd.adr (w : WAd H CW CP tP R wa pd ad fi th pi si ar dx ser E A) {e e' : Ent} (m : e ∈ E) (m' : e' ∈ E) (h : e.2.1 = e'.2.1) : e.1 = e'.1 := by
  obtain ⟨_, _, _, _, _, h1, _⟩ := (w.recs e m).is
  obtain ⟨_, _, _, _, _, h2, _⟩ := (w.recs e' m').is
  rw [h, h2] at h1
  have h3 := Option.some.inj h1
  injection h3 with _ _ h4
  unfold prFs at h4
  injection h4 with h5
  injection h5 with _ h6
  injection h6 with h7
  exact h7.symm
theorem WAd.pne (w : WAd H CW CP tP R wa pd ad fi th pi si ar dx ser E A) {e : Ent} (m : e ∈ E) : e.2.1 ≠ wa ∧ e.2.1 ≠ pd ∧ e.2.1 ≠ ad := by
  obtain ⟨_, _, _, _, _, h1, _⟩ := (w.recs e m).is
  obtain ⟨vs, h2, _⟩ := w.ans
  refine ⟨fun z => ?_, fun z => ?_, fun z => ?_⟩
  · rw [z, w.obj] at h1
    have h3 := Option.some.inj h1
    injection h3 with h4
    exact w.cls h4
  · rw [z, w.top] at h1
    cases h1
  · rw [z, h2] at h1
    cases h1
/-- the entry of a number -/
theorem WAd.rec1 (w : WAd H CW CP tP R wa pd ad fi th pi si ar dx ser E A) (h : E.lookup n = some (pa, p)) : PrAt H CP R ad (n, pa, p) := w.recs _ (look_in h)
/-- a process is changed -/
theorem WAd.set {dxp : Addr} {vc vc' : V} {ca ha ca' ha' : Addr} {cs' : List V} (w : WAd H CW CP tP R wa pd ad fi th pi si ar dx ser E A) (h : E.lookup n = some (pa, p)) (h1 : H pa = some (.ins CP dxp (prFs n p vc ca ha))) (c : CallV H vc' p'.who) (hca : H ca' = some (.lst cs')) (lca : cs'.length ≤ 4) (hha : H ha' = some (.dK [])) (na : ha' ≠ ad) (ic : ca' ∈ R) (ih : ha' ∈ R) :
    WAd (upd H pa (.ins CP dxp (prFs n p' vc' ca' ha'))) CW CP tP R wa pd ad fi th pi si ar dx ser (setE E n p') A ∧ Fr [pa] H (upd H pa (.ins CP dxp (prFs n p' vc' ca' ha'))) := by
  have f : Fr [pa] H (upd H pa (.ins CP dxp (prFs n p' vc' ca' ha'))) := Fr.upd h1 True.intro (List.mem_singleton.mpr rfl)
  have m := look_in h
  have pn := w.pne m
  have keep : ∀ {b : Addr} {o : HO}, H b = some o → (∀ C d fs, o ≠ .ins C d fs) → upd H pa (.ins CP dxp (prFs n p' vc' ca' ha')) b = some o := fun {b o} hb no => by
    rw [upd_ne (fun z => by rw [z, h1] at hb; cases hb; exact no _ _ _ rfl)]
    exact hb
  refine ⟨⟨?_, ?_, fun e me => ?_, ?_, fun b mb => ⟨keep (w.em b mb).1 (fun _ _ _ z => by cases z), (w.em b mb).2⟩, ?_, by rw [set_keys]; exact w.keys, w.apd, w.inR, w.cls, fun b m => alo_upd (w.alo b m), tab_fr w.tab.1 f (tab_ne w.tab.1 h1 (fun _ z => by cases z)), w.tab.2⟩, f⟩
  · rw [upd_ne (fun z => pn.1 z.symm)]
    exact w.obj
  · rw [topK, set_top]
    exact keep w.top (fun _ _ _ z => by cases z)
  · obtain ⟨e0, m0, rfl⟩ := List.mem_map.mp me
    by_cases z : e0.1 = n
    · have e1 : e0 = (n, pa, p) := by
        have a := in_look w.keys (n := e0.1) (x := e0.2) m0
        rw [z, h] at a
        have b := Option.some.inj a
        rw [b, ← z]
      subst e1
      rw [if_pos rfl]
      exact ⟨⟨dxp, vc', ca', ha', cs', upd_same, c.fr f, keep hca (fun _ _ _ z => by cases z), lca, keep hha (fun _ _ _ z => by cases z), na, ic, ih⟩, (w.recs _ m0).inR⟩
    · rw [if_neg z]
      obtain ⟨d1, v1, c1, g1, s1, k1, k2, k3, k4, k5, k6, k7, k8⟩ := (w.recs e0 m0).is
      have ne : e0.2.1 ≠ pa := fun q => z (w.adr m0 m q)
      exact ⟨⟨d1, v1, c1, g1, s1, by rw [upd_ne ne]; exact k1, k2.fr f, keep k3 (fun _ _ _ z => by cases z), k4, keep k5 (fun _ _ _ z => by cases z), k6, k7, k8⟩, (w.recs _ m0).inR⟩
  · obtain ⟨vs, a1, a2, a3⟩ := w.ans
    exact ⟨vs, keep a1 (fun _ _ _ z => by cases z), a2, fun i x y b c => (a3 i x y b c).fr f⟩
  · intro z
    have := w.ne
    have h2 := congrArg List.length z
    unfold setE at h2
    rw [List.length_map] at h2
    exact this (List.length_eq_zero_iff.mp h2)
/-- a process is taken out -/
theorem WAd.drop (w : WAd H CW CP tP R wa pd ad fi th pi si ar dx ser E A) (n : Int) (ne : dropE E n ≠ []) : WAd (upd H pd (.dK (dropK (topK E) (Sum.inl n)))) CW CP tP R wa pd ad fi th pi si ar dx ser (dropE E n) A ∧ Fr [pd] H (upd H pd (.dK (dropK (topK E) (Sum.inl n)))) := by
  have f : Fr [pd] H (upd H pd (.dK (dropK (topK E) (Sum.inl n)))) := Fr.upd w.top True.intro (List.mem_singleton.mpr rfl)
  have e0 : topK E ≠ [] := fun z => w.ne (List.map_eq_nil_iff.mp z)
  have keep : ∀ {b : Addr} {o : HO}, H b = some o → b ≠ pd → upd H pd (.dK (dropK (topK E) (Sum.inl n))) b = some o := fun hb nb => (upd_ne nb).trans hb
  have nem : ∀ {b : Addr}, H b = some (.dK []) → b ≠ pd := fun hb z => by
    rw [z, w.top] at hb
    have h3 := Option.some.inj hb
    injection h3 with h4
    exact e0 h4
  refine ⟨⟨?_, ?_, fun e me => ?_, ?_, fun b mb => ⟨keep (w.em b mb).1 (nem (w.em b mb).1), (w.em b mb).2⟩, ne, ?_, w.apd, w.inR, w.cls, fun b m => alo_upd (w.alo b m), tab_fr w.tab.1 f (tab_ne w.tab.1 w.top (fun _ z => by cases z)), w.tab.2⟩, f⟩
  · exact keep w.obj fun z => by rw [← z] at w; have h1 := w.obj; have h2 := w.top; rw [h1] at h2; cases h2
  · rw [upd_same, topK, drop_top]
  · obtain ⟨m0, _⟩ := List.mem_filter.mp me
    obtain ⟨d1, v1, c1, g1, s1, k1, k2, k3, k4, k5, k6, k7, k8⟩ := (w.recs e m0).is
    exact ⟨⟨d1, v1, c1, g1, s1, keep k1 (w.pne m0).2.1, k2.fr f, keep k3 (fun z => by rw [z, w.top] at k3; cases k3), k4, keep k5 (nem k5), k6, k7, k8⟩, (w.recs _ m0).inR⟩
  · obtain ⟨vs, a1, a2, a3⟩ := w.ans
    exact ⟨vs, keep a1 w.apd, a2, fun i x y b c => (a3 i x y b c).fr f⟩
  · exact (List.filter_sublist.map _).nodup w.keys
end
end K02
set_option Elab.async false
set_option linter.all false
set_option maxRecDepth 100000
set_option maxHeartbeats 4000000
namespace K02
open PySem PySem.Spec PyProof.Rows L2 Evl KB
theorem opt_eq (o : Option Int) (n : Int) : scal (optV o) (.int n) = true ∧ decide (optV o = .int n) = decide (o = some n) := by
  cases o with
  | none => exact ⟨rfl, by simp [optV]⟩
  | some i => exact ⟨rfl, by simp [optV]⟩
theorem opt_non (o : Option Int) : decide (optV o = .non) = o.isNone := by cases o <;> simp [optV]
theorem call_non {H : Hp} {vc : V} {o : Option Int} (h : CallV H vc o) : decide (vc = .non) = o.isNone := by
  cases o with
  | none =>
    have h : vc = .non := h
    simp [h]
  | some k =>
    obtain ⟨t, rfl, _⟩ := h
    simp
theorem top_keys (E : List Ent) : (topK E).map (·.1) = (E.map (·.1)).map Sum.inl := by
  unfold topK
  rw [List.map_map, List.map_map]
  rfl
theorem look_none {E : List Ent} {n : Int} (h : n ∉ E.map (·.1)) : E.lookup n = none := by
  cases z : E.lookup n with
  | none => rfl
  | some x => exact absurd (List.mem_map_of_mem (f := fun e : Ent => e.1) (look_in z)) h
theorem look_some {E : List Ent} {n : Int} (h : n ∈ E.map (·.1)) : ∃ pa p, E.lookup n = some (pa, p) ∧ (n, pa, p) ∈ E := by
  cases z : E.lookup n with
  | none =>
    exfalso
    induction E with
    | nil => cases h
    | cons e E ih =>
      rw [List.map_cons] at h
      rw [List.lookup_cons] at z
      by_cases y : n = e.1
      · have : (n == e.1) = true := beq_iff_eq.mpr y
        rw [this] at z
        cases z
      · have : (n == e.1) = false := beq_eq_false_iff_ne.mpr y
        rw [this] at z
        exact ih ((List.mem_cons.mp h).resolve_left y) z
  | some x => exact ⟨x.1, x.2, rfl, look_in z⟩
theorem fam_in {E : List Ent} {n : Int} {pa : Addr} {p : Pr} (h : E.lookup n = some (pa, p)) : (famE E).at n = some p := by rw [fam_at, h]; rfl
theorem fam_no {E : List Ent} {n : Int} (h : n ∉ E.map (·.1)) : (famE E).at n = none := by rw [fam_at, look_none h]; rfl
section
variable {K : PySem.W.Frag} {σ : L2.St} {H H' : Hp} {CW CP tP wa pd ad fi th pi si ar dx : Addr} {ser : Int} {R : List Addr} {E : List Ent} {A : List (Int × PyData)} {n : Int} {pa : Addr} {p : Pr} {ta tb : TE}
theorem ev_procs (T : WT K CW) (w : WAd H CW CP tP R wa pd ad fi th pi si ar dx ser E A) (h : Ev ta σ H (.ref wa)) : Ev (tFld K ta "processes") σ H (.ref pd) := ev_fld h w.obj T.cls T.n1 rfl
theorem ev_proc (T : WT K CW) (w : WAd H CW CP tP R wa pd ad fi th pi si ar dx ser E A) (h : Ev ta σ H (.ref wa)) (hn : Ev tb σ H (.int n)) (l : E.lookup n = some (pa, p)) : Ev (tDGet (tFld K ta "processes") tb) σ H (.ref pa) :=
  ev_dget (ev_procs T w h) hn w.top (by rw [top_at, l]; rfl)
theorem ev_pin (T : WT K CW) (w : WAd H CW CP tP R wa pd ad fi th pi si ar dx ser E A) (h : Ev ta σ H (.ref wa)) (hn : Ev tb σ H (.int n)) : Ev (tDIn tb (tFld K ta "processes")) σ H (.bl (decide (n ∈ E.map (·.1)))) := by
  have e : (valV (topK E) (Sum.inl n)).isSome = decide (n ∈ E.map (·.1)) := by
    rw [top_at]
    by_cases z : n ∈ E.map (·.1)
    · obtain ⟨pa, p, h, _⟩ := look_some z
      rw [h, decide_eq_true z]
      rfl
    · rw [look_none z, decide_eq_false z]
      rfl
  rw [← e]
  exact ev_din hn (ev_procs T w h) w.top
/-- the fields of a process -/
structure PF (K : PySem.W.Frag) (ta : TE) (σ : L2.St) (H : Hp) (n : Int) (p : Pr) : Prop where
  num : Ev (tFld K ta "number") σ H (.int n)
  par : Ev (tFld K ta "parent") σ H (optV p.par)
  ses : Ev (tFld K ta "session") σ H (.int p.ses)
  grp : Ev (tFld K ta "group") σ H (.int p.grp)
  ado : Ev (tFld K ta "adopts") σ H (.bl p.ado)
  stp : Ev (tFld K ta "stopped") σ H (.bl p.stp)
  code : Ev (tFld K ta "code") σ H (optV p.code)
  call : ∃ vc, Ev (tFld K ta "call") σ H vc ∧ CallV H vc p.who
theorem ev_pf {e : Ent} (T : PT K CP) (w : PrAt H CP R ad e) (h : Ev ta σ H (.ref e.2.1)) : PF K ta σ H e.1 e.2.2 := by
  obtain ⟨dx, vc, ca, ha, cs, h1, h2, _⟩ := w.is
  exact ⟨ev_fld h h1 T.cls T.n1 rfl, ev_fld h h1 T.cls T.n2 rfl, ev_fld h h1 T.cls T.n3 rfl, ev_fld h h1 T.cls T.n4 rfl, ev_fld h h1 T.cls T.n5 rfl, ev_fld h h1 T.cls T.n6 rfl, ev_fld h h1 T.cls T.n7 rfl, ⟨vc, ev_fld h h1 T.cls T.n8 rfl, h2⟩⟩
theorem el_sorted (T : WT K CW) (w : WAd H CW CP tP R wa pd ad fi th pi si ar dx ser E A) (h : Ev ta σ H (.ref wa)) (few : E.length < 64) : EvL (tCB rSrtD (tCons (tFld K ta "processes") tNil)) σ H (((famE E).sorted).map V.int) := by
  unfold Fam.sorted
  rw [fam_keys]
  exact el_srtD (ev_procs T w h) (.inl w.top) (top_keys E) w.keys (by rw [List.length_map]; exact few)
end
theorem mem_sorted {E : List Ent} {n : Int} : n ∈ (famE E).sorted ↔ n ∈ E.map (·.1) := by
  unfold Fam.sorted
  rw [fam_keys]
  exact mem_asc
/-! ### children, is_alive, runs -/
abbrev sChildren : Stmt := topS 18
abbrev nChildren : List Str := ["world", "number", "at"]
theorem scChildren : FnScope nChildren ["world", "number"] (defScope sChildren) := ⟨rfl, rfl, rfl, by decide +kernel, rfl, by decide +kernel, by decide +kernel⟩
abbrev sIsAlive : Stmt := topS 19
abbrev nIsAlive : List Str := ["world", "number"]
theorem scIsAlive : FnScope nIsAlive ["world", "number"] (defScope sIsAlive) := ⟨rfl, rfl, rfl, by decide +kernel, rfl, by decide +kernel, by decide +kernel⟩
abbrev sRuns : Stmt := inClass (topS 12) 1
abbrev nRuns : List Str := ["self"]
theorem scRuns : FnScope nRuns ["self"] (defScope sRuns) := ⟨rfl, rfl, rfl, by decide +kernel, rfl, by decide +kernel, by decide +kernel⟩
def aliveB (S : Fam) (n : Int) : Bool := ((S.at n).map fun p => p.code.isNone).getD false
def spChildren (CW CP tP : Addr) : Sp := fun vs H Q _ => ∃ R wa E A n, vs = [.ref wa, .int n] ∧ WAt H CW CP tP R wa E A ∧ E.length < 64 ∧ RetL (((famE E).kids n).map V.int) H Q
def spIsAlive (CW CP tP : Addr) : Sp := fun vs H Q _ => ∃ R wa E A n, vs = [.ref wa, .int n] ∧ WAt H CW CP tP R wa E A ∧ RetV (.bl (aliveB (famE E) n)) H Q
def spRuns (CW CP tP : Addr) : Sp := fun vs H Q _ => ∃ R wa E A n pa p, vs = [.ref pa] ∧ WAt H CW CP tP R wa E A ∧ E.lookup n = some (pa, p) ∧ RetV (.bl ((famE E).runs n)) H Q
section
variable {P : Program} {w : World} {K : PySem.W.Frag} {mg : Str → Option Value} {base : Heap} {CW CP tP f : Addr} {fd : FuncData}
theorem ok_children (F : Fun K "children" "children" sChildren f fd) (TW : WT K CW) (TP : PT K CP) (m_sorted : mg "sorted" = none) : FnOk P w K mg base CX0 1 f fd ["world", "number"] (spChildren CW CP tP) := by
  refine F.ok scChildren (fun vs H Q E h => ?_) (fun cdv A outer s H vs Q E hr h => ?_)
  · obtain ⟨R, wa, E, A, n, rfl, _⟩ := h
    rfl
  · obtain ⟨R, wa, E, A, n, rfl, ⟨pd, ad, fi, th, pi, si, ar, dx, ser, W⟩, few, q⟩ := h
    have nd := scChildren.nd
    have hu := hu_of hr
    refine ⟨_, (pss_one (ps_ret (pe_lc (own := [("at", 2)]) (g := gName 2) (tt := tTest (tOp rEq (tFld K (tDGet (tFld K (tVar 0) "processes") (tVar 2)) "parent") (tVar 1))) (te := tVar 2) rfl nd (pi_list (pe_callB (cr_srtD rfl) (by rfl) m_sorted (by decide +kernel) (pa_cons (pe_fld (pv 0) rfl) pa_nil))) (blkOk_by (N := nChildren) (sc := defScope sChildren) (by decide +kernel)) (fun _ _ _ _ _ => (pg_name (i := 2) nd rfl (by first | exact .inl rfl | exact .inr rfl))) (fun _ _ _ _ _ => (pts_one (pt_cmpR op_eq (pe_fld (pe_dget hu (pe_fld (pv 0) rfl) (pv 2) (fun _ _ => rfl)) rfl) (pv 1) (nomark _)))) (fun _ _ _ _ _ => (pv 2))))), ?_⟩
    have lc := el_lcGN (K := K) (t := tTest (tOp rEq (tFld K (tDGet (tFld K (tVar 0) "processes") (tVar 2)) "parent") (tVar 1))) (te := tVar 2) (σ := start nChildren [.ref wa, .int n]) (H := H) (j := 2) (vs := [2]) V.int (fun k => decide (((famE E).at k).bind (·.par) = some n)) V.int (el_sorted TW W (ev_var (i := 0) rfl) few) (by
        unfold Fam.sorted
        rw [fam_keys]
        have := len_asc (E.map (·.1))
        rw [List.length_map] at this
        omega) (fun x => rfl) (fun k mk G e => by
        obtain ⟨pa, p, l, m⟩ := look_some (mem_sorted.mp mk)
        have W1 := W.ex e
        rw [fam_in l]
        have pf := ev_pf TP (W1.rec1 l) (ev_proc (σ := wipe (start nChildren [.ref wa, .int n]) [2] |>.set 2 (some (.int k))) TW W1 (ev_var (i := 0) rfl) (ev_var (i := 2) rfl) l)
        exact et_is (et_test (ev_op pf.par (ev_var rfl) (rv_eq (opt_eq _ _).1))) (opt_eq _ _).2) (fun k _ _ G e => ev_var rfl)
    exact s_retL lc q
theorem ok_isAlive (F : Fun K "is_alive" "is_alive" sIsAlive f fd) (TW : WT K CW) (TP : PT K CP) : FnOk P w K mg base CX0 1 f fd ["world", "number"] (spIsAlive CW CP tP) := by
  refine F.ok scIsAlive (fun vs H Q E h => ?_) (fun cdv A outer s H vs Q E hr h => ?_)
  · obtain ⟨R, wa, E, A, n, rfl, _⟩ := h
    rfl
  · obtain ⟨R, wa, E, A, n, rfl, ⟨pd, ad, fi, th, pi, si, ar, dx, ser, W⟩, q⟩ := h
    have nd := scIsAlive.nd
    have hu := hu_of hr
    refine ⟨_, (pss_one (ps_ret (pe_and (pe_cmp (pc_din hu (pv 1) (pe_fld (pv 0) rfl)) rfl) (pe_one (pe_cmp (pc_isN (pe_fld (pe_dget hu (pe_fld (pv 0) rfl) (pv 1) (fun _ _ => rfl)) rfl)) rfl))))), ?_⟩
    by_cases z : n ∈ E.map (·.1)
    · obtain ⟨pa, p, l, m⟩ := look_some z
      have pf := ev_pf TP (W.rec1 l) (ev_proc (σ := start nIsAlive [.ref wa, .int n]) TW W (ev_var (i := 0) rfl) (ev_var (i := 1) rfl) l)
      refine s_ret (ev_is (ev_andV (ev_pin TW W (ev_var rfl) (ev_var rfl)) fun _ => ev_isN pf.code) ?_) q
      unfold aliveB
      rw [fam_in l, decide_eq_true z, opt_non]
      rfl
    · refine s_ret (ev_is (ev_andV (b := false) (ev_pin TW W (ev_var rfl) (ev_var rfl)) fun h => absurd (of_decide_eq_true h) z) ?_) q
      unfold aliveB
      rw [fam_no z, decide_eq_false z]
      rfl
theorem ok_runs (F : Fun K "runs" "Process.runs" sRuns f fd) (TP : PT K CP) : FnOk P w K mg base CX0 1 f fd ["self"] (spRuns CW CP tP) := by
  refine F.ok scRuns (fun vs H Q E h => ?_) (fun cdv A outer s H vs Q E hr h => ?_)
  · obtain ⟨R, wa, E, A, n, pa, p, rfl, _⟩ := h
    rfl
  · obtain ⟨R, wa, E, A, n, pa, p, rfl, ⟨pd, ad, fi, th, pi, si, ar, dx, ser, W⟩, l, q⟩ := h
    have nd := scRuns.nd
    have hu := hu_of hr
    refine ⟨_, (pss_one (ps_ret (pe_and (pe_cmp (pc_isN (pe_fld (pv 0) rfl)) rfl) (pe_and (pe_cmp (pc_isN (pe_fld (pv 0) rfl)) rfl) (pe_one (pe_not (pe_fld (pv 0) rfl))))))), ?_⟩
    have pf := ev_pf TP (W.rec1 l) (ev_var (σ := start nRuns [.ref pa]) (i := 0) rfl)
    obtain ⟨vc, ev, cv⟩ := pf.call
    refine s_ret (ev_is (ev_andV (ev_isN pf.code) fun _ => ev_andV (ev_isN ev) fun _ => ev_notV pf.stp) ?_) q
    unfold Fam.runs
    rw [fam_in l, opt_non, call_non cv]
    show V.bl (p.code.isNone && (p.who.isNone && !p.stp)) = V.bl (p.code.isNone && !p.stp && p.who.isNone)
    cases p.code.isNone <;> cases p.who.isNone <;> cases p.stp <;> rfl
end
end K02
set_option Elab.async false
set_option linter.all false
set_option maxRecDepth 100000
set_option maxHeartbeats 4000000
namespace K02
open PySem PySem.Spec PyProof.Rows L2 Evl KB
theorem inV_ints (n : Int) (xs : List Int) : inV (.int n) (xs.map V.int) = decide (n ∈ xs) := by
  unfold inV
  rw [List.any_map, Bool.eq_iff_iff, List.any_eq_true, decide_eq_true_iff]
  constructor
  · rintro ⟨y, m, e⟩
    have e2 : (y == n) = true := e
    rw [← beq_iff_eq.mp e2]
    exact m
  · intro m
    exact ⟨n, m, show (n == n) = true from beq_self_eq_true n⟩
theorem flat_ints (xs : List Int) : (xs.map V.int).all flatV = true := by
  rw [List.all_map, List.all_eq_true]
  exact fun _ _ => rfl
/-- all but the object at d -/
def Fz (d : Addr) (H G : Hp) : Prop := ∀ b o, b ≠ d → H b = some o → G b = some o
theorem look_set {E : List Ent} {n : Int} {pa : Addr} {p p' : Pr} (h : E.lookup n = some (pa, p)) : (setE E n p').lookup n = some (pa, p') := by
  induction E with
  | nil => cases h
  | cons e E ih =>
    rw [List.lookup_cons] at h
    show (((if e.1 = n then (e.1, e.2.1, p') else e) :: setE E n p').lookup n) = _
    by_cases z : n = e.1
    · rw [if_pos z.symm, List.lookup_cons]
      have : (n == e.1) = true := beq_iff_eq.mpr z
      rw [this] at h ⊢
      have h2 := Option.some.inj h
      rw [h2]
    · have : (n == e.1) = false := beq_eq_false_iff_ne.mpr z
      rw [if_neg (fun y => z y.symm), List.lookup_cons]
      rw [this] at h ⊢
      exact ih h
theorem look_set_ne {E : List Ent} {n m : Int} {p' : Pr} (h : m ≠ n) : (setE E n p').lookup m = E.lookup m := by
  induction E with
  | nil => rfl
  | cons e E ih =>
    show (((if e.1 = n then (e.1, e.2.1, p') else e) :: setE E n p').lookup m) = _
    rw [List.lookup_cons, List.lookup_cons]
    by_cases z : e.1 = n
    · rw [if_pos z]
      have : (m == e.1) = false := beq_eq_false_iff_ne.mpr (fun y => h (y.trans z))
      rw [this]
      exact ih
    · rw [if_neg z, ih]
/-! ### answers -/
def EvG (te : TE) (σ : L2.St) (H : Hp) (d : PyData) : Prop := ∀ H1, Ex H H1 → ∀ Q : VK, (∀ v H2, Ex H1 H2 → Tp H2 v d → Q v H2) → te σ H1 Q
def RetT (d : PyData) (H : Hp) (Q : VK) : Prop := ∀ v H2, Ex H H2 → Tp H2 v d → Q v H2
/-- the world is E' then, the answer d -/
def RetE (H : Hp) (CW CP tP : Addr) (R : List Addr) (wa : Addr) (E' : List Ent) (A' : List (Int × PyData)) (d : PyData) (Q : VK) : Prop := ∀ v H' R', Fr R H H' → (∀ b ∈ R, b ∈ R') → (∀ b ∈ R', b ∈ R ∨ H b = none) → WAt H' CW CP tP R' wa E' A' → Tp H' v d → Q v H'
abbrev toldD (d : PyData) : PyData := .tuple [.str "told", d]
abbrev refD (w : Str) : PyData := .tuple [.str "refused", .str w]
section
variable {K : PySem.W.Frag} {σ : L2.St} {H H' : Hp} {CW CP tP wa pd ad fi th pi si ar dx : Addr} {ser : Int} {R : List Addr} {E : List Ent} {A : List (Int × PyData)} {n : Int} {pa : Addr} {p p' : Pr} {ta tb te tl t1 t2 t3 t4 t5 : TE} {t : TT} {tz : TS} {D : Ends} {v : V} {d e d1 d2 d3 d4 d5 : PyData}
theorem eg_v (h : Ev te σ H v) (g : Tp H v d) : EvG te σ H d := fun H1 e1 Q q => h H1 e1 _ fun H2 e2 => q v H2 e2 (g.ex (e1.trans e2))
theorem eg_t1 (h : EvG ta σ H d) : EvG (tTup (tCons ta tNil)) σ H (.tuple [d]) := fun H1 e1 Q q =>
  h H1 e1 _ fun v H2 e2 g2 => ⟨by show 1 ≤ sizeLine; decide, fun l nl => q _ _ (e2.trans (Ex.new nl)) (.t1 upd_same (g2.ex (Ex.new nl)))⟩
theorem eg_t2 (h : EvG ta σ H d) (h2 : EvG tb σ H e) : EvG (tTup (tCons ta (tCons tb tNil))) σ H (.tuple [d, e]) := fun H1 e1 Q q =>
  h H1 e1 _ fun v H2 e2 g2 => h2 H2 (e1.trans e2) _ fun u H3 e3 g3 => ⟨by show 2 ≤ sizeLine; decide, fun l nl => q _ _ ((e2.trans e3).trans (Ex.new nl)) (.t2 upd_same ((g2.ex e3).ex (Ex.new nl)) (g3.ex (Ex.new nl)))⟩
theorem eg_t5 (h1 : EvG t1 σ H d1) (h2 : EvG t2 σ H d2) (h3 : EvG t3 σ H d3) (h4 : EvG t4 σ H d4) (h5 : EvG t5 σ H d5) : EvG (tTup (tCons t1 (tCons t2 (tCons t3 (tCons t4 (tCons t5 tNil)))))) σ H (.tuple [d1, d2, d3, d4, d5]) := fun H1 e1 Q q =>
  h1 H1 e1 _ fun v1 H2 e2 g1 => h2 H2 (e1.trans e2) _ fun v2 H3 e3 g2 => h3 H3 (e1.trans (e2.trans e3)) _ fun v3 H4 e4 g3 => h4 H4 (e1.trans (e2.trans (e3.trans e4))) _ fun v4 H5 e5 g4 => h5 H5 (e1.trans (e2.trans (e3.trans (e4.trans e5)))) _ fun v5 H6 e6 g5 =>
    ⟨by show 5 ≤ sizeLine; decide, fun l nl => q _ _ ((e2.trans (e3.trans (e4.trans (e5.trans e6)))).trans (Ex.new nl)) (.t5 upd_same ((g1.ex (e3.trans (e4.trans (e5.trans e6)))).ex (Ex.new nl)) ((g2.ex (e4.trans (e5.trans e6))).ex (Ex.new nl)) ((g3.ex (e5.trans e6)).ex (Ex.new nl)) ((g4.ex e6).ex (Ex.new nl)) (g5.ex (Ex.new nl)))⟩
theorem s_retG (h : EvG te σ H d) (k : ∀ v H1, Ex H H1 → Tp H1 v d → D.rt v H1) : tRet te D σ H := h H (Ex.refl H) _ k
theorem eg_told (h : EvG te σ H d) : EvG (tTup (tCons (tC (.str "told")) (tCons te tNil))) σ H (toldD d) := eg_t2 (eg_v ev_c (.str _)) h
theorem eg_ref {w : Str} : EvG (tTup (tCons (tC (.str "refused")) (tCons (tC (.str w)) tNil))) σ H (refD w) := eg_t2 (eg_v ev_c (.str _)) (eg_v ev_c (.str _))
theorem RetE.of (q : RetE H CW CP tP R wa E A d Q) (W : WAt H CW CP tP R wa E A) {G : Hp} (f : Ex H G) (g : Tp G v d) : Q v G := q v G R (Fr.same f) (fun b m => m) (fun b m => .inl m) (W.ex f) g
theorem rv_inTI {p : Addr} {xs : List Int} {n : Int} (h : SqT K H p (xs.map V.int)) : RV (rIn K false) (.int n) (.ref p) H (.bl (decide (n ∈ xs))) := by
  have r := rv_inT (x := .int n) (neg := false) h rfl (flat_ints xs)
  rw [inV_ints] at r
  exact r
theorem rv_inI {p : Addr} {xs : List Int} {n : Int} (h : SqL K H p (xs.map V.int)) : RV (rIn K false) (.int n) (.ref p) H (.bl (decide (n ∈ xs))) := by
  have r := rv_isL (x := .int n) h rfl (flat_ints xs)
  rw [inV_ints] at r
  exact r
theorem rv_niI {p : Addr} {xs : List Int} {n : Int} (h : SqL K H p (xs.map V.int)) : RV (rIn K true) (.int n) (.ref p) H (.bl (!decide (n ∈ xs))) := by
  have r := rv_niL (x := .int n) h rfl (flat_ints xs)
  rw [inV_ints] at r
  exact r
theorem ev_any {bs : List Bool} (h : EvL tl σ H (bs.map V.bl)) : Ev (tCB (rAny K) (tCons tl tNil)) σ H (.bl (bs.any id)) := fun H1 e Q q => h H1 e _ fun D G2 nD e2 gD => ⟨D, bs, rfl, sq_of gD, q G2 e2⟩
theorem et_truL {xs : List V} (h : EvL te σ H xs) : EvT (fun σ H Q => te σ H fun x H' => ∃ k, TruV K x H' k ∧ Q k H') σ H (!xs.isEmpty) := fun H1 e Q q => h H1 e _ fun p H2 np e2 gp => ⟨!xs.isEmpty, .inl ⟨_, SqL.of gp, rfl⟩, q H2 e2⟩
/-- [e for x in d.values() if t] -/
theorem el_vals {α : Type} {xs : List α} {kf : α → Key} {vf : α → V} {te0 : TE} {j : Nat} {vs : List Nat} (hH : H pd = some (.dK (xs.map fun b => (kf b, vf b)))) (few : xs.length ≤ 40000) (h0 : ∀ G, Fz pd H G → Ev te0 σ G (.ref pd)) (p : α → Bool) (g : α → V) (hw : ∀ x, wipe ((wipe σ vs).set j (some x)) vs = wipe σ vs)
    (ht : ∀ b ∈ xs, ∀ G, Fz pd H G → EvT t ((wipe σ vs).set j (some (vf b))) G (p b)) (he : ∀ b ∈ xs, p b = true → ∀ G, Fz pd H G → Ev te ((wipe σ vs).set j (some (vf b))) G (g b)) :
    EvL (tLockE (tLc (iVals te0) (gName j) t te vs)) σ H ((xs.filter p).map g) := fun H1 e1 Q q => by
  have g1 := e1 _ _ hH
  refine ⟨pd, _, g1, True.intro, fun od => ?_⟩
  have gk : upd H1 pd (.frz od (.dK (xs.map fun b => (kf b, vf b)))) pd = some (.frz od (.dK (xs.map fun b => (kf b, vf b)))) := upd_same
  have z1 : Fz pd H1 (upd H1 pd (.frz od (.dK (xs.map fun b => (kf b, vf b))))) := fun b o nb hb => (upd_ne nb).trans hb
  have fr : ∀ {b : Addr}, upd H1 pd (.frz od (.dK (xs.map fun b => (kf b, vf b)))) b = none → H1 b = none := fun {b} h => by
    by_cases z : b = pd
    · rw [z, gk] at h; cases h
    · rw [upd_ne z] at h; exact h
  generalize upd H1 pd (.frz od (.dK (xs.map fun b => (kf b, vf b)))) = Hf at gk z1 fr ⊢
  have zf : Fz pd H Hf := fun b o nb hb => z1 b o nb (e1 _ _ hb)
  refine h0 Hf zf Hf (Ex.refl Hf) _ fun H2 e2 => ?_
  have z2 : Fz pd H H2 := fun b o nb hb => e2 _ _ (zf b o nb hb)
  refine ⟨pd, od, _, rfl, e2 _ _ gk, fun Dl hD => lc_it (walk_values (d := pd) (o := od) (kvs := xs.map fun b => (kf b, vf b))) (Made H2 xs p g Dl) ⟨hD, Ex.new hD, upd_same⟩ (fun i G _ m => m.2.1 _ _ (e2 _ _ gk)) ?_ fun G m => ?_⟩
  · rintro i x G _ hi m ⟨rfl, k, ek⟩
    rw [List.getElem?_map] at ek
    obtain ⟨b, eb, e3⟩ := Option.map_eq_some_iff.mp ek
    obtain ⟨_, rfl⟩ := Prod.mk.inj e3
    have mb := List.mem_of_getElem? eb
    exact ⟨hw _, made_turn m few eb (ht b mb H2 z2) (fun hp => he b mb hp H2 z2)⟩
  · obtain ⟨nD, eG, gD⟩ := m
    rw [List.length_map, List.take_length] at gD
    have gk2 := e2 _ _ gk
    have nk : Dl ≠ pd := fun z => by rw [z, gk2] at nD; cases nD
    refine ⟨eG _ _ gk2, q Dl _ (fr (fresh_back e2 nD)) (fun b o h => ?_) ((upd_ne nk).trans gD)⟩
    by_cases z : b = pd
    · rw [z, upd_same, ← g1, ← z, h]
    · rw [upd_ne z]
      exact eG _ _ (e2 _ _ (z1 b o z h))
theorem WAd.fz (W : WAd H CW CP tP R wa pd ad fi th pi si ar dx ser E A) {G : Hp} (z : Fz pd H G) : G wa = some (.ins CW dx (wFs pd fi th pi si ar ser ad)) ∧ ∀ e ∈ E, PrAt G CP R ad e := by
  have npw : wa ≠ pd := fun z => by have h1 := W.obj; rw [z, W.top] at h1; cases h1
  have e0 : topK E ≠ [] := fun z => W.ne (List.map_eq_nil_iff.mp z)
  refine ⟨z _ _ npw W.obj, fun e m => ?_⟩
  obtain ⟨d1, v1, c1, g1, s1, k1, k2, k3, k4, k5, k6, k7, k8⟩ := (W.recs e m).is
  refine ⟨⟨d1, v1, c1, g1, s1, z _ _ (W.pne m).2.1 k1, ?_, z _ _ (fun y => by rw [y, W.top] at k3; cases k3) k3, k4, z _ _ (fun y => by
    rw [y, W.top] at k5
    have h3 := Option.some.inj k5
    injection h3 with h4
    exact e0 h4) k5, k6, k7, k8⟩, (W.recs e m).inR⟩
  revert k2
  cases e.2.2.who with
  | none => exact id
  | some k =>
    rintro ⟨t, rfl, ht⟩
    exact ⟨t, rfl, z _ _ (fun y => by rw [y, W.top] at ht; cases ht) ht⟩
/-- a field of a process is written -/
theorem q_pset {f : Str} (TP : PT K CP) (W : WAd H CW CP tP R wa pd ad fi th pi si ar dx ser E A) (l : E.lookup n = some (pa, p)) (hv : Ev te σ H v) (ho : Ev ta σ H (.ref pa)) (no : NoAttr K CP f) (hput : ∀ vc ca ha, putF f v (prFs n p vc ca ha) = prFs n p' vc ca ha) (hwho : p'.who = p.who)
    (k : ∀ H1, Fr R H H1 → WAd H1 CW CP tP R wa pd ad fi th pi si ar dx ser (setE E n p') A → tz D σ H1) : tSeq (sFld K ta te f) tz D σ H := by
  obtain ⟨d1, v1, c1, g1, s1, k1, k2, k3, k4, k5, k6, k7, k8⟩ := (W.rec1 l).is
  refine q_fld hv ho k1 TP.cls no (by show 10 < 1000; omega) fun H1 e1 => ?_
  rw [hput]
  have W1 := W.ex e1
  obtain ⟨w2, f2⟩ := W1.set (p' := p') (vc' := v1) l (e1 _ _ k1) (by rw [hwho]; exact k2.fr (F := []) (Fr.same e1)) (e1 _ _ k3) k4 (e1 _ _ k5) k6 k7 k8
  exact k _ ((Fr.same e1).trans (f2.more fun x m => by rw [List.mem_singleton.mp m]; exact (W.rec1 l).inR)) w2
end
end K02
set_option Elab.async false
set_option linter.all false
set_option maxRecDepth 100000
set_option maxHeartbeats 4000000
namespace K02
open PySem PySem.Spec PyProof.Rows L2 Evl KB
def takenB (S : Fam) (n : Int) : Bool := S.any fun e => decide (n ∈ [e.1, e.2.ses, e.2.grp])
def wordP (p : Pr) : Str := if p.code.isSome then "ended" else if p.stp then "stopped" else if p.who.isNone then "runs" else "waits"
def sesOf (S : Fam) (n : Int) : Int := ((S.at n).map (·.ses)).getD 1
def mayB (S : Fam) (n who : Int) : Bool := (decide (who = n) || (decide (who ∈ S.kids n) && aliveB S who)) && decide (sesOf S who = sesOf S n)
def grpB (S : Fam) (n : Int) : Bool := S.any fun e => decide (e.2.grp = n)
def peerB (S : Fam) (s g : Int) : Bool := S.any fun e => decide (e.2.ses = s) && decide (g ∈ [e.1, e.2.grp])
abbrev sIsTaken : Stmt := topS 46
abbrev nIsTaken : List Str := ["world", "number", "at"]
theorem scIsTaken : FnScope nIsTaken ["world", "number"] (defScope sIsTaken) := ⟨rfl, rfl, rfl, by decide +kernel, rfl, by decide +kernel, by decide +kernel⟩
abbrev sWordOf : Stmt := topS 59
abbrev nWordOf : List Str := ["process"]
theorem scWordOf : FnScope nWordOf ["process"] (defScope sWordOf) := ⟨rfl, rfl, rfl, by decide +kernel, rfl, by decide +kernel, by decide +kernel⟩
abbrev sMayMove : Stmt := topS 50
abbrev nMayMove : List Str := ["world", "caller", "who"]
theorem scMayMove : FnScope nMayMove ["world", "caller", "who"] (defScope sMayMove) := ⟨rfl, rfl, rfl, by decide +kernel, rfl, by decide +kernel, by decide +kernel⟩
abbrev sDoLead : Stmt := topS 48
abbrev nDoLead : List Str := ["world", "caller", "at"]
theorem scDoLead : FnScope nDoLead ["world", "caller"] (defScope sDoLead) := ⟨rfl, rfl, rfl, by decide +kernel, rfl, by decide +kernel, by decide +kernel⟩
abbrev sDoAdopt : Stmt := topS 49
abbrev nDoAdopt : List Str := ["world", "caller"]
theorem scDoAdopt : FnScope nDoAdopt ["world", "caller"] (defScope sDoAdopt) := ⟨rfl, rfl, rfl, by decide +kernel, rfl, by decide +kernel, by decide +kernel⟩
abbrev sDoJoin : Stmt := topS 51
abbrev nDoJoin : List Str := ["world", "caller", "who", "group", "target", "at", "peers"]
theorem scDoJoin : FnScope nDoJoin ["world", "caller", "who", "group"] (defScope sDoJoin) := ⟨rfl, rfl, rfl, by decide +kernel, rfl, by decide +kernel, by decide +kernel⟩
/-- what a call makes of an entry, the answer -/
def leadE (E : List Ent) (n : Int) (p : Pr) : List Ent × PyData := if (famE E).kids n ≠ [] then (E, refD "children") else if grpB (famE E) n = true then (E, refD "group") else (setE E n { p with ses := n, grp := n }, toldD .none)
def adoptE (E : List Ent) (n : Int) (p : Pr) : List Ent × PyData := if (famE E).kids n ≠ [] then (E, refD "children") else (setE E n { p with ado := true }, toldD .none)
def joinE (E : List Ent) (n who g : Int) : List Ent × PyData :=
  if mayB (famE E) n who = false then (E, refD "no child")
  else match E.lookup who with
    | none => (E, refD "no child")
    | some x => if x.2.ses = who then (E, refD "leads") else if peerB (famE E) (sesOf (famE E) n) g = false then (E, refD "no group") else (setE E who { x.2 with grp := g }, toldD .none)
def spIsTaken (CW CP tP : Addr) : Sp := fun vs H Q _ => ∃ R wa E A n, vs = [.ref wa, .int n] ∧ WAt H CW CP tP R wa E A ∧ E.length < 64 ∧ RetV (.bl (takenB (famE E) n)) H Q
def spWordOf (CP : Addr) : Sp := fun vs H Q _ => ∃ R ad e, vs = [.ref e.2.1] ∧ PrAt H CP R ad e ∧ RetV (.str (wordP e.2.2)) H Q
def spMayMove (CW CP tP : Addr) : Sp := fun vs H Q _ => ∃ R wa E A n pa p who, vs = [.ref wa, .ref pa, .int who] ∧ WAt H CW CP tP R wa E A ∧ E.length < 64 ∧ E.lookup n = some (pa, p) ∧ RetV (.bl (mayB (famE E) n who)) H Q
def spDoLead (CW CP tP : Addr) : Sp := fun vs H Q _ => ∃ R wa E A n pa p, vs = [.ref wa, .ref pa] ∧ WAt H CW CP tP R wa E A ∧ E.length < 64 ∧ E.lookup n = some (pa, p) ∧ RetE H CW CP tP R wa (leadE E n p).1 A (leadE E n p).2 Q
def spDoAdopt (CW CP tP : Addr) : Sp := fun vs H Q _ => ∃ R wa E A n pa p, vs = [.ref wa, .ref pa] ∧ WAt H CW CP tP R wa E A ∧ E.length < 64 ∧ E.lookup n = some (pa, p) ∧ RetE H CW CP tP R wa (adoptE E n p).1 A (adoptE E n p).2 Q
def spDoJoin (CW CP tP : Addr) : Sp := fun vs H Q _ => ∃ R wa E A n pa p who g, vs = [.ref wa, .ref pa, .int who, .int g] ∧ WAt H CW CP tP R wa E A ∧ E.length < 64 ∧ E.lookup n = some (pa, p) ∧ RetE H CW CP tP R wa (joinE E n who g).1 A (joinE E n who g).2 Q
theorem fam_any (E : List Ent) (p : Int → Pr → Bool) : (famE E).any (fun e => p e.1 e.2) = (E.map fun e => p e.1 e.2.2).any id := by
  unfold famE
  rw [List.any_map, List.any_map]
  rfl
section
variable {P : Program} {w : World} {K : PySem.W.Frag} {mg : Str → Option Value} {base : Heap} {CW CP tP f : Addr} {fd : FuncData}
theorem ok_isTaken (F : Fun K "is_taken" "is_taken" sIsTaken f fd) (TW : WT K CW) (TP : PT K CP) (m_any : mg "any" = none) : FnOk P w K mg base CX0 1 f fd ["world", "number"] (spIsTaken CW CP tP) := by
  refine F.ok scIsTaken (fun vs H Q E h => ?_) (fun cdv A outer s H vs Q E hr h => ?_)
  · obtain ⟨R, wa, E, A, n, rfl, _⟩ := h
    rfl
  · obtain ⟨R, wa, E, A, n, rfl, ⟨pd, ad, fi, th, pi, si, ar, dx, ser, W⟩, few, q⟩ := h
    have nd := scIsTaken.nd
    have hu := hu_of hr
    refine ⟨_, (pss_one (ps_ret (pe_callB (cr_any rfl) (by rfl) m_any (by decide +kernel) (pa_cons (pe_lock (pe_lc (own := [("at", 2)]) (g := gName 2) (tt := tYes) (te := tOp (rIn K false) (tVar 1) (tTup (tCons (tFld K (tVar 2) "number") (tCons (tFld K (tVar 2) "session") (tCons (tFld K (tVar 2) "group") tNil))))) rfl nd (pi_values (pe_fld (pv 0) rfl)) (blkOk_by (N := nIsTaken) (sc := defScope sIsTaken) (by decide +kernel)) (fun _ _ _ _ _ => (pg_name (i := 2) nd rfl (by first | exact .inl rfl | exact .inr rfl))) (fun _ _ _ _ _ => pts_nil) (fun _ _ _ _ _ => (pe_cmpR op_in_seq (pv 1) (pe_tup (pa_cons (pe_fld (pv 2) rfl) (pa_cons (pe_fld (pv 2) rfl) (pa_cons (pe_fld (pv 2) rfl) pa_nil)))) (by rfl))))) pa_nil)))), ?_⟩
    have lc := el_vals (H := H) (pd := pd) (xs := E) (kf := fun e => Sum.inl e.1) (vf := fun e => V.ref e.2.1) (te0 := tFld K (tVar 0) "processes") (t := tYes) (te := tOp (rIn K false) (tVar 1) (tTup (tCons (tFld K (tVar 2) "number") (tCons (tFld K (tVar 2) "session") (tCons (tFld K (tVar 2) "group") tNil))))) (σ := start nIsTaken [.ref wa, .int n]) (j := 2) (vs := [2]) W.top (by omega)
      (fun G z => ev_fld (ev_var rfl) (W.fz z).1 TW.cls TW.n1 rfl) (fun _ => true) (fun e => .bl (decide (n ∈ [e.1, e.2.2.ses, e.2.2.grp]))) (fun x => rfl) (fun e m G z => et_yes) (fun e m _ G z => by
        have pf := ev_pf (σ := (wipe (start nIsTaken [.ref wa, .int n]) [2]).set 2 (some (.ref e.2.1))) TP ((W.fz z).2 e m) (ev_var (i := 2) rfl)
        exact ev_opU (ev_var rfl) (eu_tup (ea_cons pf.num (ea_cons pf.ses (ea_cons pf.grp ea_nil))) (by show 3 ≤ 100000; omega)) fun p H1 hp e1 => rv_inTI (xs := [e.1, e.2.2.ses, e.2.2.grp]) (st_of hp))
    rw [Evl.filter_all] at lc
    have e2 : E.map (fun e => V.bl (decide (n ∈ [e.1, e.2.2.ses, e.2.2.grp]))) = (E.map fun e => decide (n ∈ [e.1, e.2.2.ses, e.2.2.grp])).map V.bl := by rw [List.map_map]; rfl
    rw [e2] at lc
    refine s_ret (ev_is (ev_any lc) ?_) q
    unfold takenB
    rw [fam_any E fun k p => decide (n ∈ [k, p.ses, p.grp])]
theorem ok_wordOf (F : Fun K "word_of" "word_of" sWordOf f fd) (TP : PT K CP) : FnOk P w K mg base CX0 1 f fd ["process"] (spWordOf CP) := by
  refine F.ok scWordOf (fun vs H Q E h => ?_) (fun cdv A outer s H vs Q E hr h => ?_)
  · obtain ⟨R, ad, e, rfl, _⟩ := h
    rfl
  · obtain ⟨R, ad, e, rfl, W, q⟩ := h
    have nd := scWordOf.nd
    have hu := hu_of hr
    refine ⟨_, (pss_cons (ps_if (pt_cmp (pc_notN (pe_fld (pv 0) rfl))) (pss_one (ps_ret pe_str)) pss_nil)
      (pss_cons (ps_if (pt_val (pe_fld (pv 0) rfl)) (pss_one (ps_ret pe_str)) pss_nil)
      (pss_one (ps_ret (pe_ifExp (pt_cmp (pc_isN (pe_fld (pv 0) rfl))) pe_str pe_str))))), ?_⟩
    have pf := ev_pf TP W (ev_var (σ := start nWordOf [.ref e.2.1]) (i := 0) rfl)
    have ec : (!decide (optV e.2.2.code = .non)) = e.2.2.code.isSome := by rw [opt_non]; cases e.2.2.code <;> rfl
    unfold wordP at q
    refine q_when (et_is (et_B (ev_notN pf.code)) ec) (fun hb H1 e1 => ?_) (fun hb H1 e1 => ?_)
    · rw [hb] at q
      exact s_ret ev_c fun H2 e2 => q H2 (e1.trans e2)
    · rw [hb] at q
      have W1 : PrAt H1 CP R ad e := W.fr (F := []) (Fr.same e1) fun _ _ => List.not_mem_nil
      have pf1 := ev_pf TP W1 (ev_var (σ := start nWordOf [.ref e.2.1]) (i := 0) rfl)
      refine q_when (et_B pf1.stp) (fun hb2 H2 e2 => ?_) (fun hb2 H2 e2 => ?_)
      · rw [hb2] at q
        exact s_ret ev_c fun H3 e3 => q H3 (e1.trans (e2.trans e3))
      · rw [hb2] at q
        have W2 : PrAt H2 CP R ad e := W1.fr (F := []) (Fr.same e2) fun _ _ => List.not_mem_nil
        obtain ⟨vc, ev, cv⟩ := (ev_pf TP W2 (ev_var (σ := start nWordOf [.ref e.2.1]) (i := 0) rfl)).call
        refine s_ret (ev_if (b := e.2.2.who.isNone) (et_is (et_B (ev_isN ev)) (call_non cv)) (v := .str (if e.2.2.who.isNone = true then "runs" else "waits")) (fun h => ?_) (fun h => ?_)) fun H3 e3 => q H3 (e1.trans (e2.trans e3))
        · rw [if_pos h]; exact ev_c
        · rw [if_neg (by rw [h]; decide)]; exact ev_c
theorem ok_mayMove (F : Fun K "may_move" "may_move" sMayMove f fd) (TW : WT K CW) (TP : PT K CP) (G_children : Kf P w K mg base 1 "children" ["world", "number"] (spChildren CW CP tP)) (G_is_alive : Kf P w K mg base 1 "is_alive" ["world", "number"] (spIsAlive CW CP tP)) : FnOk P w K mg base CX0 2 f fd ["world", "caller", "who"] (spMayMove CW CP tP) := by
  refine F.ok scMayMove (fun vs H Q E h => ?_) (fun cdv A outer s H vs Q E hr h => ?_)
  · obtain ⟨R, wa, E, A, n, pa, p, who, rfl, _⟩ := h
    rfl
  · obtain ⟨R, wa, E, A, n, pa, p, who, rfl, W0, few, l, q⟩ := h
    obtain ⟨pd, ad, fi, th, pi, si, ar, dx, ser, W⟩ := W0
    have nd := scMayMove.nd
    have hu := hu_of hr
    refine ⟨_, (pss_cons (ps_if (PW.pt (pw_and (pt_cmpR op_ne (pv 2) (pe_fld (pv 1) rfl) (nomark _)) (pw_and1 (PW.pt (pw_or (pt_cmpR op_notIn_seq (pv 2) (pe_fn G_children (hr.mono (by decide)) (pa_cons (pv 0) (pa_cons (pe_fld (pv 1) rfl) pa_nil))) (by rfl)) (pw_or1 (pt_not (pt_val (pe_fn G_is_alive (hr.mono (by decide)) (pa_cons (pv 0) (pa_cons (pv 2) pa_nil))))))))))) (pss_one (ps_ret pe_bl)) pss_nil)
      (pss_one (ps_ret (pe_cmpR op_eq (pe_fld (pe_dget hu (pe_fld (pv 0) rfl) (pv 2) (fun _ _ => rfl)) rfl) (pe_fld (pv 1) rfl) (nomark _))))), ?_⟩
    have pf := ev_pf TP (W.rec1 l) (ev_var (σ := start nMayMove [.ref wa, .ref pa, .int who]) (i := 1) rfl)
    have c1 : SpL (spChildren CW CP tP) ([.ref wa, .int n] ++ []) H (((famE E).kids n).map V.int) := fun H2 e2 Q q E' => ⟨R, wa, E, A, n, rfl, ⟨pd, ad, fi, th, pi, si, ar, dx, ser, W.ex e2⟩, few, q⟩
    have c2 : SpV (spIsAlive CW CP tP) ([.ref wa, .int who] ++ []) H (.bl (aliveB (famE E) who)) := fun H2 e2 Q q E' => ⟨R, wa, E, A, who, rfl, ⟨pd, ad, fi, th, pi, si, ar, dx, ser, W.ex e2⟩, q⟩
    refine q_when (et_and (et_is (et_test (ev_op (ev_var rfl) pf.num (rv_ne rfl))) (show (!decide (V.int who = V.int n)) = !decide (who = n) by simp)) fun _ => et_or (et_test (ev_opL (ev_var rfl) (el_call (ea_cons (ev_var rfl) (ea_cons pf.num ea_nil)) c1) fun p H1 hp e1 => rv_niI (sq_of hp))) fun _ => et_not (et_B (ev_call (ea_cons (ev_var rfl) (ea_cons (ev_var rfl) ea_nil)) c2))) (fun hb H1 e1 => ?_) (fun hb H1 e1 => ?_)
    · refine s_ret (ev_is ev_c ?_) fun H2 e2 => q H2 (e1.trans e2)
      unfold mayB
      revert hb
      cases decide (who = n) <;> cases decide (who ∈ (famE E).kids n) <;> cases aliveB (famE E) who <;> simp
    · have hm : (decide (who = n) || (decide (who ∈ (famE E).kids n) && aliveB (famE E) who)) = true := by
        revert hb
        cases decide (who = n) <;> cases decide (who ∈ (famE E).kids n) <;> cases aliveB (famE E) who <;> simp
      have hin : ∃ pa' p', E.lookup who = some (pa', p') := by
        rw [Bool.or_eq_true] at hm
        rcases hm with h | h
        · rw [of_decide_eq_true h]; exact ⟨pa, p, l⟩
        · rw [Bool.and_eq_true] at h
          obtain ⟨m1, _⟩ := List.mem_filter.mp (of_decide_eq_true h.1)
          obtain ⟨pa', p', h1, _⟩ := look_some (mem_sorted.mp m1)
          exact ⟨pa', p', h1⟩
      obtain ⟨pa', p', l'⟩ := hin
      have W1 := W.ex e1
      have pf1 := ev_pf TP (W1.rec1 l') (ev_proc (σ := start nMayMove [.ref wa, .ref pa, .int who]) TW W1 (ev_var (i := 0) rfl) (ev_var (i := 2) rfl) l')
      have pf2 := ev_pf TP (W1.rec1 l) (ev_var (σ := start nMayMove [.ref wa, .ref pa, .int who]) (i := 1) rfl)
      refine s_ret (ev_is (ev_op pf1.ses pf2.ses (rv_eq rfl)) ?_) fun H2 e2 => q H2 (e1.trans e2)
      unfold mayB sesOf
      rw [hm, fam_in l, fam_in l']
      show V.bl (decide (V.int p'.ses = V.int p.ses)) = V.bl (true && decide (p'.ses = p.ses))
      simp
theorem ok_doAdopt (F : Fun K "do_adopt" "do_adopt" sDoAdopt f fd) (TW : WT K CW) (TP : PT K CP) (G_children : Kf P w K mg base 1 "children" ["world", "number"] (spChildren CW CP tP)) : FnOk P w K mg base CX0 2 f fd ["world", "caller"] (spDoAdopt CW CP tP) := by
  refine F.ok scDoAdopt (fun vs H Q E h => ?_) (fun cdv A outer s H vs Q E hr h => ?_)
  · obtain ⟨R, wa, E, A, n, pa, p, rfl, _⟩ := h
    rfl
  · obtain ⟨R, wa, E, A, n, pa, p, rfl, W0, few, l, q⟩ := h
    obtain ⟨pd, ad, fi, th, pi, si, ar, dx, ser, W⟩ := W0
    have nd := scDoAdopt.nd
    have hu := hu_of hr
    refine ⟨_, (pss_cons (ps_if (pt_truth (pe_fn G_children (hr.mono (by decide)) (pa_cons (pv 0) (pa_cons (pe_fld (pv 1) rfl) pa_nil))) (by intro _; rfl)) (pss_one (ps_ret (pe_tup (pa_cons pe_str (pa_cons pe_str pa_nil))))) pss_nil)
      (pss_cons (ps_fld (pv 1) pe_bl rfl)
      (pss_one (ps_ret (pe_tup (pa_cons pe_str (pa_cons pe_non pa_nil))))))), ?_⟩
    have pf := ev_pf TP (W.rec1 l) (ev_var (σ := start nDoAdopt [.ref wa, .ref pa]) (i := 1) rfl)
    have c1 : SpL (spChildren CW CP tP) ([.ref wa, .int n] ++ []) H (((famE E).kids n).map V.int) := fun H2 e2 Q q E' => ⟨R, wa, E, A, n, rfl, ⟨pd, ad, fi, th, pi, si, ar, dx, ser, W.ex e2⟩, few, q⟩
    refine q_when (et_truL (el_call (ea_cons (ev_var rfl) (ea_cons pf.num ea_nil)) c1)) (fun hb H1 e1 => ?_) (fun hb H1 e1 => ?_)
    · rw [List.isEmpty_map] at hb
      have hk : (famE E).kids n ≠ [] := fun z => by rw [z] at hb; cases hb
      unfold adoptE at q
      rw [if_pos hk] at q
      exact s_retG eg_ref fun v H2 e2 g => q.of ⟨pd, ad, fi, th, pi, si, ar, dx, ser, W⟩ (e1.trans e2) g
    · rw [List.isEmpty_map] at hb
      have hk : (famE E).kids n = [] := by
        cases z : (famE E).kids n with
        | nil => rfl
        | cons a l => rw [z] at hb; cases hb
      unfold adoptE at q
      rw [if_neg (fun z => z hk)] at q
      refine q_pset (p' := { p with ado := true }) TP (W.ex e1) l ev_c (ev_var rfl) TP.n5 (fun _ _ _ => rfl) rfl fun H2 f2 W2 => ?_
      exact s_retG (eg_told (eg_v ev_c .non)) fun v H3 e3 g => q v H3 R ((Fr.same e1).trans (f2.trans (Fr.same e3))) (fun b m => m) (fun b m => .inl m) ⟨pd, ad, fi, th, pi, si, ar, dx, ser, W2.ex e3⟩ g
theorem ok_doLead (F : Fun K "do_lead" "do_lead" sDoLead f fd) (TW : WT K CW) (TP : PT K CP) (G_children : Kf P w K mg base 1 "children" ["world", "number"] (spChildren CW CP tP)) (m_any : mg "any" = none) : FnOk P w K mg base CX0 2 f fd ["world", "caller"] (spDoLead CW CP tP) := by
  refine F.ok scDoLead (fun vs H Q E h => ?_) (fun cdv A outer s H vs Q E hr h => ?_)
  · obtain ⟨R, wa, E, A, n, pa, p, rfl, _⟩ := h
    rfl
  · obtain ⟨R, wa, E, A, n, pa, p, rfl, W0, few, l, q⟩ := h
    obtain ⟨pd, ad, fi, th, pi, si, ar, dx, ser, W⟩ := W0
    have nd := scDoLead.nd
    have hu := hu_of hr
    refine ⟨_, (pss_cons (ps_if (pt_truth (pe_fn G_children (hr.mono (by decide)) (pa_cons (pv 0) (pa_cons (pe_fld (pv 1) rfl) pa_nil))) (by intro _; rfl)) (pss_one (ps_ret (pe_tup (pa_cons pe_str (pa_cons pe_str pa_nil))))) pss_nil)
      (pss_cons (ps_if (pt_val (pe_callB (cr_any rfl) (by rfl) m_any (by decide +kernel) (pa_cons (pe_lock (pe_lc (own := [("at", 2)]) (g := gName 2) (tt := tYes) (te := tOp rEq (tFld K (tVar 2) "group") (tFld K (tVar 1) "number")) rfl nd (pi_values (pe_fld (pv 0) rfl)) (blkOk_by (N := nDoLead) (sc := defScope sDoLead) (by decide +kernel)) (fun _ _ _ _ _ => (pg_name (i := 2) nd rfl (by first | exact .inl rfl | exact .inr rfl))) (fun _ _ _ _ _ => pts_nil) (fun _ _ _ _ _ => (pe_cmpR op_eq (pe_fld (pv 2) rfl) (pe_fld (pv 1) rfl) (nomark _))))) pa_nil))) (pss_one (ps_ret (pe_tup (pa_cons pe_str (pa_cons pe_str pa_nil))))) pss_nil)
      (pss_cons (ps_fld (pv 1) (pe_fld (pv 1) rfl) rfl)
      (pss_cons (ps_fld (pv 1) (pe_fld (pv 1) rfl) rfl)
      (pss_one (ps_ret (pe_tup (pa_cons pe_str (pa_cons pe_non pa_nil))))))))), ?_⟩
    have pf := ev_pf TP (W.rec1 l) (ev_var (σ := start nDoLead [.ref wa, .ref pa]) (i := 1) rfl)
    have c1 : SpL (spChildren CW CP tP) ([.ref wa, .int n] ++ []) H (((famE E).kids n).map V.int) := fun H2 e2 Q q E' => ⟨R, wa, E, A, n, rfl, ⟨pd, ad, fi, th, pi, si, ar, dx, ser, W.ex e2⟩, few, q⟩
    refine q_when (et_truL (el_call (ea_cons (ev_var rfl) (ea_cons pf.num ea_nil)) c1)) (fun hb H1 e1 => ?_) (fun hb H1 e1 => ?_)
    · rw [List.isEmpty_map] at hb
      have hk : (famE E).kids n ≠ [] := fun z => by rw [z] at hb; cases hb
      unfold leadE at q
      rw [if_pos hk] at q
      exact s_retG eg_ref fun v H2 e2 g => q.of ⟨pd, ad, fi, th, pi, si, ar, dx, ser, W⟩ (e1.trans e2) g
    rw [List.isEmpty_map] at hb
    have hk : (famE E).kids n = [] := by
      cases z : (famE E).kids n with
      | nil => rfl
      | cons a l => rw [z] at hb; cases hb
    unfold leadE at q
    rw [if_neg (fun z => z hk)] at q
    have W1 := W.ex e1
    have lc := el_vals (H := H1) (pd := pd) (xs := E) (kf := fun e => Sum.inl e.1) (vf := fun e => V.ref e.2.1) (te0 := tFld K (tVar 0) "processes") (t := tYes) (te := tOp rEq (tFld K (tVar 2) "group") (tFld K (tVar 1) "number")) (σ := start nDoLead [.ref wa, .ref pa]) (j := 2) (vs := [2]) W1.top (by omega)
      (fun G z => ev_fld (ev_var rfl) (W1.fz z).1 TW.cls TW.n1 rfl) (fun _ => true) (fun e => .bl (decide (e.2.2.grp = n))) (fun x => rfl) (fun e m G z => et_yes) (fun e m _ G z => by
        have pf1 := ev_pf (σ := (wipe (start nDoLead [.ref wa, .ref pa]) [2]).set 2 (some (.ref e.2.1))) TP ((W1.fz z).2 e m) (ev_var (i := 2) rfl)
        have pf2 := ev_pf (σ := (wipe (start nDoLead [.ref wa, .ref pa]) [2]).set 2 (some (.ref e.2.1))) TP ((W1.fz z).2 _ (look_in l)) (ev_var (i := 1) rfl)
        exact ev_is (ev_op pf1.grp pf2.num (rv_eq rfl)) (show V.bl (decide (V.int e.2.2.grp = V.int n)) = V.bl (decide (e.2.2.grp = n)) by simp))
    rw [Evl.filter_all] at lc
    have e2 : E.map (fun e => V.bl (decide (e.2.2.grp = n))) = (E.map fun e => decide (e.2.2.grp = n)).map V.bl := by rw [List.map_map]; rfl
    rw [e2] at lc
    have eg : (E.map fun e => decide (e.2.2.grp = n)).any id = grpB (famE E) n := by
      unfold grpB
      rw [fam_any E fun k p => decide (p.grp = n)]
    refine q_when (et_is (et_B (ev_any lc)) eg) (fun hb2 H2 e2 => ?_) (fun hb2 H2 e2 => ?_)
    · rw [if_pos hb2] at q
      exact s_retG eg_ref fun v H3 e3 g => q.of ⟨pd, ad, fi, th, pi, si, ar, dx, ser, W⟩ (e1.trans (e2.trans e3)) g
    · rw [if_neg (by rw [hb2]; decide)] at q
      have W2 := W1.ex e2
      have pf2 := ev_pf TP (W2.rec1 l) (ev_var (σ := start nDoLead [.ref wa, .ref pa]) (i := 1) rfl)
      refine q_pset (p' := { p with ses := n }) TP W2 l pf2.num (ev_var rfl) TP.n3 (fun _ _ _ => rfl) rfl fun H3 f3 W3 => ?_
      have l3 := look_set (p' := { p with ses := n }) l
      have pf3 := ev_pf TP (W3.rec1 l3) (ev_var (σ := start nDoLead [.ref wa, .ref pa]) (i := 1) rfl)
      refine q_pset (p' := { p with ses := n, grp := n }) TP W3 l3 pf3.num (ev_var rfl) TP.n4 (fun _ _ _ => rfl) rfl fun H4 f4 W4 => ?_
      have es : setE (setE E n { p with ses := n }) n { p with ses := n, grp := n } = setE E n { p with ses := n, grp := n } := by
        unfold setE
        rw [List.map_map]
        refine List.map_congr_left fun e _ => ?_
        show (if (if e.1 = n then (e.1, e.2.1, { p with ses := n }) else e).1 = n then _ else _) = _
        by_cases z : e.1 = n
        · simp [z]
        · simp [z]
      rw [es] at W4
      exact s_retG (eg_told (eg_v ev_c .non)) fun v H5 e5 g => q v H5 R ((Fr.same (e1.trans e2)).trans (f3.trans (f4.trans (Fr.same e5)))) (fun b m => m) (fun b m => .inl m) ⟨pd, ad, fi, th, pi, si, ar, dx, ser, W4.ex e5⟩ g
end
end K02
set_option Elab.async false
set_option linter.all false
set_option maxRecDepth 100000
set_option maxHeartbeats 4000000
namespace L2
open PySem PySem.Spec PyProof.Rows
section
variable {X : Cx}
/-- what is never reached -/
theorem pe_f {e : Expr} : PE X e (fun _ _ _ => False) := ⟨fun pins s σ H Q I h => h.elim⟩
theorem ps_f {st : Stmt} : PS X st (fun _ _ _ => False) := ⟨fun pins s σ H D I h => h.elim⟩
theorem pss_f {sts : List Stmt} : PSs X sts (fun _ _ _ => False) := ⟨fun pins s σ H D I h => h.elim⟩
end
end L2
namespace K02
open PySem PySem.Spec PyProof.Rows L2 Evl KB
theorem set_self {E : List Ent} (nd : (E.map (·.1)).Nodup) {n : Int} {pa : Addr} {p : Pr} (h : E.lookup n = some (pa, p)) : setE E n p = E := by
  unfold setE
  have : ∀ e ∈ E, (if e.1 = n then (e.1, e.2.1, p) else e) = e := fun e m => by
    by_cases z : e.1 = n
    · rw [if_pos z]
      have a := in_look nd (n := e.1) (x := e.2) m
      rw [z, h] at a
      have b : (pa, p) = e.2 := Option.some.inj a
      have b1 : p = e.2.2 := congrArg Prod.snd b
      rw [b1]
    · rw [if_neg z]
  rw [List.map_congr_left this]
  simp
theorem set_set (E : List Ent) (n : Int) (p p' : Pr) : setE (setE E n p) n p' = setE E n p' := by
  unfold setE
  rw [List.map_map]
  refine List.map_congr_left fun e _ => ?_
  show (if (if e.1 = n then (e.1, e.2.1, p) else e).1 = n then _ else _) = _
  by_cases z : e.1 = n
  · simp [z]
  · simp [z]
/-! ### families in order: 1 first, each below an earlier one that is alive -/
structure Ord (S : Fam) : Prop where
  nd : S.keys.Nodup
  first : ∃ p rest, S = (1, p) :: rest ∧ p.par = none ∧ p.ado = true ∧ p.code = none
  par : ∀ (i : Nat) (n : Int) (p : Pr), S[i]? = some (n, p) → i ≠ 0 → ∃ (j : Nat) (m : Int) (q : Pr), j < i ∧ S[j]? = some (m, q) ∧ p.par = some m ∧ q.code = none
  few : S.length < 64
  dead : ∀ e ∈ S, e.2.code.isSome = true → e.2.ado = false
theorem at_idx {S : Fam} (nd : S.keys.Nodup) : ∀ {i : Nat} {n : Int} {p : Pr}, S[i]? = some (n, p) → S.at n = some p := by
  unfold Fam.keys at nd
  unfold Fam.at
  induction S with
  | nil => intro i n p h; simp at h
  | cons e S ih =>
    rw [List.map_cons, List.nodup_cons] at nd
    intro i n p h
    rw [List.lookup_cons]
    cases i with
    | zero =>
      have h : some e = some (n, p) := by simpa using h
      have h := Option.some.inj h
      rw [h]
      simp
    | succ i =>
      have h : S[i]? = some (n, p) := by simpa using h
      have ne : n ≠ e.1 := fun z => nd.1 (by rw [← z]; exact List.mem_map_of_mem (f := fun e : Int × Pr => e.1) (List.mem_of_getElem? h))
      have : (n == e.1) = false := beq_eq_false_iff_ne.mpr ne
      rw [this]
      exact ih nd.2 h
theorem idx_at {S : Fam} {n : Int} {p : Pr} (h : S.at n = some p) : ∃ i : Nat, S[i]? = some (n, p) := by
  unfold Fam.at at h
  induction S with
  | nil => cases h
  | cons e S ih =>
    rw [List.lookup_cons] at h
    by_cases z : n = e.1
    · have : (n == e.1) = true := beq_iff_eq.mpr z
      rw [this] at h
      exact ⟨0, by have := Option.some.inj h; rw [z, ← this]; rfl⟩
    · have : (n == e.1) = false := beq_eq_false_iff_ne.mpr z
      rw [this] at h
      obtain ⟨i, hi⟩ := ih h
      exact ⟨i + 1, by simpa using hi⟩
/-- the adopter from m on upward -/
def adopF (S : Fam) : Nat → Int → Int
  | 0, m => m
  | k + 1, m => match S.at m with
    | some q => if q.ado = true then m else (match q.par with | some m' => adopF S k m' | none => m)
    | none => m
def heir (S : Fam) (n : Int) : Int := adopF S 64 (((S.at n).bind (·.par)).getD 1)
theorem adop_more {S : Fam} (O : Ord S) : ∀ (i : Nat) (n : Int) (p : Pr), S[i]? = some (n, p) → ∀ k k', i < k → i < k' → adopF S k n = adopF S k' n := by
  intro i
  induction i using Nat.strongRecOn with
  | ind i ih =>
    intro n p h k k' hk hk'
    cases k with
    | zero => omega
    | succ k =>
      cases k' with
      | zero => omega
      | succ k' =>
        have ha := at_idx O.nd h
        show (match S.at n with | some q => if q.ado = true then n else (match q.par with | some m' => adopF S k m' | none => n) | none => n) = (match S.at n with | some q => if q.ado = true then n else (match q.par with | some m' => adopF S k' m' | none => n) | none => n)
        rw [ha]
        show (if p.ado = true then n else (match p.par with | some m' => adopF S k m' | none => n)) = (if p.ado = true then n else (match p.par with | some m' => adopF S k' m' | none => n))
        by_cases z : p.ado = true
        · rw [if_pos z, if_pos z]
        · rw [if_neg z, if_neg z]
          by_cases z0 : i = 0
          · obtain ⟨p0, rest, e0, h1, h2, h3⟩ := O.first
            rw [z0, e0] at h
            have h : some ((1 : Int), p0) = some (n, p) := by simpa using h
            have h := Option.some.inj h
            have hp : p0 = p := congrArg Prod.snd h
            rw [hp] at h2
            exact absurd h2 z
          · obtain ⟨j, m, q, hj, hm, hpar, _⟩ := O.par i n p h z0
            rw [hpar]
            exact ih j hj m q hm k k' (by omega) (by omega)
theorem adop_yes {S : Fam} {m : Int} {q : Pr} (h : S.at m = some q) (ha : q.ado = true) : adopF S 64 m = m := by
  show (match S.at m with | some q => if q.ado = true then m else (match q.par with | some m' => adopF S 63 m' | none => m) | none => m) = m
  rw [h]
  show (if q.ado = true then m else _) = m
  rw [if_pos ha]
theorem adop_no {S : Fam} (O : Ord S) {m m' : Int} {q q' : Pr} (h : S.at m = some q) (ha : q.ado = false) (hp : q.par = some m') (h' : S.at m' = some q') : adopF S 64 m = adopF S 64 m' := by
  show (match S.at m with | some q => if q.ado = true then m else (match q.par with | some m' => adopF S 63 m' | none => m) | none => m) = _
  rw [h]
  show (if q.ado = true then m else (match q.par with | some m' => adopF S 63 m' | none => m)) = _
  rw [if_neg (by rw [ha]; decide), hp]
  obtain ⟨i, hi⟩ := idx_at h
  obtain ⟨j, hj⟩ := idx_at h'
  have z0 : i ≠ 0 := fun z0 => by
    obtain ⟨p0, rest, e0, h1, h2, h3⟩ := O.first
    rw [z0, e0] at hi
    have hi : some ((1 : Int), p0) = some (m, q) := by simpa using hi
    have hp' : p0 = q := congrArg Prod.snd (Option.some.inj hi)
    rw [hp', hp] at h1
    cases h1
  obtain ⟨j2, m2, q2, l2, hm2, hp2, _⟩ := O.par i m q hi z0
  rw [hp] at hp2
  have e2 := Option.some.inj hp2
  subst e2
  have li := (List.getElem?_eq_some_iff.mp hi).1
  have few := O.few
  exact adop_more O j2 m' q2 hm2 63 64 (by omega) (by omega)
theorem parent_of {S : Fam} (O : Ord S) {n : Int} {p : Pr} (h : S.at n = some p) (hn : n ≠ 1) : ∃ (i j : Nat) (m : Int) (q : Pr), S[i]? = some (n, p) ∧ j < i ∧ S[j]? = some (m, q) ∧ p.par = some m ∧ S.at m = some q ∧ q.code = none := by
  obtain ⟨i, hi⟩ := idx_at h
  have z0 : i ≠ 0 := fun z0 => by
    obtain ⟨p0, rest, e0, _⟩ := O.first
    rw [z0, e0] at hi
    have hi : some ((1 : Int), p0) = some (n, p) := by simpa using hi
    exact hn (congrArg Prod.fst (Option.some.inj hi)).symm
  obtain ⟨j, m, q, hj, hm, hpar, hc⟩ := O.par i n p hi z0
  exact ⟨i, j, m, q, hi, hj, hm, hpar, at_idx O.nd hm, hc⟩
/-! ### row_of, place_in_row, leave_row, adopter_above -/
def callD : Option Int → PyData
  | none => .none
  | some k => .tuple [.str "wait", .int k]
theorem CallV.tp {H : Hp} {vc : V} : ∀ {o : Option Int}, CallV H vc o → Tp H vc (callD o)
  | none, h => by
    have h : vc = .non := h
    rw [h]; exact .non
  | some k, ⟨t, e, h⟩ => by
    rw [e]
    exact .t2 h (.str _) (.int _)
abbrev sRowOf : Stmt := topS 31
abbrev nRowOf : List Str := ["world", "process", "call", "thing", "point"]
theorem scRowOf : FnScope nRowOf ["world", "process", "call"] (defScope sRowOf) := ⟨rfl, rfl, rfl, by decide +kernel, rfl, by decide +kernel, by decide +kernel⟩
abbrev sPlaceInRow : Stmt := topS 32
abbrev nPlaceInRow : List Str := ["world", "process"]
theorem scPlaceInRow : FnScope nPlaceInRow ["world", "process"] (defScope sPlaceInRow) := ⟨rfl, rfl, rfl, by decide +kernel, rfl, by decide +kernel, by decide +kernel⟩
abbrev sLeaveRow : Stmt := topS 33
abbrev nLeaveRow : List Str := ["world", "process", "row"]
theorem scLeaveRow : FnScope nLeaveRow ["world", "process"] (defScope sLeaveRow) := ⟨rfl, rfl, rfl, by decide +kernel, rfl, by decide +kernel, by decide +kernel⟩
abbrev sAdopterAbove : Stmt := topS 52
abbrev nAdopterAbove : List Str := ["world", "process", "above"]
theorem scAdopterAbove : FnScope nAdopterAbove ["world", "process"] (defScope sAdopterAbove) := ⟨rfl, rfl, rfl, by decide +kernel, rfl, by decide +kernel, by decide +kernel⟩
def spRowOf : Sp := fun vs H Q _ => ∃ (v1 v2 : V) (t : Addr) (k : Int), vs = [v1, v2, .ref t] ∧ H t = some (.tup [.str "wait", .int k]) ∧ RetL [] H Q
def spPlaceInRow (CP : Addr) : Sp := fun vs H Q _ => ∃ v1 R ad e, vs = [v1, .ref e.2.1] ∧ PrAt H CP R ad e ∧ e.2.2.who.isSome = true ∧ RetV (.int 0) H Q
def spLeaveRow (CW CP tP : Addr) : Sp := fun vs H Q _ => ∃ R wa E A n pa p, vs = [.ref wa, .ref pa] ∧ WAt H CW CP tP R wa E A ∧ E.lookup n = some (pa, p) ∧ ∀ H', Fr R H H' → WAt H' CW CP tP R wa (setE E n { p with who := none }) A → Q .non H'
def spAdopterAbove (CW CP tP : Addr) : Sp := fun vs H Q _ => ∃ R wa E A n pa p, vs = [.ref wa, .ref pa] ∧ WAt H CW CP tP R wa E A ∧ E.lookup n = some (pa, p) ∧ n ≠ 1 ∧ Ord (famE E) ∧ RetV (.int (heir (famE E) n)) H Q
theorem at_look {E : List Ent} {n : Int} {p : Pr} (h : (famE E).at n = some p) : ∃ pa, E.lookup n = some (pa, p) := by
  rw [fam_at] at h
  obtain ⟨x, h1, h2⟩ := Option.map_eq_some_iff.mp h
  exact ⟨x.1, by rw [h1, ← h2]⟩
section
variable {P : Program} {w : World} {K : PySem.W.Frag} {mg : Str → Option Value} {base : Heap} {CW CP tP f : Addr} {fd : FuncData}
theorem ok_rowOf (F : Fun K "row_of" "row_of" sRowOf f fd) : FnOk P w K mg base CX0 1 f fd ["world", "process", "call"] spRowOf := by
  refine F.ok scRowOf (fun vs H Q E h => ?_) (fun cdv A outer s H vs Q E hr h => ?_)
  · obtain ⟨v1, v2, t, k, rfl, _⟩ := h
    rfl
  · obtain ⟨v1, v2, t, k, rfl, ht, q⟩ := h
    refine ⟨_, pss_cons (ps_if (pt_cmpR op_eq (pe_ix ix_seq (pv 2) pe_int (fun _ _ => rfl)) pe_str (nomark _)) (pss_one (ps_ret (pe_lst pa_nil))) pss_nil) pss_f, ?_⟩
    refine q_when (b := true) (et_is (et_test (ev_op (ev_op (ev_var rfl) ev_c (rv_ixq (i := 0) (.inr ht) rfl)) ev_c (rv_eq rfl))) (by decide +kernel)) (fun _ H1 e1 => ?_) (fun hb => nomatch hb)
    exact s_retL (el_lst ea_nil (by show 0 ≤ 100000; omega)) fun p H2 np e2 g2 => q p H2 (fresh_back e1 np) (e1.trans e2) g2
theorem ok_placeInRow (F : Fun K "place_in_row" "place_in_row" sPlaceInRow f fd) (TP : PT K CP) : FnOk P w K mg base CX0 1 f fd ["world", "process"] (spPlaceInRow CP) := by
  refine F.ok scPlaceInRow (fun vs H Q E h => ?_) (fun cdv A outer s H vs Q E hr h => ?_)
  · obtain ⟨v1, R, ad, e, rfl, _⟩ := h
    rfl
  · obtain ⟨v1, R, ad, e, rfl, W, hw, q⟩ := h
    refine ⟨_, pss_cons (ps_if (pt_cmpR op_eq (pe_ix ix_seq (pe_fld (pv 1) rfl) pe_int (fun _ _ => rfl)) pe_str (nomark _)) (pss_one (ps_ret pe_int)) pss_nil) pss_f, ?_⟩
    obtain ⟨vc, ev, cv⟩ := (ev_pf TP W (ev_var (σ := start nPlaceInRow [v1, .ref e.2.1]) (i := 1) rfl)).call
    cases hk : e.2.2.who with
    | none => rw [hk] at hw; cases hw
    | some k =>
      rw [hk] at cv
      obtain ⟨t, rfl, ht⟩ := cv
      refine q_when (b := true) (et_is (et_test (ev_op (ev_op ev ev_c (rv_ixq (i := 0) (.inr ht) rfl)) ev_c (rv_eq rfl))) (by decide +kernel)) (fun _ H1 e1 => ?_) (fun hb => nomatch hb)
      exact s_ret ev_c fun H2 e2 => q H2 (e1.trans e2)
theorem ok_leaveRow (F : Fun K "leave_row" "leave_row" sLeaveRow f fd) (TP : PT K CP) (G_row_of : Kf P w K mg base 1 "row_of" ["world", "process", "call"] spRowOf) : FnOk P w K mg base CX0 2 f fd ["world", "process"] (spLeaveRow CW CP tP) := by
  refine F.ok scLeaveRow (fun vs H Q E h => ?_) (fun cdv A outer s H vs Q E hr h => ?_)
  · obtain ⟨R, wa, E, A, n, pa, p, rfl, _⟩ := h
    rfl
  · obtain ⟨R, wa, E, A, n, pa, p, rfl, W0, l, q⟩ := h
    obtain ⟨pd, ad, fi, th, pi, si, ar, dx, ser, W⟩ := W0
    have nd := scLeaveRow.nd
    have hu := hu_of hr
    refine ⟨_, (pss_one (ps_if (pt_cmp (pc_notN (pe_fld (pv 1) rfl))) (pss_cons (ps_set (i := 2) nd rfl (by first | exact .inl rfl | exact .inr rfl) (pe_fn G_row_of (hr.mono (by decide)) (pa_cons (pv 0) (pa_cons (pv 1) (pa_cons (pe_fld (pv 1) rfl) pa_nil)))))
      (pss_cons (ps_if (pt_cmpR op_in_seq (pe_fld (pv 1) rfl) (pv 2) (by rfl)) pss_f pss_nil)
      (pss_one (ps_fld (pv 1) pe_non rfl)))) pss_nil)), ?_⟩
    have pf := ev_pf TP (W.rec1 l) (ev_var (σ := start nLeaveRow [.ref wa, .ref pa]) (i := 1) rfl)
    obtain ⟨vc, ev, cv⟩ := pf.call
    have cv : CallV H vc p.who := cv
    refine s_when (et_B (ev_notN ev)) (fun hb H1 e1 => ?_) (fun hb H1 e1 => ?_)
    · rw [call_non cv] at hb
      cases hk : p.who with
      | none => rw [hk] at hb; cases hb
      | some k =>
        rw [hk] at cv
        obtain ⟨t, rfl, ht⟩ := cv
        have c1 : SpL spRowOf ([.ref wa, .ref pa, .ref t] ++ []) H1 [] := fun H2 e2 Q q E' => ⟨.ref wa, .ref pa, t, k, rfl, e2 _ _ (e1 _ _ ht), q⟩
        have ev1 : Ev (tFld K (tVar 1) "call") (start nLeaveRow [.ref wa, .ref pa]) H1 (.ref t) := ev.mono e1
        refine q_asgL (el_call (ea_cons (ev_var rfl) (ea_cons (ev_var rfl) (ea_cons ev1 ea_nil))) c1) fun r H2 nr e2 gr => ?_
        have W2 := (W.ex e1).ex e2
        have pf2 := ev_pf (σ := [some (.ref wa), some (.ref pa), some (.ref r)]) TP (W2.rec1 l) (ev_var (i := 1) rfl)
        refine q_when (b := false) (et_is (et_test (ev_op pf2.num (ev_var rfl) (rv_inI (xs := []) (sq_of gr)))) (by simp)) (fun hb => nomatch hb) (fun _ H3 e3 => ?_)
        have W3 := W2.ex e3
        obtain ⟨d1, v1, c1, g1, s1, k1, k2, k3, k4, k5, k6, k7, k8⟩ := (W3.rec1 l).is
        refine s_fld ev_c (ev_var rfl) k1 TP.cls TP.n8 (by show 10 < 1000; omega) fun H4 e4 => ?_
        obtain ⟨w5, f5⟩ := (W3.ex e4).set (p' := { p with who := none }) (vc' := .non) l (e4 _ _ k1) rfl (e4 _ _ k3) k4 (e4 _ _ k5) k6 k7 k8
        exact q _ ((Fr.same (e1.trans (e2.trans (e3.trans e4)))).trans (f5.more fun x m => by rw [List.mem_singleton.mp m]; exact (W.rec1 l).inR)) ⟨pd, ad, fi, th, pi, si, ar, dx, ser, w5⟩
    · rw [call_non cv] at hb
      have hk : p.who = none := by
        cases hk : p.who with
        | none => rfl
        | some k => rw [hk] at hb; cases hb
      have ep : ({ p with who := none } : Pr) = p := by
        cases p
        simp only at hk
        rw [hk]
      refine q _ (Fr.same e1) ?_
      rw [ep, set_self W.keys l]
      exact ⟨pd, ad, fi, th, pi, si, ar, dx, ser, W.ex e1⟩
theorem ok_adopterAbove (F : Fun K "adopter_above" "adopter_above" sAdopterAbove f fd) (TW : WT K CW) (TP : PT K CP) : FnOk P w K mg base CX0 1 f fd ["world", "process"] (spAdopterAbove CW CP tP) := by
  refine F.ok scAdopterAbove (fun vs H Q E h => ?_) (fun cdv A outer s H vs Q E hr h => ?_)
  · obtain ⟨R, wa, E, A, n, pa, p, rfl, _⟩ := h
    rfl
  · obtain ⟨R, wa, E, A, n, pa, p, rfl, W0, l, hn, O, q⟩ := h
    obtain ⟨pd, ad, fi, th, pi, si, ar, dx, ser, W⟩ := W0
    have nd := scAdopterAbove.nd
    have hu := hu_of hr
    refine ⟨_, (pss_cons (ps_set (i := 2) nd rfl (by first | exact .inl rfl | exact .inr rfl) (pe_dget hu (pe_fld (pv 0) rfl) (pe_fld (pv 1) rfl) (fun _ _ => rfl)))
      (pss_cons (ps_while PassesOwn.never (pt_not (pt_val (pe_fld (pv 2) rfl))) (pss_one (ps_set (i := 2) nd rfl (by first | exact .inl rfl | exact .inr rfl) (pe_dget hu (pe_fld (pv 0) rfl) (pe_fld (pv 2) rfl) (fun _ _ => rfl)))))
      (pss_one (ps_ret (pe_fld (pv 2) rfl))))), ?_⟩
    obtain ⟨i0, j0, m0, q0, hi0, hj0, hm0, hp0, ha0, _⟩ := parent_of O (fam_in l) hn
    obtain ⟨pa0, l0⟩ := at_look ha0
    have pf := ev_pf TP (W.rec1 l) (ev_var (σ := start nAdopterAbove [.ref wa, .ref pa]) (i := 1) rfl)
    have ep : Ev (tFld K (tVar 1) "parent") (start nAdopterAbove [.ref wa, .ref pa]) H (.int m0) := by
      have h := pf.par
      rw [show (n, pa, p).2.2.par = some m0 from hp0] at h
      exact h
    have hh : heir (famE E) n = adopF (famE E) 64 m0 := by
      unfold heir
      rw [fam_in l]
      show adopF _ 64 ((p.par).getD 1) = _
      rw [hp0]
      rfl
    refine q_asg (ev_proc TW W (ev_var rfl) ep l0) fun H1 e1 => ?_
    refine q_while (fun m σ G => ∃ (cur : Int) (ca : Addr) (cq : Pr), σ = [some (.ref wa), some (.ref pa), some (.ref ca)] ∧ Ex H G ∧ E.lookup cur = some (ca, cq) ∧ (famE E)[m]? = some (cur, cq) ∧ adopF (famE E) 64 cur = heir (famE E) n) j0 ⟨m0, pa0, q0, rfl, e1, l0, hm0, hh.symm⟩ ?_
    rintro m σ G ⟨cur, ca, cq, rfl, eG, lc, hm, hc⟩
    have WG := W.ex eG
    have pfc := ev_pf (σ := [some (.ref wa), some (.ref pa), some (.ref ca)]) TP (WG.rec1 lc) (ev_var (i := 2) rfl)
    refine ⟨!cq.ado, et_not (et_B pfc.ado), fun hb G1 eg1 => ?_, fun hb G1 eg1 => ?_⟩
    · have ha : cq.ado = false := by simpa using hb
      have hcur : cur ≠ 1 := fun z => by
        obtain ⟨p1, rest, es, _, h2, _⟩ := O.first
        have h1 : (famE E).at 1 = some p1 := at_idx O.nd (i := 0) (by rw [es]; rfl)
        rw [← z, fam_in lc] at h1
        rw [Option.some.inj h1, h2] at ha
        cases ha
      obtain ⟨i1, j1, m1, q1, hi1, hj1, hm1, hp1, ha1, _⟩ := parent_of O (fam_in lc) hcur
      obtain ⟨pa1, l1⟩ := at_look ha1
      have im : i1 = m := by
        have nd' := O.nd
        unfold Fam.keys at nd'
        have a1 : ((famE E).map (·.1))[i1]? = some cur := by rw [List.getElem?_map, hi1]; rfl
        have a2 : ((famE E).map (·.1))[m]? = some cur := by rw [List.getElem?_map, hm]; rfl
        exact (List.getElem?_inj (List.getElem?_eq_some_iff.mp a1).1 nd').mp (a1.trans a2.symm)
      refine ⟨fun σ2 H2 => ∃ m', m' < m ∧ ∃ (cur : Int) (ca : Addr) (cq : Pr), σ2 = [some (.ref wa), some (.ref pa), some (.ref ca)] ∧ Ex H H2 ∧ E.lookup cur = some (ca, cq) ∧ (famE E)[m']? = some (cur, cq) ∧ adopF (famE E) 64 cur = heir (famE E) n, fun σ2 H2 h => h, ?_⟩
      have W1 := WG.ex eg1
      have pf1 := ev_pf (σ := [some (.ref wa), some (.ref pa), some (.ref ca)]) TP (W1.rec1 lc) (ev_var (i := 2) rfl)
      have ep1 : Ev (tFld K (tVar 2) "parent") [some (.ref wa), some (.ref pa), some (.ref ca)] G1 (.int m1) := by
        have h := pf1.par
        rw [show (cur, ca, cq).2.2.par = some m1 from hp1] at h
        exact h
      refine s_asg (ev_proc TW W1 (ev_var rfl) ep1 l1) fun G2 eg2 => ⟨j1, by omega, m1, pa1, q1, rfl, eG.trans (eg1.trans eg2), l1, hm1, ?_⟩
      rw [← adop_no O (fam_in lc) ha hp1 ha1]
      exact hc
    · have ha : cq.ado = true := by simpa using hb
      have W1 := WG.ex eg1
      have pf1 := ev_pf (σ := [some (.ref wa), some (.ref pa), some (.ref ca)]) TP (W1.rec1 lc) (ev_var (i := 2) rfl)
      refine s_ret (ev_is pf1.num ?_) fun H2 e2 => q H2 (eG.trans (eg1.trans e2))
      rw [← hc, adop_yes (fam_in lc) ha]
end
end K02
set_option Elab.async false
set_option linter.all false
set_option maxRecDepth 100000
set_option maxHeartbeats 4000000
namespace K02
open PySem PySem.Spec PyProof.Rows L2 Evl KB
section
variable {K : PySem.W.Frag} {σ : L2.St} {H H' : Hp} {CW CP tP wa pd ad fi th pi si ar dx : Addr} {ser : Int} {R R' : List Addr} {E : List Ent} {A : List (Int × PyData)} {n : Int} {pa : Addr} {p p' : Pr} {ta tb te : TE} {v : V}
def EvP (te : TE) (σ : L2.St) (H : Hp) (P : V → Hp → Prop) : Prop := ∀ H1, Ex H H1 → ∀ Q : VK, (∀ v H2, Ex H1 H2 → P v H2 → Q v H2) → te σ H1 Q
theorem q_asgP {P : V → Hp → Prop} {i : Nat} {tz : TS} {D : Ends} (h : EvP te σ H P) (k : ∀ v H1, Ex H H1 → P v H1 → tz D (σ.set i (some v)) H1) : tSeq (tAsg te (gName i)) tz D σ H := h H (Ex.refl H) _ fun v H1 e g => k v H1 e g
theorem el_rep {xs : List V} {k : Int} (ha : EvL ta σ H xs) (hb : Ev tb σ H (.int k)) (k0 : 0 ≤ k) (k1 : k ≤ 100) (hx : xs.length ≤ 100) : EvL (tOp rRep ta tb) σ H (List.replicate k.toNat xs).flatten := fun H1 e Q q =>
  ha H1 e _ fun p H2 np e2 gp => hb H2 (e.trans e2) _ fun H3 e3 => ⟨p, k, xs, rfl, rfl, e3 _ _ gp, by omega, by omega, sz_of (by
    have : xs.length * k.toNat ≤ 100 * 100 := Nat.mul_le_mul hx (by omega)
    omega), fun l nl => q l _ (fresh_back (e2.trans e3) nl) ((e2.trans e3).trans (Ex.new nl)) upd_same⟩
theorem PrAt.more {e : Ent} (h : PrAt H CP R ad e) (s : ∀ b ∈ R, b ∈ R') : PrAt H CP R' ad e := by
  obtain ⟨d1, v1, c1, g1, s1, k1, k2, k3, k4, k5, k6, k7, k8⟩ := h.is
  exact ⟨⟨d1, v1, c1, g1, s1, k1, k2, k3, k4, k5, k6, s _ k7, s _ k8⟩, s _ h.inR⟩
theorem WAd.more (W : WAd H CW CP tP R wa pd ad fi th pi si ar dx ser E A) (s : ∀ b ∈ R, b ∈ R') (al : ∀ b ∈ R', b ∈ R ∨ ∃ o, H b = some o) : WAd H CW CP tP R' wa pd ad fi th pi si ar dx ser E A :=
  ⟨W.obj, W.top, fun e m => (W.recs e m).more s, W.ans, fun b m => ⟨(W.em b m).1, (W.em b m).2.1, s _ (W.em b m).2.2⟩, W.ne, W.keys, W.apd, ⟨s _ W.inR.1, s _ W.inR.2.1, s _ W.inR.2.2⟩, W.cls, fun b m => (al b m).elim (W.alo b) id, W.tab.1, s _ W.tab.2⟩
/-- a process more -/
theorem WAd.add (W : WAd H CW CP tP R wa pd ad fi th pi si ar dx ser E A) (hp : PrAt H CP R ad (n, pa, p)) (nn : n ∉ E.map (·.1)) :
    WAd (upd H pd (.dK (putK (topK E) (Sum.inl n) (.ref pa)))) CW CP tP R wa pd ad fi th pi si ar dx ser (E ++ [(n, pa, p)]) A ∧ Fr [pd] H (upd H pd (.dK (putK (topK E) (Sum.inl n) (.ref pa)))) := by
  have e1 : putK (topK E) (Sum.inl n) (.ref pa) = topK (E ++ [(n, pa, p)]) := by
    rw [putK_new _ (by rw [top_at, look_none nn]; rfl)]
    show _ = List.map _ (E ++ [(n, pa, p)])
    rw [List.map_append]
    rfl
  rw [e1]
  have f : Fr [pd] H (upd H pd (.dK (topK (E ++ [(n, pa, p)])))) := Fr.upd W.top True.intro (List.mem_singleton.mpr rfl)
  have e0 : topK E ≠ [] := fun z => W.ne (List.map_eq_nil_iff.mp z)
  have keep : ∀ {b : Addr} {o : HO}, H b = some o → b ≠ pd → upd H pd (.dK (topK (E ++ [(n, pa, p)]))) b = some o := fun hb nb => (upd_ne nb).trans hb
  have nem : ∀ {b : Addr}, H b = some (.dK []) → b ≠ pd := fun hb z => by
    rw [z, W.top] at hb
    have h3 := Option.some.inj hb
    injection h3 with h4
    exact e0 h4
  have one : ∀ {e : Ent}, PrAt H CP R ad e → PrAt (upd H pd (.dK (topK (E ++ [(n, pa, p)])))) CP R ad e := fun {e} h => by
    obtain ⟨d1, v1, c1, g1, s1, k1, k2, k3, k4, k5, k6, k7, k8⟩ := h.is
    exact ⟨⟨d1, v1, c1, g1, s1, keep k1 (fun z => by rw [z, W.top] at k1; cases k1), k2.fr f, keep k3 (fun z => by rw [z, W.top] at k3; cases k3), k4, keep k5 (nem k5), k6, k7, k8⟩, h.inR⟩
  refine ⟨⟨?_, upd_same, fun e me => ?_, ?_, fun b mb => ⟨keep (W.em b mb).1 (nem (W.em b mb).1), (W.em b mb).2⟩, by simp, ?_, W.apd, W.inR, W.cls, fun b m => alo_upd (W.alo b m), tab_fr W.tab.1 f (tab_ne W.tab.1 W.top (fun _ z => by cases z)), W.tab.2⟩, f⟩
  · exact keep W.obj fun z => by have h1 := W.obj; rw [z, W.top] at h1; cases h1
  · rcases List.mem_append.mp me with m | m
    · exact one (W.recs e m)
    · rw [List.mem_singleton.mp m]
      exact one hp
  · obtain ⟨vs, a1, a2, a3⟩ := W.ans
    exact ⟨vs, keep a1 W.apd, a2, fun i x y b c => (a3 i x y b c).fr f⟩
  · rw [List.map_append]
    refine List.nodup_append.mpr ⟨W.keys, by simp, fun a ma b mb z => nn ?_⟩
    have : b = n := by simpa using mb
    rw [← this, ← z]
    exact ma
end
/-! ### Process.__init__, do_fork -/
abbrev sPInit : Stmt := inClass (topS 12) 0
abbrev nPInit : List Str := ["self", "number", "parent", "session", "group"]
theorem scPInit : FnScope nPInit ["self", "number", "parent", "session", "group"] (defScope sPInit) := ⟨rfl, rfl, rfl, by decide +kernel, rfl, by decide +kernel, by decide +kernel⟩
abbrev sDoFork : Stmt := topS 47
abbrev nDoFork : List Str := ["world", "caller", "new", "child"]
theorem scDoFork : FnScope nDoFork ["world", "caller", "new"] (defScope sDoFork) := ⟨rfl, rfl, rfl, by decide +kernel, rfl, by decide +kernel, by decide +kernel⟩
def newP (q : Option Int) (s g : Int) : Pr := ⟨q, s, g, false, false, none, none⟩
def spPInit (CP : Addr) : Sp := fun vs H Q _ => ∃ (x dx : Addr) (n : Int) (q : Option Int) (s g : Int), vs = [.ref x, .int n, optV q, .int s, .int g] ∧ H x = some (.ins CP dx []) ∧
  ∀ H' ca ha, (∀ b o, b ≠ x → H b = some o → H' b = some o) → H ca = none → H ha = none → H' x = some (.ins CP dx (prFs n (newP q s g) .non ca ha)) → H' ca = some (.lst [.int 0, .int 0, .int 0, .int 0]) → H' ha = some (.dK []) → Q .non H'
/-- a fork: what it makes, the new process at pa -/
def forkE (E : List Ent) (n : Int) (p : Pr) (new : Int) (pa : Addr) : List Ent × PyData := if decide (199 < new) || takenB (famE E) new then (E, refD "taken") else (E ++ [(new, pa, newP (some n) p.ses p.grp)], toldD (.int new))
def spDoFork (CW CP tP : Addr) : Sp := fun vs H Q _ => ∃ R wa E A n pa p new, vs = [.ref wa, .ref pa, .int new] ∧ WAt H CW CP tP R wa E A ∧ E.length < 63 ∧ E.lookup n = some (pa, p) ∧ ∀ x, RetE H CW CP tP R wa (forkE E n p new x).1 A (forkE E n p new x).2 Q
section
variable {P : Program} {w : World} {K : PySem.W.Frag} {mg : Str → Option Value} {base : Heap} {CW CP tP f : Addr} {fd : FuncData} {t0 : Tok}
theorem ok_PInit (F : Fun K "__init__" "Process.__init__" sPInit f fd) (TP : PT K CP) (c_CELLS : mg "CELLS" = some (.int 4 t0)) : FnOk P w K mg base CX0 1 f fd ["self", "number", "parent", "session", "group"] (spPInit CP) := by
  refine F.ok scPInit (fun vs H Q E h => ?_) (fun cdv A outer s H vs Q E hr h => ?_)
  · obtain ⟨x, dx, n, q, s', g, rfl, _⟩ := h
    rfl
  · obtain ⟨x, dx, n, o, s', g, rfl, hx, q⟩ := h
    have nd := scPInit.nd
    refine ⟨_, (pss_cons (ps_fld (pv 0) (pv 1) rfl)
      (pss_cons (ps_fld (pv 0) (pv 2) rfl)
      (pss_cons (ps_fld (pv 0) (pv 3) rfl)
      (pss_cons (ps_fld (pv 0) (pv 4) rfl)
      (pss_cons (ps_fld (pv 0) pe_bl rfl)
      (pss_cons (ps_fld (pv 0) pe_bl rfl)
      (pss_cons (ps_fld (pv 0) pe_non rfl)
      (pss_cons (ps_fld (pv 0) pe_non rfl)
      (pss_cons (ps_fld (pv 0) (pe_op op_rep (pe_lst (pa_cons pe_int pa_nil)) (pe_glob (v := .int 4) rfl c_CELLS ⟨_, rfl⟩)) rfl)
      (pss_one (ps_fld (pv 0) pe_dnewK rfl))))))))))), ?_⟩
    have step : ∀ {H0 H1 : Hp} {o : HO}, (∀ b u, b ≠ x → H b = some u → H0 b = some u) → Ex H0 H1 → ∀ b u, b ≠ x → H b = some u → upd H1 x o b = some u := fun h0 e b u nb hb => (upd_ne nb).trans (e _ _ (h0 b u nb hb))
    have k0 : ∀ b u, b ≠ x → H b = some u → H b = some u := fun _ _ _ h => h
    refine q_fld (ev_var rfl) (ev_var rfl) hx TP.cls TP.n1 (by show 0 < 1000; omega) fun H1 e1 => ?_
    have k1 := step (o := .ins CP dx (putF "number" (.int n) [])) k0 e1
    refine q_fld (ev_var rfl) (ev_var rfl) upd_same TP.cls TP.n2 (by show 1 < 1000; omega) fun H2 e2 => ?_
    have k2 := step (o := .ins CP dx (putF "parent" (optV o) (putF "number" (.int n) []))) k1 e2
    refine q_fld (ev_var rfl) (ev_var rfl) upd_same TP.cls TP.n3 (by show 2 < 1000; omega) fun H3 e3 => ?_
    have k3 := step (o := .ins CP dx (putF "session" (.int s') (putF "parent" (optV o) (putF "number" (.int n) [])))) k2 e3
    refine q_fld (ev_var rfl) (ev_var rfl) upd_same TP.cls TP.n4 (by show 3 < 1000; omega) fun H4 e4 => ?_
    have k4 := step (o := .ins CP dx (putF "group" (.int g) (putF "session" (.int s') (putF "parent" (optV o) (putF "number" (.int n) []))))) k3 e4
    refine q_fld ev_c (ev_var rfl) upd_same TP.cls TP.n5 (by show 4 < 1000; omega) fun H5 e5 => ?_
    refine q_fld ev_c (ev_var rfl) upd_same TP.cls TP.n6 (by show 5 < 1000; omega) fun H6 e6 => ?_
    refine q_fld ev_c (ev_var rfl) upd_same TP.cls TP.n7 (by show 6 < 1000; omega) fun H7 e7 => ?_
    refine q_fld ev_c (ev_var rfl) upd_same TP.cls TP.n8 (by show 7 < 1000; omega) fun H8 e8 => ?_
    have k8 : ∀ b u, b ≠ x → H b = some u → H8 b = some u := fun b u nb hb => e8 _ _ (by
      rw [upd_ne nb]
      refine e7 _ _ ?_
      rw [upd_ne nb]
      refine e6 _ _ ?_
      rw [upd_ne nb]
      exact e5 _ _ (k4 b u nb hb))
    refine q_fldL (el_rep (k := 4) (el_lst (ea_cons ev_c ea_nil) (by show 1 ≤ 100000; omega)) ev_c (by decide) (by decide) (by show 1 ≤ 100; omega)) (ev_var rfl) upd_same TP.cls TP.n9 (by show 8 < 1000; omega) fun ca H9 nca e9 gca => ?_
    have nx9 : ca ≠ x := fun z => by rw [z, upd_same] at nca; cases nca
    refine fun ha nha => ⟨_, rfl, x, CP, dx, _, rfl, by rw [upd_ne (ne_of_none upd_same nha)]; exact upd_same, TP.cls, TP.n10, by show 9 < 1000; omega, ?_⟩
    have nxh : ha ≠ x := fun z => by rw [z, upd_same] at nha; cases nha
    rw [upd_ne nxh] at nha
    rw [upd_ne nx9] at nca
    have nch : ca ≠ ha := ne_of_none gca nha
    have back : ∀ {b : Addr}, b ≠ x → H8 b = none → H b = none := fun {b} nb h => by
      cases z : H b with
      | none => rfl
      | some u => rw [k8 b u nb z] at h; cases h
    have nh8 : H8 ha = none := by
      have z := fresh_back e9 nha
      rw [upd_ne nxh] at z
      exact z
    refine q _ ca ha (fun b u nb hb => ?_) (back nx9 nca) (back nxh nh8) upd_same ?_ ?_
    · rw [upd_ne nb, upd_ne (fun z => by rw [z, back nxh nh8] at hb; cases hb), upd_ne nb]
      refine e9 _ _ ?_
      rw [upd_ne nb]
      exact k8 b u nb hb
    · rw [upd_ne nx9, upd_ne nch, upd_ne nx9]
      exact gca
    · rw [upd_ne nxh]
      exact upd_same
theorem ok_doFork (F : Fun K "do_fork" "do_fork" sDoFork f fd) (TW : WT K CW) (TP : PT K CP) (M_Process : Kc P w K mg base 2 CP "Process" ["self", "number", "parent", "session", "group"] (spPInit CP)) (G_is_taken : Kf P w K mg base 1 "is_taken" ["world", "number"] (spIsTaken CW CP tP)) (c_MOST : mg "MOST" = some (.int 199 t0)) (m_list : mg "list" = none) (m_dict : mg "dict" = none) : FnOk P w K mg base CX0 3 f fd ["world", "caller", "new"] (spDoFork CW CP tP) := by
  refine F.ok scDoFork (fun vs H Q E h => ?_) (fun cdv A outer s H vs Q E hr h => ?_)
  · obtain ⟨R, wa, E, A, n, pa, p, new, rfl, _⟩ := h
    rfl
  · obtain ⟨R, wa, E, A, n, pa, p, new, rfl, W0, few, l, q⟩ := h
    obtain ⟨pd, ad, fi, th, pi, si, ar, dx, ser, W⟩ := W0
    have nd := scDoFork.nd
    have hu := hu_of hr
    refine ⟨_, (pss_cons (ps_if (PW.pt (pw_or (pt_cmpR op_gt (pv 2) (pe_glob (v := .int 199) rfl c_MOST ⟨_, rfl⟩) (nomark _)) (pw_or1 (pt_val (pe_fn G_is_taken (hr.mono (by decide)) (pa_cons (pv 0) (pa_cons (pv 2) pa_nil))))))) (pss_one (ps_ret (pe_tup (pa_cons pe_str (pa_cons pe_str pa_nil))))) pss_nil)
      (pss_cons (ps_set (i := 3) nd rfl (by first | exact .inl rfl | exact .inr rfl) (pe_mk M_Process (hr.mono (by decide)) (pa_cons (pv 2) (pa_cons (pe_fld (pv 1) rfl) (pa_cons (pe_fld (pv 1) rfl) (pa_cons (pe_fld (pv 1) rfl) pa_nil))))))
      (pss_cons (ps_fld (pv 3) (pe_callTy call_list_of (by rfl) m_list (by decide +kernel) (pa_cons (pe_fld (pv 1) rfl) pa_nil)) rfl)
      (pss_cons (ps_fld (pv 3) (pe_callTy call_dictD (by rfl) m_dict (by decide +kernel) (pa_cons (pe_fld (pv 1) rfl) pa_nil)) rfl)
      (pss_cons (ps_dput hu (pe_fld (pv 0) rfl) (pv 2) (pv 3) rfl)
      (pss_one (ps_ret (pe_tup (pa_cons pe_str (pa_cons (pv 2) pa_nil)))))))))), ?_⟩
    have c1 : SpV (spIsTaken CW CP tP) ([.ref wa, .int new] ++ []) H (.bl (takenB (famE E) new)) := fun H2 e2 Q q E' => ⟨R, wa, E, A, new, rfl, ⟨pd, ad, fi, th, pi, si, ar, dx, ser, W.ex e2⟩, by omega, q⟩
    refine q_when (et_or (et_test (ev_op (ev_var rfl) ev_c rv_I0)) fun _ => et_B (ev_call (ea_cons (ev_var rfl) (ea_cons (ev_var rfl) ea_nil)) c1)) (fun hb H1 e1 => ?_) (fun hb H1 e1 => ?_)
    · have q := q 0
      unfold forkE at q
      rw [if_pos hb] at q
      exact s_retG eg_ref fun v H2 e2 g => q.of ⟨pd, ad, fi, th, pi, si, ar, dx, ser, W⟩ (e1.trans e2) g
    have W1 := W.ex e1
    have pf := ev_pf TP (W1.rec1 l) (ev_var (σ := start nDoFork [.ref wa, .ref pa, .int new]) (i := 1) rfl)
    refine q_asgP (P := fun v G => ∃ x dxp ca ha, v = .ref x ∧ H1 x = none ∧ G x = some (.ins CP dxp (prFs new (newP (some n) p.ses p.grp) .non ca ha))) (fun G1 eg Q qq => ?_) fun v H2 e2 hv => ?_
    · refine (ea_cons (ev_var rfl) (ea_cons pf.num (ea_cons pf.ses (ea_cons pf.grp ea_nil)))) G1 eg _ fun G2 eg2 => fun x dxp nx ndx ne => ⟨x, dxp, new, some n, p.ses, p.grp, rfl, upd_same, fun G3 ca ha off n1 n2 gx g1 g2 => ⟨rfl, qq _ G3 (fun b u hb => ?_) ⟨x, dxp, ca, ha, rfl, fresh_back (eg.trans eg2) nx, gx⟩⟩⟩
      exact off b u (ne_of_none (eg2 _ _ hb) nx) (by rw [upd_ne (ne_of_none (eg2 _ _ hb) nx), upd_ne (ne_of_none (eg2 _ _ hb) ndx)]; exact eg2 _ _ hb)
    · obtain ⟨x, dxp, ca, ha, rfl, nx, gx⟩ := hv
      have W2 := W1.ex e2
      obtain ⟨d1, v1, c1', g1', s1, j1, j2, j3, j4, j5, j6, j7, j8⟩ := (W2.rec1 l).is
      have pf2 : Ev (tFld K (tVar 1) "cells") [some (.ref wa), some (.ref pa), some (.int new), some (.ref x)] H2 (.ref c1') := ev_fld (ev_var rfl) j1 TP.cls TP.n9 rfl
      -- child.cells
      refine pf2 H2 (Ex.refl H2) _ fun H3 e3 => ⟨c1', s1, rfl, .inl (sq_of (e3 _ _ j3)), fun cc ncc => ⟨_, rfl, x, CP, dxp, _, rfl, Ex.new ncc _ _ (e3 _ _ gx), TP.cls, TP.n9, by show 10 < 1000; omega, ?_⟩⟩
      have nxc : cc ≠ x := fun z => by rw [z, e3 _ _ gx] at ncc; cases ncc
      have eA : Ex H1 (upd (upd H3 cc (.lst s1)) x (.ins CP dxp (putF "cells" (.ref cc) (prFs new (newP (some n) p.ses p.grp) .non ca ha)))) := Ex.mut ((e2.trans e3).trans (Ex.new ncc)) nx
      have gx4 : upd (upd H3 cc (.lst s1)) x (.ins CP dxp (putF "cells" (.ref cc) (prFs new (newP (some n) p.ses p.grp) .non ca ha))) x = some (.ins CP dxp (prFs new (newP (some n) p.ses p.grp) .non cc ha)) := upd_same
      have gc4 : upd (upd H3 cc (.lst s1)) x (.ins CP dxp (putF "cells" (.ref cc) (prFs new (newP (some n) p.ses p.grp) .non ca ha))) cc = some (.lst s1) := by rw [upd_ne nxc]; exact upd_same
      have nc1 : H1 cc = none := fresh_back (e2.trans e3) ncc
      generalize upd (upd H3 cc (.lst s1)) x (.ins CP dxp (putF "cells" (.ref cc) (prFs new (newP (some n) p.ses p.grp) .non ca ha))) = H4 at eA gx4 gc4 ⊢
      have W4 := W1.ex eA
      obtain ⟨d5, v5, c5, g5, s5, m1, m2, m3, m4, m5, m6, m7, m8⟩ := (W4.rec1 l).is
      have pf4 : Ev (tFld K (tVar 1) "handles") [some (.ref wa), some (.ref pa), some (.int new), some (.ref x)] H4 (.ref g5) := ev_fld (ev_var rfl) m1 TP.cls TP.n10 rfl
      -- child.handles
      refine pf4 H4 (Ex.refl H4) _ fun H5 e5 => ⟨g5, [], rfl, .inl (e5 _ _ m5), fun hh nhh => ⟨_, rfl, x, CP, dxp, _, rfl, Ex.new nhh _ _ (e5 _ _ gx4), TP.cls, TP.n10, by show 10 < 1000; omega, ?_⟩⟩
      have nxh : hh ≠ x := fun z => by rw [z, e5 _ _ gx4] at nhh; cases nhh
      have eB : Ex H1 (upd (upd H5 hh (.dK [])) x (.ins CP dxp (putF "handles" (.ref hh) (prFs new (newP (some n) p.ses p.grp) .non cc ha)))) := Ex.mut ((eA.trans e5).trans (Ex.new nhh)) nx
      have gx6 : upd (upd H5 hh (.dK [])) x (.ins CP dxp (putF "handles" (.ref hh) (prFs new (newP (some n) p.ses p.grp) .non cc ha))) x = some (.ins CP dxp (prFs new (newP (some n) p.ses p.grp) .non cc hh)) := upd_same
      have gc6 : upd (upd H5 hh (.dK [])) x (.ins CP dxp (putF "handles" (.ref hh) (prFs new (newP (some n) p.ses p.grp) .non cc ha))) cc = some (.lst s1) := by rw [upd_ne nxc]; exact Ex.new nhh _ _ (e5 _ _ gc4)
      have gh6 : upd (upd H5 hh (.dK [])) x (.ins CP dxp (putF "handles" (.ref hh) (prFs new (newP (some n) p.ses p.grp) .non cc ha))) hh = some (.dK []) := by rw [upd_ne nxh]; exact upd_same
      have nh1 : H1 hh = none := fresh_back (eA.trans e5) nhh
      generalize upd (upd H5 hh (.dK [])) x (.ins CP dxp (putF "handles" (.ref hh) (prFs new (newP (some n) p.ses p.grp) .non cc ha))) = H6 at eB gx6 gc6 gh6 ⊢
      have q := q x
      have hb' : (decide (199 < new) || takenB (famE E) new) = false := hb
      unfold forkE at q
      rw [if_neg (by rw [hb']; decide)] at q
      have nn : new ∉ E.map (·.1) := fun m => by
        rw [Bool.or_eq_false_iff] at hb'
        have h2 := hb'.2
        unfold takenB at h2
        rw [List.any_eq_false] at h2
        obtain ⟨e, me, ee⟩ := List.mem_map.mp m
        have h3 := h2 (e.1, e.2.2) (List.mem_map_of_mem (f := fun e : Ent => (e.1, e.2.2)) me)
        rw [ee] at h3
        simp at h3
      have W6 := (W1.ex eB).more (R' := x :: cc :: hh :: R) (fun b m => List.mem_cons_of_mem _ (List.mem_cons_of_mem _ (List.mem_cons_of_mem _ m))) fun b m => by
        simp only [List.mem_cons] at m
        rcases m with rfl | rfl | rfl | m
        · exact .inr ⟨_, gx6⟩
        · exact .inr ⟨_, gc6⟩
        · exact .inr ⟨_, gh6⟩
        · exact .inl m
      have nha : hh ≠ ad := fun z => by
        obtain ⟨vs, a1, _⟩ := W1.ans
        rw [← z, nh1] at a1
        cases a1
      have hp : PrAt H6 CP (x :: cc :: hh :: R) ad (new, x, newP (some n) p.ses p.grp) := ⟨⟨dxp, .non, cc, hh, s1, gx6, rfl, gc6, j4, gh6, nha, by simp, by simp⟩, by simp⟩
      refine q_dput (ky := Sum.inl new) (by show (topK E).length < 100000; unfold topK; rw [List.length_map]; omega) (ev_var rfl) (ev_procs TW W6 (ev_var rfl)) (ev_var rfl) W6.top fun H7 e7 => ?_
      obtain ⟨W8, f8⟩ := (W6.ex e7).add (hp.fr (F := []) (Fr.same e7) fun _ _ => List.not_mem_nil) nn
      refine s_retG (eg_told (eg_v (ev_var rfl) (.int _))) fun v H9 e9 g => q v H9 (x :: cc :: hh :: R) ((Fr.same (e1.trans (eB.trans e7))).trans ((f8.more fun b m => by rw [List.mem_singleton.mp m]; exact W.inR.2.1).trans (Fr.same e9))) (fun b m => List.mem_cons_of_mem _ (List.mem_cons_of_mem _ (List.mem_cons_of_mem _ m))) (fun b m => ?_) ⟨pd, ad, fi, th, pi, si, ar, dx, ser, W8.ex e9⟩ g
      simp only [List.mem_cons] at m
      rcases m with rfl | rfl | rfl | m
      · exact .inr (fresh_back e1 nx)
      · exact .inr (fresh_back e1 nc1)
      · exact .inr (fresh_back e1 nh1)
      · exact .inl m
end
end K02
set_option Elab.async false
set_option linter.all false
set_option maxRecDepth 100000
set_option maxHeartbeats 4000000
namespace K02
open PySem PySem.Spec PyProof.Rows L2 Evl KB
abbrev sDoAbout : Stmt := topS 60
abbrev nDoAbout : List Str := ["world", "caller", "who", "process", "place"]
theorem scDoAbout : FnScope nDoAbout ["world", "caller", "who"] (defScope sDoAbout) := ⟨rfl, rfl, rfl, by decide +kernel, rfl, by decide +kernel, by decide +kernel⟩
def placeD (o : Option Int) : PyData := if o.isNone then .none else .int 0
def aboutP (p : Pr) : PyData := .tuple [.int p.ses, .int p.grp, .str (wordP p), placeD p.who, callD p.who]
def aboutD (S : Fam) (who : Int) : PyData := match S.at who with
  | some p => toldD (aboutP p)
  | none => refD "no process"
def spDoAbout (CW CP tP : Addr) : Sp := fun vs H Q _ => ∃ R wa E A v who, vs = [.ref wa, v, .int who] ∧ WAt H CW CP tP R wa E A ∧ RetT (aboutD (famE E) who) H Q
section
variable {K : PySem.W.Frag} {σ : L2.St} {H H' : Hp} {CW CP tP wa pd ad fi th pi si ar dx : Addr} {ser : Int} {R R' : List Addr} {E : List Ent} {A : List (Int × PyData)} {n : Int} {pa : Addr} {p p' : Pr} {ta tb te : TE} {v : V} {tz : TS} {D : Ends}
theorem q_lockL {i : Nat} {xs : List V} (h : EvL (tLockE te) σ H xs) (k : ∀ p H1, H p = none → Ex H H1 → H1 p = some (.lst xs) → tz D (σ.set i (some (.ref p))) H1) : tSeq (tLock (tAsg te (gName i))) tz D σ H :=
  h H (Ex.refl H) (fun v H1 => tz D (σ.set i (some v)) H1) k
theorem ev_pnin (T : WT K CW) (w : WAd H CW CP tP R wa pd ad fi th pi si ar dx ser E A) (h : Ev ta σ H (.ref wa)) (hn : Ev tb σ H (.int n)) : Ev (tDNotIn tb (tFld K ta "processes")) σ H (.bl (!decide (n ∈ E.map (·.1)))) := by
  have e : (valV (topK E) (Sum.inl n)).isSome = decide (n ∈ E.map (·.1)) := by
    rw [top_at]
    by_cases z : n ∈ E.map (·.1)
    · obtain ⟨pa, p, h, _⟩ := look_some z
      rw [h, decide_eq_true z]
      rfl
    · rw [look_none z, decide_eq_false z]
      rfl
  rw [← e]
  exact fun H1 e1 Q q => hn H1 e1 _ fun H2 e2 => (ev_procs T w h) H2 (e1.trans e2) _ fun H3 e3 => ⟨pd, _, rfl, DGet.k (k := Sum.inl n) (((e1.trans e2).trans e3) _ _ w.top), q H3 (e2.trans e3)⟩
end
section
variable {P : Program} {w : World} {K : PySem.W.Frag} {mg : Str → Option Value} {base : Heap} {CW CP tP f : Addr} {fd : FuncData} {t0 : Tok}
theorem ok_doAbout (F : Fun K "do_about" "do_about" sDoAbout f fd) (TW : WT K CW) (TP : PT K CP) (G_place_in_row : Kf P w K mg base 1 "place_in_row" ["world", "process"] (spPlaceInRow CP)) (G_word_of : Kf P w K mg base 1 "word_of" ["process"] (spWordOf CP)) : FnOk P w K mg base CX0 2 f fd ["world", "caller", "who"] (spDoAbout CW CP tP) := by
  refine F.ok scDoAbout (fun vs H Q E h => ?_) (fun cdv A outer s H vs Q E hr h => ?_)
  · obtain ⟨R, wa, E, A, v, who, rfl, _⟩ := h
    rfl
  · obtain ⟨R, wa, E, A, v, who, rfl, W0, q⟩ := h
    obtain ⟨pd, ad, fi, th, pi, si, ar, dx, ser, W⟩ := W0
    have nd := scDoAbout.nd
    have hu := hu_of hr
    refine ⟨_, (pss_cons (ps_if (pt_cmp (pc_dnotin hu (pv 2) (pe_fld (pv 0) rfl))) (pss_one (ps_ret (pe_tup (pa_cons pe_str (pa_cons pe_str pa_nil))))) pss_nil)
      (pss_cons (ps_set (i := 3) nd rfl (by first | exact .inl rfl | exact .inr rfl) (pe_dget hu (pe_fld (pv 0) rfl) (pv 2) (fun _ _ => rfl)))
      (pss_cons (ps_set (i := 4) nd rfl (by first | exact .inl rfl | exact .inr rfl) (pe_ifExp (pt_cmp (pc_isN (pe_fld (pv 3) rfl))) pe_non (pe_fn G_place_in_row (hr.mono (by decide)) (pa_cons (pv 0) (pa_cons (pv 3) pa_nil)))))
      (pss_one (ps_ret (pe_tup (pa_cons pe_str (pa_cons (pe_tup (pa_cons (pe_fld (pv 3) rfl) (pa_cons (pe_fld (pv 3) rfl) (pa_cons (pe_fn G_word_of (hr.mono (by decide)) (pa_cons (pv 3) pa_nil)) (pa_cons (pv 4) (pa_cons (pe_fld (pv 3) rfl) pa_nil)))))) pa_nil)))))))), ?_⟩
    refine q_when (et_B (ev_pnin TW W (ev_var rfl) (ev_var rfl))) (fun hb H1 e1 => ?_) (fun hb H1 e1 => ?_)
    · have z : who ∉ E.map (·.1) := by simpa using hb
      unfold aboutD at q
      rw [fam_no z] at q
      exact s_retG eg_ref fun v H2 e2 g => q v H2 (e1.trans e2) g
    · have z : who ∈ E.map (·.1) := by simpa using hb
      obtain ⟨pa, p, l, m⟩ := look_some z
      unfold aboutD at q
      rw [fam_in l] at q
      have W1 := W.ex e1
      refine q_asg (ev_proc TW W1 (ev_var rfl) (ev_var rfl) l) fun H2 e2 => ?_
      have W2 := W1.ex e2
      obtain ⟨vc, ev, cv⟩ := (ev_pf (σ := [some (.ref wa), some v, some (.int who), some (.ref pa), none]) TP (W2.rec1 l) (ev_var (i := 3) rfl)).call
      have cv : CallV H2 vc p.who := cv
      have pl : Ev (tIf (tB (tIsN (tFld K (tVar 3) "call"))) (tC .non) (tCall (spPlaceInRow CP) [] E0 (tCons (tVar 0) (tCons (tVar 3) tNil)))) [some (.ref wa), some v, some (.int who), some (.ref pa), none] H2 (if p.who.isNone = true then .non else .int 0) := by
        refine ev_if (b := p.who.isNone) (et_is (et_B (ev_isN ev)) (call_non cv)) (fun h => ?_) (fun h => ?_)
        · rw [if_pos h]; exact ev_c
        · rw [if_neg (by rw [h]; decide)]
          have c : SpV (spPlaceInRow CP) ([.ref wa, .ref pa] ++ []) H2 (.int 0) := fun H3 e3 Q q E' => ⟨.ref wa, R, ad, (who, pa, p), rfl, (W2.ex e3).rec1 l, (by
            show p.who.isSome = true
            cases hw : p.who with
            | none => rw [hw] at h; cases h
            | some k => rfl), q⟩
          exact ev_call (ea_cons (ev_var rfl) (ea_cons (ev_var rfl) ea_nil)) c
      refine q_asg pl fun H3 e3 => ?_
      have W3 := W2.ex e3
      have pf := ev_pf (σ := [some (.ref wa), some v, some (.int who), some (.ref pa), some (if p.who.isNone = true then .non else .int 0)]) TP (W3.rec1 l) (ev_var (i := 3) rfl)
      obtain ⟨vc3, ev3, cv3⟩ := pf.call
      have cv3 : CallV H3 vc3 p.who := cv3
      have c : SpV (spWordOf CP) ([.ref pa] ++ []) H3 (.str (wordP p)) := fun H4 e4 Q q E' => ⟨R, ad, (who, pa, p), rfl, (W3.ex e4).rec1 l, q⟩
      refine s_retG (eg_told (eg_t5 (eg_v pf.ses (.int _)) (eg_v pf.grp (.int _)) (eg_v (ev_call (ea_cons (ev_var rfl) ea_nil) c) (.str _)) (eg_v (ev_var rfl) (d := placeD p.who) ?_) (eg_v ev3 cv3.tp))) fun v H4 e4 g => q v H4 (e1.trans (e2.trans (e3.trans e4))) g
      unfold placeD
      split
      · exact .non
      · exact .int 0
theorem ok_doJoin (F : Fun K "do_join" "do_join" sDoJoin f fd) (TW : WT K CW) (TP : PT K CP) (G_may_move : Kf P w K mg base 2 "may_move" ["world", "caller", "who"] (spMayMove CW CP tP)) (m_any : mg "any" = none) : FnOk P w K mg base CX0 3 f fd ["world", "caller", "who", "group"] (spDoJoin CW CP tP) := by
  refine F.ok scDoJoin (fun vs H Q E h => ?_) (fun cdv A outer s H vs Q E hr h => ?_)
  · obtain ⟨R, wa, E, A, n, pa, p, who, g, rfl, _⟩ := h
    rfl
  · obtain ⟨R, wa, E, A, n, pa, p, who, g, rfl, W0, few, l, q⟩ := h
    obtain ⟨pd, ad, fi, th, pi, si, ar, dx, ser, W⟩ := W0
    have nd := scDoJoin.nd
    have hu := hu_of hr
    refine ⟨_, (pss_cons (ps_if (pt_not (pt_val (pe_fn G_may_move (hr.mono (by decide)) (pa_cons (pv 0) (pa_cons (pv 1) (pa_cons (pv 2) pa_nil)))))) (pss_one (ps_ret (pe_tup (pa_cons pe_str (pa_cons pe_str pa_nil))))) pss_nil)
      (pss_cons (ps_set (i := 4) nd rfl (by first | exact .inl rfl | exact .inr rfl) (pe_dget hu (pe_fld (pv 0) rfl) (pv 2) (fun _ _ => rfl)))
      (pss_cons (ps_if (pt_cmpR op_eq (pe_fld (pv 4) rfl) (pv 2) (nomark _)) (pss_one (ps_ret (pe_tup (pa_cons pe_str (pa_cons pe_str pa_nil))))) pss_nil)
      (pss_cons (ps_lock (ps_setLc (i := 6) (own := [("at", 5)]) (g := gName 5) (tt := tTest (tOp rEq (tFld K (tVar 5) "session") (tFld K (tVar 1) "session"))) (te := tVar 5) rfl nd rfl rfl (sw_true rfl rfl rfl (by decide +kernel)) (pi_values (pe_fld (pv 0) rfl)) (blkOk_by (N := nDoJoin) (sc := defScope sDoJoin) (by decide +kernel)) (fun _ _ _ _ _ => (pg_name (i := 5) nd rfl (by first | exact .inl rfl | exact .inr rfl))) (fun _ _ _ _ _ => (pts_one (pt_cmpR op_eq (pe_fld (pv 5) rfl) (pe_fld (pv 1) rfl) (nomark _)))) (fun _ _ _ _ _ => (pv 5))))
      (pss_cons (ps_if (pt_not (pt_val (pe_callB (cr_any rfl) (by rfl) m_any (by decide +kernel) (pa_cons (pe_lc (own := [("at", 5)]) (g := gName 5) (tt := tYes) (te := tOp (rIn K false) (tVar 3) (tTup (tCons (tFld K (tVar 5) "number") (tCons (tFld K (tVar 5) "group") tNil)))) rfl nd (pi_list (pv 6)) (blkOk_by (N := nDoJoin) (sc := defScope sDoJoin) (by decide +kernel)) (fun _ _ _ _ _ => (pg_name (i := 5) nd rfl (by first | exact .inl rfl | exact .inr rfl))) (fun _ _ _ _ _ => pts_nil) (fun _ _ _ _ _ => (pe_cmpR op_in_seq (pv 3) (pe_tup (pa_cons (pe_fld (pv 5) rfl) (pa_cons (pe_fld (pv 5) rfl) pa_nil))) (by rfl)))) pa_nil)))) (pss_one (ps_ret (pe_tup (pa_cons pe_str (pa_cons pe_str pa_nil))))) pss_nil)
      (pss_cons (ps_fld (pv 4) (pv 3) rfl)
      (pss_one (ps_ret (pe_tup (pa_cons pe_str (pa_cons pe_non pa_nil))))))))))), ?_⟩
    have W0 : WAt H CW CP tP R wa E A := ⟨pd, ad, fi, th, pi, si, ar, dx, ser, W⟩
    have c1 : SpV (spMayMove CW CP tP) ([.ref wa, .ref pa, .int who] ++ []) H (.bl (mayB (famE E) n who)) := fun H2 e2 Q q E' => ⟨R, wa, E, A, n, pa, p, who, rfl, W0.ex e2, few, l, q⟩
    refine q_when (et_not (et_B (ev_call (ea_cons (ev_var rfl) (ea_cons (ev_var rfl) (ea_cons (ev_var rfl) ea_nil))) c1))) (fun hb H1 e1 => ?_) (fun hb H1 e1 => ?_)
    · have hm : mayB (famE E) n who = false := by simpa using hb
      unfold joinE at q
      rw [if_pos hm] at q
      exact s_retG eg_ref fun v H2 e2 g => q.of W0 (e1.trans e2) g
    have hm : mayB (famE E) n who = true := by simpa using hb
    have hin : ∃ pa' p', E.lookup who = some (pa', p') := by
      unfold mayB at hm
      rw [Bool.and_eq_true, Bool.or_eq_true] at hm
      rcases hm.1 with h | h
      · rw [of_decide_eq_true h]; exact ⟨pa, p, l⟩
      · rw [Bool.and_eq_true] at h
        obtain ⟨m1, _⟩ := List.mem_filter.mp (of_decide_eq_true h.1)
        obtain ⟨pa', p', h1, _⟩ := look_some (mem_sorted.mp m1)
        exact ⟨pa', p', h1⟩
    obtain ⟨pa', p', l'⟩ := hin
    unfold joinE at q
    rw [if_neg (by rw [hm]; decide), l'] at q
    have q : RetE H CW CP tP R wa (if p'.ses = who then (E, refD "leads") else if peerB (famE E) (sesOf (famE E) n) g = false then (E, refD "no group") else (setE E who { p' with grp := g }, toldD .none)).1 A (if p'.ses = who then (E, refD "leads") else if peerB (famE E) (sesOf (famE E) n) g = false then (E, refD "no group") else (setE E who { p' with grp := g }, toldD .none)).2 Q := q
    have W1 := W.ex e1
    refine q_asg (ev_proc TW W1 (ev_var rfl) (ev_var rfl) l') fun H2 e2 => ?_
    have W2 := W1.ex e2
    have pf2 := ev_pf (σ := [some (.ref wa), some (.ref pa), some (.int who), some (.int g), some (.ref pa'), none, none]) TP (W2.rec1 l') (ev_var (i := 4) rfl)
    refine q_when (et_is (et_test (ev_op pf2.ses (ev_var rfl) (rv_eq rfl))) (show decide (V.int p'.ses = V.int who) = decide (p'.ses = who) by simp)) (fun hb2 H3 e3 => ?_) (fun hb2 H3 e3 => ?_)
    · rw [if_pos (of_decide_eq_true hb2)] at q
      exact s_retG eg_ref fun v H4 e4 g => q.of W0 (e1.trans (e2.trans (e3.trans e4))) g
    rw [if_neg (of_decide_eq_false hb2)] at q
    have W3 := W2.ex e3
    have sn : sesOf (famE E) n = p.ses := by unfold sesOf; rw [fam_in l]; rfl
    rw [sn] at q
    have lc := el_vals (H := H3) (pd := pd) (xs := E) (kf := fun e => Sum.inl e.1) (vf := fun e => V.ref e.2.1) (te0 := tFld K (tVar 0) "processes") (t := tTest (tOp rEq (tFld K (tVar 5) "session") (tFld K (tVar 1) "session"))) (te := tVar 5) (σ := [some (.ref wa), some (.ref pa), some (.int who), some (.int g), some (.ref pa'), none, none]) (j := 5) (vs := [5]) W3.top (by omega)
      (fun G z => ev_fld (ev_var rfl) (W3.fz z).1 TW.cls TW.n1 rfl) (fun e => decide (e.2.2.ses = p.ses)) (fun e => .ref e.2.1) (fun x => rfl) (fun e m G z => by
        have pf1 := ev_pf (σ := [some (.ref wa), some (.ref pa), some (.int who), some (.int g), some (.ref pa'), some (.ref e.2.1), none]) TP ((W3.fz z).2 e m) (ev_var (i := 5) rfl)
        have pf3 := ev_pf (σ := [some (.ref wa), some (.ref pa), some (.int who), some (.int g), some (.ref pa'), some (.ref e.2.1), none]) TP ((W3.fz z).2 _ (look_in l)) (ev_var (i := 1) rfl)
        exact et_is (et_test (ev_op pf1.ses pf3.ses (rv_eq rfl))) (show decide (V.int e.2.2.ses = V.int p.ses) = decide (e.2.2.ses = p.ses) by simp)) (fun e m _ G z => ev_var rfl)
    refine q_lockL lc fun pr H4 npr e4 gpr => ?_
    have W4 := W3.ex e4
    have lcp := el_lcG (K := K) (H := H4) (t := tYes) (te := tOp (rIn K false) (tVar 3) (tTup (tCons (tFld K (tVar 5) "number") (tCons (tFld K (tVar 5) "group") tNil)))) (σ := [some (.ref wa), some (.ref pa), some (.int who), some (.int g), some (.ref pa'), none, some (.ref pr)]) (tl := tVar 6) (j := 5) (vs := [5]) (xs := E.filter fun e => decide (e.2.2.ses = p.ses)) (fun e => V.ref e.2.1) (fun _ => true) (fun e => .bl (decide (g ∈ [e.1, e.2.2.grp]))) (ev_var rfl) (sq_of gpr) (by
        have := List.length_filter_le (fun e : Ent => decide (e.2.2.ses = p.ses)) E
        omega) (fun x => rfl) (fun e m G z => et_yes) (fun e m _ G eg => by
        have me := (List.mem_filter.mp m).1
        have pf5 := ev_pf (σ := [some (.ref wa), some (.ref pa), some (.int who), some (.int g), some (.ref pa'), some (.ref e.2.1), some (.ref pr)]) TP ((W4.ex eg).recs e me) (ev_var (i := 5) rfl)
        exact ev_opU (ev_var rfl) (eu_tup (ea_cons pf5.num (ea_cons pf5.grp ea_nil)) (by show 2 ≤ 100000; omega)) fun p H1 hp e1 => rv_inTI (xs := [e.1, e.2.2.grp]) (st_of hp))
    rw [Evl.filter_all] at lcp
    have e5 : (E.filter fun e => decide (e.2.2.ses = p.ses)).map (fun e => V.bl (decide (g ∈ [e.1, e.2.2.grp]))) = ((E.filter fun e => decide (e.2.2.ses = p.ses)).map fun e => decide (g ∈ [e.1, e.2.2.grp])).map V.bl := by rw [List.map_map]; rfl
    rw [e5] at lcp
    have eg : ((E.filter fun e => decide (e.2.2.ses = p.ses)).map fun e => decide (g ∈ [e.1, e.2.2.grp])).any id = peerB (famE E) p.ses g := by
      unfold peerB famE
      rw [List.any_map, List.any_map, List.any_filter]
      rfl
    refine q_when (et_not (et_is (et_B (ev_any lcp)) eg)) (fun hb3 H5 e5 => ?_) (fun hb3 H5 e5 => ?_)
    · have hp : peerB (famE E) p.ses g = false := by simpa using hb3
      rw [if_pos hp] at q
      exact s_retG eg_ref fun v H6 e6 g => q.of W0 (e1.trans (e2.trans (e3.trans (e4.trans (e5.trans e6))))) g
    · have hp : peerB (famE E) p.ses g = true := by simpa using hb3
      rw [if_neg (by rw [hp]; decide)] at q
      refine q_pset (p' := { p' with grp := g }) TP (W4.ex e5) l' (ev_var rfl) (ev_var rfl) TP.n4 (fun _ _ _ => rfl) rfl fun H6 f6 W6 => ?_
      exact s_retG (eg_told (eg_v ev_c .non)) fun v H7 e7 g => q v H7 R ((Fr.same (e1.trans (e2.trans (e3.trans (e4.trans e5))))).trans (f6.trans (Fr.same e7))) (fun b m => m) (fun b m => .inl m) ⟨pd, ad, fi, th, pi, si, ar, dx, ser, W6.ex e7⟩ g
end
end K02
set_option Elab.async false
set_option linter.all false
set_option maxRecDepth 100000
set_option maxHeartbeats 4000000
namespace K02
open PySem PySem.Spec PyProof.Rows L2 Evl KB
abbrev sWaitNow : Stmt := topS 35
abbrev nWaitNow : List Str := ["world", "process", "who", "at", "ended", "code"]
theorem scWaitNow : FnScope nWaitNow ["world", "process", "who"] (defScope sWaitNow) := ⟨rfl, rfl, rfl, by decide +kernel, rfl, by decide +kernel, by decide +kernel⟩
abbrev sAnswerNow : Stmt := topS 40
abbrev nAnswerNow : List Str := ["world", "process", "call", "thing"]
theorem scAnswerNow : FnScope nAnswerNow ["world", "process", "call"] (defScope sAnswerNow) := ⟨rfl, rfl, rfl, by decide +kernel, rfl, by decide +kernel, by decide +kernel⟩
abbrev sNextInRow : Stmt := topS 34
abbrev nNextInRow : List Str := ["world", "row", "number"]
theorem scNextInRow : FnScope nNextInRow ["world", "row"] (defScope sNextInRow) := ⟨rfl, rfl, rfl, by decide +kernel, rfl, by decide +kernel, by decide +kernel⟩
abbrev sBegin : Stmt := topS 41
abbrev nBegin : List Str := ["world", "process", "call", "row", "answer"]
theorem scBegin : FnScope nBegin ["world", "process", "call"] (defScope sBegin) := ⟨rfl, rfl, rfl, by decide +kernel, rfl, by decide +kernel, by decide +kernel⟩
abbrev sDoWait : Stmt := topS 55
abbrev nDoWait : List Str := ["world", "caller", "who", "below"]
theorem scDoWait : FnScope nDoWait ["world", "caller", "who"] (defScope sDoWait) := ⟨rfl, rfl, rfl, by decide +kernel, rfl, by decide +kernel, by decide +kernel⟩
def optD : Option Int → PyData
  | none => .none
  | some i => .int i
theorem tp_opt {H : Hp} (o : Option Int) : Tp H (optV o) (optD o) := by
  cases o with
  | none => exact .non
  | some i => exact .int i
/-- the ended children that a wait tells of -/
def endedK (S : Fam) (n who : Int) : List Int := (S.kids n).filter fun k => !aliveB S k && decide (who ∈ [0, k])
def codeOf (S : Fam) (k : Int) : Option Int := (S.at k).bind (·.code)
def waitE (E : List Ent) (n who : Int) : List Ent × PyData := match endedK (famE E) n who with
  | [] => (E, .none)
  | k :: _ => (dropE E k, toldD (.tuple [.int k, optD (codeOf (famE E) k)]))
def stpB (S : Fam) (n : Int) : Bool := ((S.at n).map (·.stp)).getD true
def beginE (E : List Ent) (n : Int) (p : Pr) (who : Int) : List Ent × PyData :=
  if endedK (famE E) n who ≠ [] then waitE E n who else if n = 1 then (E, refD "first") else (setE E n { p with who := some who }, .tuple [.str "waits"])
def doWaitE (E : List Ent) (n : Int) (p : Pr) (who : Int) : List Ent × PyData :=
  if (famE E).kids n = [] then (E, refD "no child") else if who ∉ 0 :: (famE E).kids n then (E, refD "no child") else beginE E n p who
/-- nothing to tell: nothing has changed -/
def WaitQ (H : Hp) (CW CP tP : Addr) (R : List Addr) (wa : Addr) (E : List Ent) (A : List (Int × PyData)) (n who : Int) (Q : VK) : Prop := (endedK (famE E) n who = [] → RetV .non H Q) ∧ (endedK (famE E) n who ≠ [] → RetE H CW CP tP R wa (waitE E n who).1 A (waitE E n who).2 Q)
def spWaitNow (CW CP tP : Addr) : Sp := fun vs H Q _ => ∃ R wa E A n pa p who, vs = [.ref wa, .ref pa, .int who] ∧ WAt H CW CP tP R wa E A ∧ E.length < 64 ∧ E.lookup n = some (pa, p) ∧ p.code = none ∧ WaitQ H CW CP tP R wa E A n who Q
def spAnswerNow (CW CP tP : Addr) : Sp := fun vs H Q _ => ∃ R wa E A n pa p who t, vs = [.ref wa, .ref pa, .ref t] ∧ H t = some (.tup [.str "wait", .int who]) ∧ WAt H CW CP tP R wa E A ∧ E.length < 64 ∧ E.lookup n = some (pa, p) ∧ p.code = none ∧ WaitQ H CW CP tP R wa E A n who Q
def spNextInRow (CW CP tP : Addr) : Sp := fun vs H Q _ => ∃ R wa E A r, ∃ ns : List Int, vs = [.ref wa, .ref r] ∧ H r = some (.lst (ns.map V.int)) ∧ WAt H CW CP tP R wa E A ∧ (∀ k ∈ ns, k ∈ E.map (·.1)) ∧ RetV (optV (ns.find? fun k => !stpB (famE E) k)) H Q
def spBegin (CW CP tP : Addr) : Sp := fun vs H Q _ => ∃ R wa E A n pa p who t, vs = [.ref wa, .ref pa, .ref t] ∧ H t = some (.tup [.str "wait", .int who]) ∧ WAt H CW CP tP R wa E A ∧ E.length < 64 ∧ E.lookup n = some (pa, p) ∧ p.code = none ∧ RetE H CW CP tP R wa (beginE E n p who).1 A (beginE E n p who).2 Q
def spDoWait (CW CP tP : Addr) : Sp := fun vs H Q _ => ∃ R wa E A n pa p who, vs = [.ref wa, .ref pa, .int who] ∧ WAt H CW CP tP R wa E A ∧ E.length < 64 ∧ E.lookup n = some (pa, p) ∧ p.code = none ∧ RetE H CW CP tP R wa (doWaitE E n p who).1 A (doWaitE E n p who).2 Q
section
variable {K : PySem.W.Frag} {σ : L2.St} {H H' : Hp} {R : List Addr} {E : List Ent} {te : TE} {Q : VK} {CW CP tP wa : Addr} {A : List (Int × PyData)} {d : PyData}
theorem et_truR {a : Addr} {xs : List V} (h : Ev te σ H (.ref a)) (g : H a = some (.lst xs)) : EvT (fun σ H Q => te σ H fun x H' => ∃ k, TruV K x H' k ∧ Q k H') σ H (!xs.isEmpty) := fun H1 e Q q => h H1 e _ fun H2 e2 => ⟨!xs.isEmpty, .inl ⟨_, SqL.of (e2 _ _ (e _ _ g)), rfl⟩, q H2 e2⟩
theorem q_ddel {D : Ends} {tz : TS} {d : Addr} {kvs : List (Key × V)} {ky : Key} {td tk : TE} (hd : Ev td σ H (.ref d)) (hk : Ev tk σ H (kV ky)) (e : H d = some (.dK kvs)) (hs : (valV kvs ky).isSome = true) (k : ∀ H1, Ex H H1 → tz D σ (upd H1 d (.dK (dropK kvs ky)))) : tSeq (sDDel td tk) tz D σ H :=
  hd H (Ex.refl H) _ fun H1 e1 => hk H1 e1 _ fun H2 e2 => ⟨d, kvs, ky, rfl, (e1.trans e2) _ _ e, rfl, hs, k H2 (e1.trans e2)⟩
theorem RetE.pre (q : RetE H CW CP tP R wa E A d Q) (e : Ex H H') : RetE H' CW CP tP R wa E A d Q := fun v G R' f s s2 w g => q v G R' ((Fr.same e).trans f) s (fun b m => (s2 b m).imp id (fresh_back e)) w g
end
section
variable {P : Program} {w : World} {K : PySem.W.Frag} {mg : Str → Option Value} {base : Heap} {CW CP tP f : Addr} {fd : FuncData} {t0 : Tok}
theorem ok_waitNow (F : Fun K "wait_now" "wait_now" sWaitNow f fd) (TW : WT K CW) (TP : PT K CP) (G_children : Kf P w K mg base 1 "children" ["world", "number"] (spChildren CW CP tP)) : FnOk P w K mg base CX0 2 f fd ["world", "process", "who"] (spWaitNow CW CP tP) := by
  refine F.ok scWaitNow (fun vs H Q E h => ?_) (fun cdv A outer s H vs Q E hr h => ?_)
  · obtain ⟨R, wa, E, A, n, pa, p, who, rfl, _⟩ := h
    rfl
  · obtain ⟨R, wa, E, A, n, pa, p, who, rfl, W0, few, l, hc, q⟩ := h
    obtain ⟨pd, ad, fi, th, pi, si, ar, dx, ser, W⟩ := W0
    have nd := scWaitNow.nd
    have hu := hu_of hr
    refine ⟨_, (pss_cons (ps_setLc (i := 4) (own := [("at", 3)]) (g := gName 3) (tt := tAnd (tB (tNotN (tFld K (tDGet (tFld K (tVar 0) "processes") (tVar 3)) "code"))) (tTest (tOp (rIn K false) (tVar 2) (tTup (tCons (tC (.int 0)) (tCons (tVar 3) tNil)))))) (te := tVar 3) rfl nd rfl rfl (sw_true rfl rfl rfl (by decide +kernel)) (pi_list (pe_fn G_children (hr.mono (by decide)) (pa_cons (pv 0) (pa_cons (pe_fld (pv 1) rfl) pa_nil)))) (blkOk_by (N := nWaitNow) (sc := defScope sWaitNow) (by decide +kernel)) (fun _ _ _ _ _ => (pg_name (i := 3) nd rfl (by first | exact .inl rfl | exact .inr rfl))) (fun _ _ _ _ _ => (pts_one (PW.pt (pw_and (pt_cmp (pc_notN (pe_fld (pe_dget hu (pe_fld (pv 0) rfl) (pv 3) (fun _ _ => rfl)) rfl))) (pw_and1 (pt_cmpR op_in_seq (pv 2) (pe_tup (pa_cons pe_int (pa_cons (pv 3) pa_nil))) (by rfl))))))) (fun _ _ _ _ _ => (pv 3)))
      (pss_cons (ps_if (pt_not (pt_truth (pv 4) (by intro _; rfl))) (pss_one (ps_ret pe_non)) pss_nil)
      (pss_cons (ps_set (i := 5) nd rfl (by first | exact .inl rfl | exact .inr rfl) (pe_fld (pe_dget hu (pe_fld (pv 0) rfl) (pe_ix ix_seq (pv 4) pe_int (fun _ _ => rfl)) (fun _ _ => rfl)) rfl))
      (pss_cons (ps_ddel (pe_fld (pv 0) rfl) (pe_ix ix_seq (pv 4) pe_int (fun _ _ => rfl)))
      (pss_one (ps_ret (pe_tup (pa_cons pe_str (pa_cons (pe_tup (pa_cons (pe_ix ix_seq (pv 4) pe_int (fun _ _ => rfl)) (pa_cons (pv 5) pa_nil))) pa_nil))))))))), ?_⟩
    have W0 : WAt H CW CP tP R wa E A := ⟨pd, ad, fi, th, pi, si, ar, dx, ser, W⟩
    have pf := ev_pf TP (W.rec1 l) (ev_var (σ := start nWaitNow [.ref wa, .ref pa, .int who]) (i := 1) rfl)
    have c1 : SpL (spChildren CW CP tP) ([.ref wa, .int n] ++ []) H (((famE E).kids n).map V.int) := fun H2 e2 Q q E' => ⟨R, wa, E, A, n, rfl, W0.ex e2, few, q⟩
    have lk : ((famE E).kids n).length ≤ 40000 := by
      unfold Fam.kids
      have h1 := List.length_filter_le (fun k => decide (((famE E).at k).bind (·.par) = some n)) (famE E).sorted
      have h2 : (famE E).sorted.length ≤ E.length := by
        unfold Fam.sorted
        rw [fam_keys]
        have := len_asc (E.map (·.1))
        rw [List.length_map] at this
        omega
      omega
    have lc := el_lcGN (K := K) (t := tAnd (tB (tNotN (tFld K (tDGet (tFld K (tVar 0) "processes") (tVar 3)) "code"))) (tTest (tOp (rIn K false) (tVar 2) (tTup (tCons (tC (.int 0)) (tCons (tVar 3) tNil)))))) (te := tVar 3) (σ := start nWaitNow [.ref wa, .ref pa, .int who]) (H := H) (j := 3) (vs := [3]) V.int (fun k => !aliveB (famE E) k && decide (who ∈ [0, k])) V.int (el_call (E := E0) (ea_cons (ev_var (i := 0) rfl) (ea_cons pf.num ea_nil)) c1) lk (fun x => rfl) (fun k mk G e => by
        obtain ⟨m1, _⟩ := List.mem_filter.mp mk
        obtain ⟨pa', p', l', m⟩ := look_some (mem_sorted.mp m1)
        have W1 := W.ex e
        have pf := ev_pf TP (W1.rec1 l') (ev_proc (σ := wipe (start nWaitNow [.ref wa, .ref pa, .int who]) [3] |>.set 3 (some (.int k))) TW W1 (ev_var (i := 0) rfl) (ev_var (i := 3) rfl) l')
        have ec : (!decide (optV p'.code = .non)) = !aliveB (famE E) k := by
          unfold aliveB
          rw [opt_non, fam_in l']
          rfl
        exact et_and (et_is (et_B (ev_notN pf.code)) ec) fun _ => et_test (ev_opU (ev_var rfl) (eu_tup (ea_cons ev_c (ea_cons (ev_var rfl) ea_nil)) (by show 2 ≤ 100000; omega)) fun p H1 hp e1 => rv_inTI (xs := [0, k]) (st_of hp))) (fun k _ _ G e => ev_var rfl)
    refine q_asgL lc fun r H1 nr e1 gr => ?_
    have gr : H1 r = some (.lst ((endedK (famE E) n who).map V.int)) := gr
    refine q_when (et_not (et_truR (ev_var rfl) gr)) (fun hb H2 e2 => ?_) (fun hb H2 e2 => ?_)
    · rw [List.isEmpty_map] at hb
      have hk : endedK (famE E) n who = [] := by
        cases z : endedK (famE E) n who with
        | nil => rfl
        | cons a l => rw [z] at hb; cases hb
      exact s_ret ev_c fun H3 e3 => q.1 hk H3 (e1.trans (e2.trans e3))
    · rw [List.isEmpty_map] at hb
      cases hk : endedK (famE E) n who with
      | nil => rw [hk] at hb; cases hb
      | cons k rest =>
        have q := q.2 (by rw [hk]; simp)
        unfold waitE at q
        rw [hk] at q gr
        have q : RetE H CW CP tP R wa (dropE E k) A (toldD (.tuple [.int k, optD (codeOf (famE E) k)])) Q := q
        have mk : k ∈ endedK (famE E) n who := by rw [hk]; exact List.mem_cons_self
        obtain ⟨mk1, mk2⟩ := List.mem_filter.mp mk
        obtain ⟨m1, _⟩ := List.mem_filter.mp mk1
        obtain ⟨pa', p', l', m'⟩ := look_some (mem_sorted.mp m1)
        have hne : dropE E k ≠ [] := fun z => by
          have nk : n ≠ k := fun y => by
            rw [Bool.and_eq_true] at mk2
            have h1 := mk2.1
            rw [← y] at h1
            unfold aliveB at h1
            rw [fam_in l] at h1
            have h1 : (!p.code.isNone) = true := h1
            rw [hc] at h1
            cases h1
          have : (n, pa, p) ∈ dropE E k := List.mem_filter.mpr ⟨look_in l, decide_eq_true nk⟩
          rw [z] at this
          cases this
        have W2 := (W.ex e1).ex e2
        have gr2 := e2 _ _ gr
        have ix : ∀ {σ : L2.St} {G : Hp}, σ[4]? = some (some (.ref r)) → Ex H2 G → Ev (tOp (rIx K) (tVar 4) (tC (.int 0))) σ G (.int k) := fun hs eg => ev_op (ev_var hs) ev_c (rv_ixq (i := 0) (.inl (eg _ _ gr2)) rfl)
        have pf2 := ev_pf TP (W2.rec1 l') (ev_proc (σ := [some (.ref wa), some (.ref pa), some (.int who), none, some (.ref r), none]) TW W2 (ev_var (i := 0) rfl) (ix rfl (Ex.refl H2)) l')
        refine q_asg pf2.code fun H3 e3 => ?_
        have W3 := W2.ex e3
        have ce : codeOf (famE E) k = p'.code := by unfold codeOf; rw [fam_in l']; rfl
        rw [ce] at q
        refine q_ddel (ky := Sum.inl k) (ev_procs TW W3 (ev_var rfl)) (ix rfl e3) W3.top (by rw [top_at, l']; rfl) fun H5 e5 => ?_
        obtain ⟨W6, f6⟩ := (W3.ex e5).drop k hne
        have np : r ≠ pd := fun z => by rw [z, (W.ex e1).top] at gr; cases gr
        have g6 : upd H5 pd (.dK (dropK (topK E) (Sum.inl k))) r = some (.lst ((k :: rest).map V.int)) := by
          rw [upd_ne np]
          exact (e3.trans e5) _ _ gr2
        refine s_retG (eg_told (eg_t2 (eg_v (ev_op (ev_var rfl) ev_c (rv_ixq (i := 0) (.inl g6) rfl)) (.int _)) (eg_v (ev_var rfl) (tp_opt _)))) fun v H7 e7 g => q v H7 R ((Fr.same (e1.trans (e2.trans (e3.trans e5)))).trans ((f6.more fun b m => by rw [List.mem_singleton.mp m]; exact W.inR.2.1).trans (Fr.same e7))) (fun b m => m) (fun b m => .inl m) ⟨pd, ad, fi, th, pi, si, ar, dx, ser, W6.ex e7⟩ g
end
end K02
set_option Elab.async false
set_option linter.all false
set_option maxRecDepth 100000
set_option maxHeartbeats 4000000
namespace K02
open PySem PySem.Spec PyProof.Rows L2 Evl KB
section
variable {K : PySem.W.Frag} {σ : L2.St} {H H1 H2 : Hp} {R R1 : List Addr} {te : TE}
/-- changes behind changes -/
theorem Fr.comp (a : Fr R H H1) (b : Fr R1 H1 H2) (s : ∀ b ∈ R1, b ∈ R ∨ H b = none) : Fr R H H2 := fun c o e n => b c o (a c o e n) (n.imp (fun z m => (s c m).elim z (fun y => by rw [y] at e; cases e)) id)
theorem s_retC {D : Ends} {sp : Sp} {kw : List V} {ta : TA} {vs : List V} (h : EvA ta σ H vs) (k : ∀ H1, Ex H H1 → sp (vs ++ kw) H1 D.rt E0) : tRet (tCall sp kw E0 ta) D σ H := h H (Ex.refl H) _ fun H1 e1 => k H1 e1
theorem q_asgC {D : Ends} {tz : TS} {i : Nat} {sp : Sp} {kw : List V} {ta : TA} {vs : List V} (h : EvA ta σ H vs) (k : ∀ H1, Ex H H1 → sp (vs ++ kw) H1 (fun v H2 => tz D (σ.set i (some v)) H2) E0) : tSeq (tAsg (tCall sp kw E0 ta) (gName i)) tz D σ H := h H (Ex.refl H) _ fun H1 e1 => k H1 e1
theorem q_exC {D : Ends} {tz : TS} {sp : Sp} {kw : List V} {ta : TA} {vs : List V} (h : EvA ta σ H vs) (k : ∀ H1, Ex H H1 → sp (vs ++ kw) H1 (fun _ H2 => tz D σ H2) E0) : tSeq (tDrop (tCall sp kw E0 ta)) tz D σ H := h H (Ex.refl H) _ fun H1 e1 => k H1 e1
theorem s_exC {D : Ends} {sp : Sp} {kw : List V} {ta : TA} {vs : List V} (h : EvA ta σ H vs) (k : ∀ H1, Ex H H1 → sp (vs ++ kw) H1 (fun _ H2 => D.nx σ H2) E0) : tDrop (tCall sp kw E0 ta) D σ H := h H (Ex.refl H) _ fun H1 e1 => k H1 e1
theorem find_step {ns : List Int} {f : Int → Bool} {i : Nat} {x : Int} (hx : ns[i]? = some x) (h : ∀ y ∈ ns.take i, f y = false) (hf : f x = false) : ∀ y ∈ ns.take (i + 1), f y = false := fun y m => by
  rw [List.take_add_one, hx] at m
  rcases List.mem_append.mp m with m | m
  · exact h y m
  · have : y = x := by simpa using m
    rw [this]; exact hf
theorem find_at {ns : List Int} {f : Int → Bool} : ∀ {i : Nat} {x : Int}, ns[i]? = some x → (∀ y ∈ ns.take i, f y = false) → f x = true → ns.find? f = some x := by
  induction ns with
  | nil => intro i x h; simp at h
  | cons a ns ih =>
    intro i x h h2 hf
    cases i with
    | zero =>
      have h : a = x := by simpa using h
      rw [List.find?_cons, h, hf]
    | succ i =>
      have h : ns[i]? = some x := by simpa using h
      rw [List.find?_cons, h2 a (by simp)]
      exact ih h (fun y m => h2 y (by rw [List.take_succ_cons]; exact List.mem_cons_of_mem _ m)) hf
theorem find_no {ns : List Int} {f : Int → Bool} (h : ∀ y ∈ ns.take ns.length, f y = false) : ns.find? f = none := by
  rw [List.find?_eq_none]
  rw [List.take_length] at h
  exact fun x m => by rw [h x m]; decide
end
section
variable {P : Program} {w : World} {K : PySem.W.Frag} {mg : Str → Option Value} {base : Heap} {CW CP tP f : Addr} {fd : FuncData} {t0 : Tok}
theorem ok_answerNow (F : Fun K "answer_now" "answer_now" sAnswerNow f fd) (G_wait_now : Kf P w K mg base 2 "wait_now" ["world", "process", "who"] (spWaitNow CW CP tP)) : FnOk P w K mg base CX0 3 f fd ["world", "process", "call"] (spAnswerNow CW CP tP) := by
  refine F.ok scAnswerNow (fun vs H Q E h => ?_) (fun cdv A outer s H vs Q E hr h => ?_)
  · obtain ⟨R, wa, E, A, n, pa, p, who, t, rfl, _⟩ := h
    rfl
  · obtain ⟨R, wa, E, A, n, pa, p, who, t, rfl, ht, W0, few, l, hc, q⟩ := h
    refine ⟨_, (pss_cons (ps_if (pt_cmpR op_eq (pe_ix ix_seq (pv 2) pe_int (fun _ _ => rfl)) pe_str (nomark _)) (pss_one (ps_ret (pe_fn G_wait_now (hr.mono (by decide)) (pa_cons (pv 0) (pa_cons (pv 1) (pa_cons (pe_ix ix_seq (pv 2) pe_int (fun _ _ => rfl)) pa_nil)))))) pss_nil) pss_f), ?_⟩
    refine q_when (b := true) (et_is (et_test (ev_op (ev_op (ev_var rfl) ev_c (rv_ixq (i := 0) (.inr ht) rfl)) ev_c (rv_eq rfl))) (by decide +kernel)) (fun _ H1 e1 => ?_) (fun hb => nomatch hb)
    refine s_retC (ea_cons (ev_var rfl) (ea_cons (ev_var rfl) (ea_cons (ev_op (ev_var rfl) ev_c (rv_ixq (i := 1) (.inr (e1 _ _ ht)) rfl)) ea_nil))) fun H2 e2 => ⟨R, wa, E, A, n, pa, p, who, rfl, W0.ex (e1.trans e2), few, l, hc, fun hk H3 e3 => q.1 hk H3 (e1.trans (e2.trans e3)), fun hk => (q.2 hk).pre (e1.trans e2)⟩
theorem ok_nextInRow (F : Fun K "next_in_row" "next_in_row" sNextInRow f fd) (TW : WT K CW) (TP : PT K CP) : FnOk P w K mg base CX0 1 f fd ["world", "row"] (spNextInRow CW CP tP) := by
  refine F.ok scNextInRow (fun vs H Q E h => ?_) (fun cdv A outer s H vs Q E hr h => ?_)
  · obtain ⟨R, wa, E, A, r, ns, rfl, _⟩ := h
    rfl
  · obtain ⟨R, wa, E, A, r, ns, rfl, gr, W0, hin, q⟩ := h
    obtain ⟨pd, ad, fi, th, pi, si, ar, dx, ser, W⟩ := W0
    have nd := scNextInRow.nd
    have hu := hu_of hr
    refine ⟨_, (pss_cons (ps_for PassesOwn.never rfl (pi_list (pv 1)) (pg_name (i := 2) nd rfl (by first | exact .inl rfl | exact .inr rfl)) (pss_one (ps_if (pt_not (pt_val (pe_fld (pe_dget hu (pe_fld (pv 0) rfl) (pv 2) (fun _ _ => rfl)) rfl))) (pss_one (ps_ret (pv 2))) pss_nil)))
      (pss_one (ps_ret pe_non))), ?_⟩
    refine q_forLn (ev_var rfl) (sq_of gr) (fun i σ G => (∃ o, σ = [some (.ref wa), some (.ref r), o]) ∧ Ex H G ∧ ∀ y ∈ ns.take i, (!stpB (famE E) y) = false) (fun H1 e1 => ⟨⟨_, rfl⟩, e1, by simp⟩) (fun i σ' G _ h => sq_of (h.2.1 _ _ gr)) ?_ ?_
    · rintro i x σ' G hx ⟨⟨o, rfl⟩, eG, hno⟩
      rw [List.getElem?_map] at hx
      obtain ⟨k, ek, rfl⟩ := Option.map_eq_some_iff.mp hx
      obtain ⟨pa', p', l', m'⟩ := look_some (hin k (List.mem_of_getElem? ek))
      have W1 := W.ex eG
      have pf := ev_pf TP (W1.rec1 l') (ev_proc (σ := [some (.ref wa), some (.ref r), some (.int k)]) TW W1 (ev_var (i := 0) rfl) (ev_var (i := 2) rfl) l')
      have es : stpB (famE E) k = p'.stp := by unfold stpB; rw [fam_in l']; rfl
      refine s_when (et_not (et_B pf.stp)) (fun hb G1 e1 => ?_) (fun hb G1 e1 => ?_)
      · have hb : (!p'.stp) = true := hb
        refine s_ret (ev_is (ev_var rfl) ?_) fun G2 e2 => q G2 (eG.trans (e1.trans e2))
        rw [find_at ek hno (by rw [es]; exact hb)]
        rfl
      · have hb : (!p'.stp) = false := hb
        exact ⟨⟨_, rfl⟩, eG.trans e1, find_step (f := fun y => !stpB (famE E) y) ek hno (by rw [es]; exact hb)⟩
    · rintro σ' G ⟨_, eG, hno⟩
      rw [List.length_map] at hno
      refine s_ret (ev_is ev_c ?_) fun G2 e2 => q G2 (eG.trans e2)
      rw [find_no hno]
      rfl
theorem ok_begin (F : Fun K "begin" "begin" sBegin f fd) (TW : WT K CW) (TP : PT K CP) (G_row_of : Kf P w K mg base 1 "row_of" ["world", "process", "call"] spRowOf) (G_next_in_row : Kf P w K mg base 1 "next_in_row" ["world", "row"] (spNextInRow CW CP tP)) (G_answer_now : Kf P w K mg base 3 "answer_now" ["world", "process", "call"] (spAnswerNow CW CP tP)) (c_FIRST : mg "FIRST" = some (.int 1 t0)) : FnOk P w K mg base CX0 4 f fd ["world", "process", "call"] (spBegin CW CP tP) := by
  refine F.ok scBegin (fun vs H Q E h => ?_) (fun cdv A outer s H vs Q E hr h => ?_)
  · obtain ⟨R, wa, E, A, n, pa, p, who, t, rfl, _⟩ := h
    rfl
  · obtain ⟨R, wa, E, A, n, pa, p, who, t, rfl, ht, W0, few, l, hc, q⟩ := h
    have nd := scBegin.nd
    have hu := hu_of hr
    refine ⟨_, (pss_cons (ps_set (i := 3) nd rfl (by first | exact .inl rfl | exact .inr rfl) (pe_fn G_row_of (hr.mono (by decide)) (pa_cons (pv 0) (pa_cons (pv 1) (pa_cons (pv 2) pa_nil)))))
      (pss_cons (ps_if (pt_cmp (pc_isN (pe_fn G_next_in_row (hr.mono (by decide)) (pa_cons (pv 0) (pa_cons (pv 3) pa_nil))))) (pss_cons (ps_set (i := 4) nd rfl (by first | exact .inl rfl | exact .inr rfl) (pe_fn G_answer_now (hr.mono (by decide)) (pa_cons (pv 0) (pa_cons (pv 1) (pa_cons (pv 2) pa_nil)))))
      (pss_one (ps_if (pt_cmp (pc_notN (pv 4))) (pss_one (ps_ret (pv 4))) pss_nil))) pss_nil)
      (pss_cons (ps_if (pt_cmpR op_eq (pe_fld (pv 1) rfl) (pe_glob (v := .int 1) rfl c_FIRST ⟨_, rfl⟩) (nomark _)) (pss_one (ps_ret (pe_tup (pa_cons pe_str (pa_cons pe_str pa_nil))))) pss_nil)
      (pss_cons (ps_fld (pv 1) (pv 2) rfl)
      (pss_cons (ps_expr (pe_bm PySem.F.plainAttrs_list PySem.F.slot_list_append PySem.F.type_list_append mt_append (pv 3) (pa_cons (pe_fld (pv 1) rfl) pa_nil)))
      (pss_one (ps_ret (pe_tup (pa_cons pe_str pa_nil))))))))), ?_⟩
    have c1 : SpL spRowOf ([.ref wa, .ref pa, .ref t] ++ []) H [] := fun H2 e2 Q q E' => ⟨.ref wa, .ref pa, t, who, rfl, e2 _ _ ht, q⟩
    refine q_asgL (el_call (ea_cons (ev_var rfl) (ea_cons (ev_var rfl) (ea_cons (ev_var rfl) ea_nil))) c1) fun r H1 nr e1 gr => ?_
    have c2 : SpV (spNextInRow CW CP tP) ([.ref wa, .ref r] ++ []) H1 .non := fun H2 e2 Q q E' => ⟨R, wa, E, A, r, [], rfl, e2 _ _ gr, W0.ex (e1.trans e2), (by simp), q⟩
    refine q_when (b := true) (et_is (et_B (ev_isN (ev_call (ea_cons (ev_var rfl) (ea_cons (ev_var rfl) ea_nil)) c2))) (by decide +kernel)) (fun _ H2 e2 => ?_) (fun hb => nomatch hb)
    refine q_asgC (ea_cons (ev_var rfl) (ea_cons (ev_var rfl) (ea_cons (ev_var rfl) ea_nil))) fun H3 e3 => ⟨R, wa, E, A, n, pa, p, who, t, rfl, e3 _ _ (e2 _ _ (e1 _ _ ht)), W0.ex (e1.trans (e2.trans e3)), few, l, hc, fun hk H4 e4 => ?_, fun hk v H4 R4 f4 s4 t4 W4 g4 => ?_⟩
    · refine s_when (b := false) (et_is (et_B (ev_notN (ev_var rfl))) (by decide +kernel)) (fun hb => nomatch hb) (fun _ H5 e5 => ?_)
      obtain ⟨pd, ad, fi, th, pi, si, ar, dx, ser, W⟩ := W0
      have eH := e1.trans (e2.trans (e3.trans (e4.trans e5)))
      have W5 := W.ex eH
      unfold beginE at q
      rw [if_neg (fun z => z hk)] at q
      have pf := ev_pf TP (W5.rec1 l) (ev_var (σ := [some (.ref wa), some (.ref pa), some (.ref t), some (.ref r), some .non]) (i := 1) rfl)
      refine q_when (et_is (et_test (ev_op pf.num ev_c (rv_eq rfl))) (show decide (V.int n = V.int 1) = decide (n = 1) by simp)) (fun hb H6 e6 => ?_) (fun hb H6 e6 => ?_)
      · rw [if_pos (of_decide_eq_true hb)] at q
        exact s_retG eg_ref fun v H7 e7 g => q.of ⟨pd, ad, fi, th, pi, si, ar, dx, ser, W⟩ (eH.trans (e6.trans e7)) g
      · rw [if_neg (of_decide_eq_false hb)] at q
        have W6 := W5.ex e6
        obtain ⟨d1, v1, c1, g1, s1, k1, k2, k3, k4, k5, k6, k7, k8⟩ := (W6.rec1 l).is
        refine q_fld (ev_var rfl) (ev_var rfl) k1 TP.cls TP.n8 (by show 10 < 1000; omega) fun H7 e7 => ?_
        have e17 := eH.trans (e6.trans e7)
        obtain ⟨w8, f8⟩ := (W6.ex e7).set (p' := { p with who := some who }) (vc' := .ref t) l (e7 _ _ k1) ⟨t, rfl, e17 _ _ ht⟩ (e7 _ _ k3) k4 (e7 _ _ k5) k6 k7 k8
        have nrR : r ∉ R := fun m => by
          obtain ⟨o, ho⟩ := W.alo r m
          rw [nr] at ho
          cases ho
        have nrp : r ≠ pa := fun z => nrR (by rw [z]; exact (W.rec1 l).inR)
        have gr8 := ((e2.trans (e3.trans (e4.trans (e5.trans (e6.trans e7))))) _ _ gr)
        have pf8 := ev_pf TP (w8.rec1 (look_set l)) (ev_var (σ := [some (.ref wa), some (.ref pa), some (.ref t), some (.ref r), some .non]) (i := 1) rfl)
        refine q_app ((upd_ne nrp).trans gr8) (ev_var rfl) pf8.num (by show 0 < 100000; omega) fun H10 e10 => ?_
        have f11 : Fr [r] H10 (upd H10 r (.lst ([] ++ [.int n]))) := Fr.upd (e10 _ _ ((upd_ne nrp).trans gr8)) True.intro (List.mem_singleton.mpr rfl)
        have w11 := (w8.ex e10).fr f11 fun b m z => nrR (by rw [← List.mem_singleton.mp z]; exact m)
        have fR : Fr R H (upd H10 r (.lst ([] ++ [.int n]))) := by
          have a := (Fr.same e17).trans ((f8.more (G := R) fun x m => by rw [List.mem_singleton.mp m]; exact (W.rec1 l).inR).trans (Fr.same e10))
          exact a.comp f11 fun b m => .inr (by rw [List.mem_singleton.mp m]; exact nr)
        exact s_retG (eg_t1 (eg_v ev_c (.str _))) fun v H12 e12 g => q v H12 R (fR.trans (Fr.same e12)) (fun b m => m) (fun b m => .inl m) ⟨pd, ad, fi, th, pi, si, ar, dx, ser, w11.ex e12⟩ g
    · unfold beginE at q
      rw [if_pos hk] at q
      have nn : v ≠ .non := fun z => by
        rw [z] at g4
        unfold waitE at g4
        cases hz : endedK (famE E) n who with
        | nil => exact hk hz
        | cons k rest =>
          rw [hz] at g4
          cases g4
      refine s_when (b := true) (et_is (et_B (ev_notN (ev_var rfl))) (by simp [nn])) (fun _ H5 e5 => ?_) (fun hb => nomatch hb)
      exact s_ret (ev_var rfl) fun H6 e6 => q v H6 R4 ((Fr.same (e1.trans (e2.trans e3))).trans (f4.trans (Fr.same (e5.trans e6)))) s4 (fun b m => (t4 b m).imp id (fresh_back (e1.trans (e2.trans e3)))) (W4.ex (e5.trans e6)) (g4.ex (e5.trans e6))
end
end K02
set_option Elab.async false
set_option linter.all false
set_option maxRecDepth 100000
set_option maxHeartbeats 4000000
namespace K02
open PySem PySem.Spec PyProof.Rows L2 Evl KB
section
variable {K : PySem.W.Frag} {σ : L2.St} {H : Hp} {te : TE}
theorem ea_star {t : TA} {p : Addr} {xs ys : List V} (h : Ev te σ H (.ref p)) (g : H p = some (.lst xs)) (ht : EvA t σ H ys) : EvA (StX.tStar K te t) σ H (xs ++ ys) := fun H1 e Q q =>
  h H1 e _ fun H2 e2 => ⟨p, xs, rfl, .inr (sq_of ((e.trans e2) _ _ g)), ht H2 (e.trans e2) _ fun H3 e3 => q H3 (e2.trans e3)⟩
theorem s_retCU {D : Ends} {sp : Sp} {t1 t2 t3 : TE} {v1 v2 : V} {xs : List V} (h1 : Ev t1 σ H v1) (h2 : Ev t2 σ H v2) (h3 : EvU t3 σ H xs) (k : ∀ p H1, Ex H H1 → H1 p = some (.tup xs) → sp [v1, v2, .ref p] H1 D.rt E0) : tRet (tCall sp [] E0 (tCons t1 (tCons t2 (tCons t3 tNil)))) D σ H :=
  h1 H (Ex.refl H) _ fun H1 e1 => h2 H1 e1 _ fun H2 e2 => h3 H2 (e1.trans e2) _ fun p H3 np e3 gp => k p H3 (e1.trans (e2.trans e3)) gp
theorem rv_niTI {p : Addr} {xs : List Int} {n : Int} (h : SqT K H p (xs.map V.int)) : RV (rIn K true) (.int n) (.ref p) H (.bl (!decide (n ∈ xs))) := by
  have r := rv_inT (x := .int n) (neg := true) h rfl (flat_ints xs)
  rw [inV_ints] at r
  exact r
end
section
variable {P : Program} {w : World} {K : PySem.W.Frag} {mg : Str → Option Value} {base : Heap} {CW CP tP f : Addr} {fd : FuncData} {t0 : Tok}
theorem ok_doWait (F : Fun K "do_wait" "do_wait" sDoWait f fd) (TW : WT K CW) (TP : PT K CP) (G_children : Kf P w K mg base 1 "children" ["world", "number"] (spChildren CW CP tP)) (G_begin : Kf P w K mg base 4 "begin" ["world", "process", "call"] (spBegin CW CP tP)) : FnOk P w K mg base CX0 5 f fd ["world", "caller", "who"] (spDoWait CW CP tP) := by
  refine F.ok scDoWait (fun vs H Q E h => ?_) (fun cdv A outer s H vs Q E hr h => ?_)
  · obtain ⟨R, wa, E, A, n, pa, p, who, rfl, _⟩ := h
    rfl
  · obtain ⟨R, wa, E, A, n, pa, p, who, rfl, W0, few, l, hc, q⟩ := h
    have nd := scDoWait.nd
    have hu := hu_of hr
    refine ⟨_, (pss_cons (ps_set (i := 3) nd rfl (by first | exact .inl rfl | exact .inr rfl) (pe_fn G_children (hr.mono (by decide)) (pa_cons (pv 0) (pa_cons (pe_fld (pv 1) rfl) pa_nil))))
      (pss_cons (ps_if (PW.pt (pw_or (pt_not (pt_truth (pv 3) (by intro _; rfl))) (pw_or1 (pt_cmpR op_notIn_seq (pv 2) (pe_tup (pa_cons pe_int (StX.pa_star (pv 3) pa_nil))) (by rfl))))) (pss_one (ps_ret (pe_tup (pa_cons pe_str (pa_cons pe_str pa_nil))))) pss_nil)
      (pss_one (ps_ret (pe_fn G_begin (hr.mono (by decide)) (pa_cons (pv 0) (pa_cons (pv 1) (pa_cons (pe_tup (pa_cons pe_str (pa_cons (pv 2) pa_nil))) pa_nil)))))))), ?_⟩
    obtain ⟨pd, ad, fi, th, pi, si, ar, dx, ser, W⟩ := W0
    have W0 : WAt H CW CP tP R wa E A := ⟨pd, ad, fi, th, pi, si, ar, dx, ser, W⟩
    have pf := ev_pf TP (W.rec1 l) (ev_var (σ := start nDoWait [.ref wa, .ref pa, .int who]) (i := 1) rfl)
    have c1 : SpL (spChildren CW CP tP) ([.ref wa, .int n] ++ []) H (((famE E).kids n).map V.int) := fun H2 e2 Q q E' => ⟨R, wa, E, A, n, rfl, W0.ex e2, few, q⟩
    refine q_asgL (el_call (ea_cons (ev_var rfl) (ea_cons pf.num ea_nil)) c1) fun r H1 nr e1 gr => ?_
    have lk : ((famE E).kids n).length < 64 := by
      unfold Fam.kids
      have h1 := List.length_filter_le (fun k => decide (((famE E).at k).bind (·.par) = some n)) (famE E).sorted
      have h2 : (famE E).sorted.length ≤ E.length := by
        unfold Fam.sorted
        rw [fam_keys]
        have := len_asc (E.map (·.1))
        rw [List.length_map] at this
        omega
      omega
    have emp : ((famE E).kids n).isEmpty = decide ((famE E).kids n = []) := by cases (famE E).kids n <;> simp
    refine q_when (et_or (et_is (et_not (et_truR (ev_var rfl) gr)) (show (!!(((famE E).kids n).map V.int).isEmpty) = decide ((famE E).kids n = []) by rw [List.isEmpty_map, Bool.not_not, emp])) fun _ => et_test (ev_opU (ev_var rfl) (eu_tup (ea_cons ev_c (ea_star (ev_var rfl) gr ea_nil)) (by
      rw [List.append_nil]
      show ((((famE E).kids n).map V.int).length + 1) ≤ 100000
      rw [List.length_map]
      omega)) fun p H2 hp e2 => rv_niTI (xs := 0 :: (famE E).kids n) (st_of (by rw [List.append_nil] at hp; exact hp)))) (fun hb H2 e2 => ?_) (fun hb H2 e2 => ?_)
    · unfold doWaitE at q
      have q : RetE H CW CP tP R wa E A (refD "no child") Q := by
        by_cases z : (famE E).kids n = []
        · rw [if_pos z] at q; exact q
        · rw [if_neg z] at q
          rw [decide_eq_false z, Bool.false_or] at hb
          rw [if_pos (by simpa using hb)] at q
          exact q
      exact s_retG eg_ref fun v H3 e3 g => q.of W0 (e1.trans (e2.trans e3)) g
    · have hb := Bool.or_eq_false_iff.mp hb
      unfold doWaitE at q
      rw [if_neg (of_decide_eq_false hb.1), if_neg (by have := hb.2; simpa using this)] at q
      exact s_retCU (ev_var rfl) (ev_var rfl) (eu_tup (ea_cons ev_c (ea_cons (ev_var rfl) ea_nil)) (by show 2 ≤ 100000; omega)) fun t H3 e3 ht => ⟨R, wa, E, A, n, pa, p, who, t, rfl, ht, W0.ex (e1.trans (e2.trans e3)), few, l, hc, q.pre (e1.trans (e2.trans e3))⟩
end
end K02
set_option Elab.async false
set_option linter.all false
set_option maxRecDepth 100000
set_option maxHeartbeats 4000000
namespace L2
open PySem PySem.Spec PyProof.Rows
/-- list(e.values()) -/
def tListVals (te : TE) : TE := fun σ H Q => te σ H fun x H1 => ∃ (d : Addr) (kvs : List (Key × V)), x = .ref d ∧ H1 d = some (.dK kvs) ∧ ∀ p, H1 p = none → Q (.ref p) (upd H1 p (.lst (kvs.map (·.2))))
section
variable {X : Cx} {e : Expr} {te : TE} {p apos cpos pos : Pos}
theorem vals_snd {kvs : List (Key × V)} {vs : List (Key × Value)} (kv : KV kvs vs) : Vals (kvs.map (·.2)) (vs.map (·.2)) := by
  induction kv with
  | nil => exact .nil
  | cons h t ih => exact .cons h.2 ih
theorem pe_listVals (hc : X.calm = true) (he : PE X e te) (hg : Gl X "list") (hm : X.mg "list" = none) (hv : bootBuiltins "list" = some (.type "list")) (hbase : attributeBase e "values" X.env (eval e X.env) = eval e X.env := by rfl) (hline : (apos.endLine == cpos.line) = true := by rfl)
    (hs : starEach [.Call (.Attribute e "values" apos) [] [] cpos] X.env = (false, eval (.Call (.Attribute e "values" apos) [] [] cpos) X.env) :: starEach [] X.env := by rfl) :
    PE X (.Call (.Name "list" p) [.Call (.Attribute e "values" apos) [] [] cpos] [] pos) (tListVals te) := by
  refine ⟨fun pins s σ H Q I hq => ?_⟩
  refine wpAny_Call_Name_kw (ld_blt I hg hm hv ?_)
  refine PyProof.Rows.callWith_type1 ?_ hs rfl
  rw [hs]
  show wpAny _ _ (spliced ((false, eval (.Call (.Attribute e "values" apos) [] [] cpos) X.env) :: backTo pos (starEach [] X.env))) _ _ s
  refine Calls.spliced_cons ?_
  refine wpAny_Call_method (T := "dict") (id := "dict.values") hbase rfl hline F.plainAttrs_dict F.slot_dict_values F.type_dict_values (thn (he.run pins s σ H _ I hq) fun u s1 ⟨x, H1, I1, rx, d, kvs, ex, hd, q⟩ => ?_)
  subst ex
  obtain rfl : u = Value.ref d := rx
  obtain ⟨hz, hs0, vs, kv, hdo⟩ := I1.hok d _ hd
  obtain ⟨ep, hat⟩ := hdo.dictAt
  have lk : kvs.length = vs.length := Paired.length kv
  have I2 : Inv X pins σ H1 { s1 with heap := s1.heap.push { cls := .type "dict_values", data := .fields #[.ref d] } } := I1.kept (t' := s1.toks) fun b ob q => Heap.get?_push_of_some _ q
  refine ⟨hdo.typeIs, hdo.mapOf.noDict, ?_⟩
  show wpAny _ _ (callWith cpos (.builtin "dict.values") [.ref d] [] []) _ X.xe s1
  refine method_meetsIn F.slot_dict_values F.entry_dict_values rfl (PySem.evalArgs_none ⟨rfl, hdo.typeIs, F.args_dict_values_1 _, _, meets_dict_values (mixKind X.prog X.w) d hs0, ⟨vs, hdo⟩, ?_⟩)
  refine Calls.spliced_nil ?_
  refine PySem.W.kdl_call (PySem.W.kdl_values (knd := mixKind X.prog X.w) (kvs := vs) (ep := ep)) (I1.ok.hd hc) ⟨⟨_, Heap.get?_push_size _ rfl, rfl, rfl⟩, hat.push _⟩ (by omega) fun h' tk acc' c' kp e it => ?_
  have ea : acc'.toList = vs.map (·.2) := by
    have hl : acc'.toList.length = vs.length := by rw [Array.length_toList, it.1]
    apply List.ext_getElem?
    intro j
    rw [List.getElem?_map]
    cases hj : acc'.toList[j]? with
    | none =>
      have h1 := List.getElem?_eq_none_iff.mp hj
      rw [List.getElem?_eq_none (by omega)]
      all_goals rfl
    | some v =>
      obtain ⟨k, hk⟩ := it.2 j v (by rw [← Array.getElem?_toList]; exact hj)
      rw [hk]
      all_goals rfl
  have rv : Vals (kvs.map (·.2)) acc'.toList := by rw [ea]; exact vals_snd kv
  refine ⟨.ref _, _, I2.laid (t' := tk) (o := .lst (kvs.map (·.2))) kp (Nat.le_refl _) ?_, rfl, q _ (I2.hok.fresh (Nat.le_refl _))⟩
  exact ⟨by rw [List.length_map]; omega, acc'.toList, c', rv, by rw [Array.toArray_toList]; exact e⟩
end
end L2
set_option Elab.async false
set_option linter.all false
set_option maxRecDepth 100000
set_option maxHeartbeats 4000000
namespace K02
open PySem PySem.Spec PyProof.Rows L2 Evl KB
section
variable {K : PySem.W.Frag} {σ : L2.St} {H : Hp} {ta tb te te0 : TE} {D : Ends} {tz tu : TS}
theorem el_listVals {pd : Addr} {kvs : List (Key × V)} (h : Ev te σ H (.ref pd)) (g : H pd = some (.dK kvs)) : EvL (tListVals te) σ H (kvs.map (·.2)) := fun H1 e Q q =>
  h H1 e _ fun H2 e2 => ⟨pd, kvs, rfl, (e.trans e2) _ _ g, fun p np => q p _ (fresh_back e2 np) (e2.trans (Ex.new np)) upd_same⟩
theorem el_catM {xs ys : List V} (ha : EvL ta σ H xs) (hb : EvL tb σ H ys) (hz : xs.length + ys.length ≤ 100000) : EvL (tOp rCat ta tb) σ H (xs ++ ys) := fun H1 e Q q =>
  ha H1 e _ fun p H2 np e2 gp => hb H2 (e.trans e2) _ fun r H3 nr e3 gr => ⟨p, r, xs, ys, rfl, rfl, e3 _ _ gp, gr, sz_of hz, fun l nl => q l _ (fresh_back (e2.trans e3) nl) ((e2.trans e3).trans (Ex.new nl)) upd_same⟩
/-- for x in d.values(), d locked -/
theorem q_forVals {j : Nat} {pd : Addr} {kvs : List (Key × V)} (hH : H pd = some (.dK kvs)) (h0e : ∀ G, Fz pd H G → Ev te0 σ G (.ref pd)) (Pv : HO → Nat → L2.St → Hp → Prop)
    (h0 : ∀ o G, Fz pd H G → G pd = some o → Pv o 0 σ G) (hG : ∀ o i σ' G, Pv o i σ' G → G pd = some o)
    (hs : ∀ o i k x σ' G (D' : Ends), kvs[i]? = some (k, x) → Pv o i σ' G → D'.nx = Pv o (i + 1) → tu D' (σ'.set j (some x)) G)
    (hd : ∀ o σ' G, Pv o kvs.length σ' G → tz D σ' (upd G pd (.dK kvs))) : tSeq (tLock (tFor (iVals te0) (gName j) tu)) tz D σ H := by
  refine ⟨pd, _, hH, True.intro, fun od => ?_⟩
  have gk : upd H pd (.frz od (.dK kvs)) pd = some (.frz od (.dK kvs)) := upd_same
  have zf : Fz pd H (upd H pd (.frz od (.dK kvs))) := fun b o nb hb => (upd_ne nb).trans hb
  generalize upd H pd (.frz od (.dK kvs)) = Hf at gk zf ⊢
  refine h0e Hf zf Hf (Ex.refl Hf) _ fun H2 e2 => ⟨pd, od, kvs, rfl, e2 _ _ gk, ?_⟩
  refine for_it (walk_values (d := pd) (o := od) (kvs := kvs)) (Pv (.frz od (.dK kvs))) (h0 _ H2 (fun b o nb hb => e2 _ _ (zf b o nb hb)) (e2 _ _ gk)) (fun i σ' G _ h => hG _ i σ' G h) ?_ fun σ' G h => ⟨hG _ _ _ _ h, hd _ σ' G h⟩
  rintro i x σ' G _ hi h ⟨rfl, k, ek⟩
  exact hs _ i k x σ' _ _ ek h rfl
end
/-! ### next_in_rows -/
abbrev sNextInRows : Stmt := topS 42
abbrev nNextInRows : List Str := ["world", "points", "point", "rows", "process", "row", "found", "number"]
theorem scNextInRows : FnScope nNextInRows ["world"] (defScope sNextInRows) := ⟨rfl, rfl, rfl, by decide +kernel, rfl, by decide +kernel, by decide +kernel⟩
def waitK (S : Fam) : List Int := (S.filter fun e => e.2.who.isSome).map (·.1)
def turnK (S : Fam) : List Int := (waitK S).filter fun k => !stpB S k
def spNextInRows (CW CP tP : Addr) : Sp := fun vs H Q _ => ∃ R wa E A, vs = [.ref wa] ∧ WAt H CW CP tP R wa E A ∧ E.length < 64 ∧ RetL ((turnK (famE E)).map V.int) H Q
theorem waitK_fam (E : List Ent) : waitK (famE E) = (E.filter fun e => e.2.2.who.isSome).map (·.1) := by
  unfold waitK famE
  rw [List.filter_map, List.map_map]
  rfl
section
variable {P : Program} {w : World} {K : PySem.W.Frag} {mg : Str → Option Value} {base : Heap} {CW CP tP f : Addr} {fd : FuncData} {t0 : Tok}
theorem ok_nextInRows (F : Fun K "next_in_rows" "next_in_rows" sNextInRows f fd) (TW : WT K CW) (TP : PT K CP) (G_next_in_row : Kf P w K mg base 1 "next_in_row" ["world", "row"] (spNextInRow CW CP tP)) (m_list : mg "list" = none) : FnOk P w K mg base CX0 2 f fd ["world"] (spNextInRows CW CP tP) := by
  refine F.ok scNextInRows (fun vs H Q E h => ?_) (fun cdv A outer s H vs Q E hr h => ?_)
  · obtain ⟨R, wa, E, A, rfl, _⟩ := h
    rfl
  · obtain ⟨R, wa, E, A, rfl, W0, few, q⟩ := h
    obtain ⟨pd, ad, fi, th, pi, si, ar, dx, ser, W⟩ := W0
    have nd := scNextInRows.nd
    have hu := hu_of hr
    refine ⟨_, (pss_cons (ps_set (i := 1) nd rfl (by first | exact .inl rfl | exact .inr rfl) (pe_op op_cat (pe_listVals rfl (pe_fld (pv 0) rfl) rfl m_list (by decide +kernel)) (pe_listVals rfl (pe_fld (pv 0) rfl) rfl m_list (by decide +kernel))))
      (pss_cons (ps_set (i := 3) nd rfl (by first | exact .inl rfl | exact .inr rfl) (pe_op op_cat (pe_lc (own := [("point", 2)]) (g := gName 2) (tt := tYes) (te := tFld K (tVar 2) "takes") rfl nd (pi_list (pv 1)) (blkOk_by (N := nNextInRows) (sc := defScope sNextInRows) (by decide +kernel)) (fun _ _ _ _ _ => (pg_name (i := 2) nd rfl (by first | exact .inl rfl | exact .inr rfl))) (fun _ _ _ _ _ => pts_nil) (fun _ _ _ _ _ => (pe_fld (pv 2) rfl))) (pe_lc (own := [("point", 2)]) (g := gName 2) (tt := tYes) (te := tFld K (tVar 2) "puts") rfl nd (pi_list (pv 1)) (blkOk_by (N := nNextInRows) (sc := defScope sNextInRows) (by decide +kernel)) (fun _ _ _ _ _ => (pg_name (i := 2) nd rfl (by first | exact .inl rfl | exact .inr rfl))) (fun _ _ _ _ _ => pts_nil) (fun _ _ _ _ _ => (pe_fld (pv 2) rfl)))))
      (pss_cons (ps_lock (ps_for PassesOwn.never rfl (pi_values (pe_fld (pv 0) rfl)) (pg_name (i := 4) nd rfl (by first | exact .inl rfl | exact .inr rfl)) (pss_one (ps_if (PW.pt (pw_and (pt_cmp (pc_notN (pe_fld (pv 4) rfl))) (pw_and1 (pt_cmpR op_eq (pe_ix ix_seq (pe_fld (pv 4) rfl) pe_int (fun _ _ => rfl)) pe_str (nomark _))))) (pss_one (ps_expr (pe_bm PySem.F.plainAttrs_list PySem.F.slot_list_append PySem.F.type_list_append mt_append (pv 3) (pa_cons (pe_lst (pa_cons (pe_fld (pv 4) rfl) pa_nil)) pa_nil)))) pss_nil))))
      (pss_cons (ps_setLc (i := 6) (own := [("row", 5)]) (g := gName 5) (tt := tYes) (te := tCall (spNextInRow CW CP tP) [] E0 (tCons (tVar 0) (tCons (tVar 5) tNil))) rfl nd rfl rfl (sw_true rfl rfl rfl (by decide +kernel)) (pi_list (pv 3)) (blkOk_by (N := nNextInRows) (sc := defScope sNextInRows) (by decide +kernel)) (fun _ _ _ _ _ => (pg_name (i := 5) nd rfl (by first | exact .inl rfl | exact .inr rfl))) (fun _ _ _ _ _ => pts_nil) (fun _ _ _ _ _ => (pe_fn G_next_in_row (hr.mono (by decide)) (pa_cons (pv 0) (pa_cons (pv 5) pa_nil)))))
      (pss_one (ps_ret (pe_lc (own := [("number", 7)]) (g := gName 7) (tt := tB (tNotN (tVar 7))) (te := tVar 7) rfl nd (pi_list (pv 6)) (blkOk_by (N := nNextInRows) (sc := defScope sNextInRows) (by decide +kernel)) (fun _ _ _ _ _ => (pg_name (i := 7) nd rfl (by first | exact .inl rfl | exact .inr rfl))) (fun _ _ _ _ _ => (pts_one (pt_cmp (pc_notN (pv 7))))) (fun _ _ _ _ _ => (pv 7))))))))), ?_⟩
    have em : ∀ b ∈ [fi, th, pi, si, ar], H b = some (.dK []) := fun b m => (W.em b m).1
    have gpi := em pi (by simp)
    have gsi := em si (by simp)
    refine q_asgL (el_catM (el_listVals (ev_fld (ev_var rfl) W.obj TW.cls TW.n4 rfl) gpi) (el_listVals (ev_fld (ev_var rfl) W.obj TW.cls TW.n5 rfl) gsi) (by show 0 ≤ 100000; omega)) fun ps H1 nps e1 gps => ?_
    have gps : H1 ps = some (.lst []) := gps
    have lcn : ∀ (fl : Str), EvL (tLc (iList K (tVar 1)) (gName 2) tYes (tFld K (tVar 2) fl) [2]) [some (.ref wa), some (.ref ps), none, none, none, none, none, none] H1 [] := fun fl =>
      el_lcG (K := K) (α := Unit) (xs := []) (t := tYes) (te := tFld K (tVar 2) fl) (j := 2) (vs := [2]) (fun _ => .non) (fun _ => true) (fun _ => .non) (ev_var rfl) (sq_of gps) (by show 0 ≤ 40000; omega) (fun x => rfl) (fun e m => nomatch m) (fun e m => nomatch m)
    refine q_asgL (el_catM (lcn "takes") (lcn "puts") (by show 0 ≤ 100000; omega)) fun r H2 nr e2 gr => ?_
    have gr : H2 r = some (.lst []) := gr
    have W2 := W.ex (e1.trans e2)
    have n0r : H r = none := fresh_back e1 nr
    have nrR : r ∉ R := fun m => by
      obtain ⟨o, ho⟩ := W.alo r m
      rw [n0r] at ho
      cases ho
    have nrp : r ≠ pd := fun z => nrR (by rw [z]; exact W.inR.2.1)
    refine q_forVals (pd := pd) (kvs := topK E) W2.top (fun G z => ev_fld (ev_var rfl) (W2.fz z).1 TW.cls TW.n1 rfl) (fun o i σ' G => G pd = some o ∧ (∃ x, σ' = [some (.ref wa), some (.ref ps), none, some (.ref r), x, none, none, none]) ∧ (∀ b u, b ≠ pd → b ≠ r → H2 b = some u → G b = some u) ∧ ∃ rs : List (Addr × Int), G r = some (.lst (rs.map fun x => V.ref x.1)) ∧ (∀ x ∈ rs, G x.1 = some (.lst [.int x.2])) ∧ rs.map (·.2) = ((E.take i).filter fun e => e.2.2.who.isSome).map (·.1) ∧ ∀ x ∈ rs, x.1 ≠ r ∧ x.1 ≠ pd)
      (fun o G z go => ⟨go, ⟨none, rfl⟩, fun b u n1 n2 hb => z b u n1 hb, [], z _ _ nrp gr, (by simp), (by simp), (by simp)⟩) (fun o i σ' G h => h.1) ?_ ?_
    · rintro o i k x σ' G D' hx ⟨go, ⟨y, rfl⟩, off, rs, g1, g2, g3, g4⟩ hD
      rw [List.getElem?_map] at hx
      obtain ⟨e, ee, e3⟩ := Option.map_eq_some_iff.mp hx
      obtain ⟨_, rfl⟩ := Prod.mk.inj e3
      have me := List.mem_of_getElem? ee
      have tk : (E.take (i + 1)).filter (fun e => e.2.2.who.isSome) = ((E.take i).filter fun e => e.2.2.who.isSome) ++ ([e].filter fun e => e.2.2.who.isSome) := by
        rw [List.take_add_one, ee, List.filter_append]
        rfl
      have fG : Fr [pd, r] H2 G := fun b u hb hn => by
        rcases hn with hn | hn
        · simp only [List.mem_cons, List.not_mem_nil, or_false, not_or] at hn
          exact off b u hn.1 hn.2 hb
        · refine off b u (fun z => ?_) (fun z => ?_) hb
          · rw [z, W2.top] at hb
            cases hb
            rcases hn with ⟨_, hn⟩ | ⟨_, hn⟩ <;> cases hn
          · rw [z, gr] at hb
            cases hb
            rcases hn with ⟨_, hn⟩ | ⟨_, hn⟩ <;> cases hn
      have pe : PrAt G CP R ad e := by
        obtain ⟨d1, v1, c1, h1, s1, k1, k2, k3, k4, k5, k6, k7, k8⟩ := (W2.recs e me).is
        have nR : ∀ {b : Addr}, b ∈ R → b ≠ r := fun m z => nrR (by rw [← z]; exact m)
        refine ⟨⟨d1, v1, c1, h1, s1, off _ _ (W2.pne me).2.1 (nR (W2.recs e me).inR) k1, k2.fr fG, off _ _ (fun y => by rw [y, W2.top] at k3; cases k3) (nR k7) k3, k4, off _ _ (fun y => by
          rw [y, W2.top] at k5
          have h3 := Option.some.inj k5
          injection h3 with h4
          exact W2.ne (List.map_eq_nil_iff.mp h4)) (nR k8) k5, k6, k7, k8⟩, (W2.recs e me).inR⟩
      have pf := ev_pf (σ := [some (.ref wa), some (.ref ps), none, some (.ref r), some (.ref e.2.1), none, none, none]) TP pe (ev_var (i := 4) rfl)
      obtain ⟨vc, ev, cv⟩ := pf.call
      have tst : EvT (tAnd (tB (tNotN (tFld K (tVar 4) "call"))) (tTest (tOp rEq (tOp (rIx K) (tFld K (tVar 4) "call") (tC (.int 0))) (tC (.str "wait"))))) [some (.ref wa), some (.ref ps), none, some (.ref r), some (.ref e.2.1), none, none, none] G e.2.2.who.isSome := by
        cases hk : e.2.2.who with
        | none =>
          rw [hk] at cv
          have cv : vc = .non := cv
          rw [cv] at ev
          exact et_is (et_and (a := false) (b := false) (et_is (et_B (ev_notN ev)) (by decide +kernel)) fun hb => nomatch hb) rfl
        | some k =>
          rw [hk] at cv
          obtain ⟨t, rfl, ht⟩ := cv
          exact et_is (et_and (a := true) (b := true) (et_is (et_B (ev_notN ev)) (by simp)) fun _ => et_is (et_test (ev_op (ev_op ev ev_c (rv_ixq (i := 0) (.inr ht) rfl)) ev_c (rv_eq rfl))) (by decide +kernel)) rfl
      refine s_when tst (fun hb G1 eg => ?_) (fun hb G1 eg => ?_)
      · have pf1 := pf.num.mono eg
        refine s_appL (eg _ _ g1) (ev_var rfl) (el_lst (ea_cons pf1 ea_nil) (by show 1 ≤ 100000; omega)) (by
          have h1 := congrArg List.length g3
          rw [List.length_map, List.length_map] at h1
          have h2 := List.length_filter_le (fun e : Ent => e.2.2.who.isSome) (E.take i)
          have h3 := List.length_take_le i E
          rw [List.length_map]
          have h4 : (E.take i).length ≤ E.length := by rw [List.length_take]; omega
          omega) fun l G2 nl eg2 gl => ?_
        rw [hD]
        have nlr : l ≠ r := (ne_of_none (eg _ _ g1) nl).symm
        have nlp : l ≠ pd := (ne_of_none (eg _ _ go) nl).symm
        refine ⟨(upd_ne nrp.symm).trans (eg2 _ _ (eg _ _ go)), ⟨_, rfl⟩, fun b u n1 n2 hb => (upd_ne n2).trans (eg2 _ _ (eg _ _ (off b u n1 n2 hb))), rs ++ [(l, e.1)], ?_, ?_, ?_, ?_⟩
        · rw [upd_same, List.map_append]
          rfl
        · intro x m
          rcases List.mem_append.mp m with m | m
          · rw [upd_ne (g4 x m).1]
            exact eg2 _ _ (eg _ _ (g2 x m))
          · rw [List.mem_singleton.mp m, upd_ne nlr]
            exact gl
        · rw [List.map_append, g3, tk, List.map_append]
          congr 1
          rw [List.filter_cons, if_pos hb]
          rfl
        · intro x m
          rcases List.mem_append.mp m with m | m
          · exact g4 x m
          · rw [List.mem_singleton.mp m]
            exact ⟨nlr, nlp⟩
      · show D'.nx _ _
        rw [hD]
        refine ⟨eg _ _ go, ⟨_, rfl⟩, fun b u n1 n2 hb => eg _ _ (off b u n1 n2 hb), rs, eg _ _ g1, fun x m => eg _ _ (g2 x m), ?_, g4⟩
        rw [g3, tk, List.filter_cons, if_neg (by rw [hb]; decide), List.filter_nil, List.append_nil]
    · rintro o σ' G ⟨go, ⟨y, rfl⟩, off, rs, g1, g2, g3, g4⟩
      rw [List.length_map, List.take_length] at g3
      have off3 : ∀ b u, b ≠ r → H2 b = some u → upd G pd (.dK (topK E)) b = some u := fun b u n2 hb => by
        by_cases z : b = pd
        · rw [z, upd_same, ← W2.top, ← z, hb]
        · rw [upd_ne z]
          exact off b u z n2 hb
      have h1 : upd G pd (.dK (topK E)) r = some (.lst (rs.map fun x => V.ref x.1)) := (upd_ne nrp).trans g1
      have h2 : ∀ x ∈ rs, upd G pd (.dK (topK E)) x.1 = some (.lst [.int x.2]) := fun x m => (upd_ne (g4 x m).2).trans (g2 x m)
      generalize upd G pd (.dK (topK E)) = H3 at off3 h1 h2 ⊢
      have W3 := W2.fr (F := [r]) (H' := H3) (fun b u hb hn => by
        by_cases z : b = r
        · rw [z, gr] at hb
          cases hb
          rcases hn with hn | hn
          · exact absurd (by rw [z]; simp) hn
          · rcases hn with ⟨_, hn⟩ | ⟨_, hn⟩ <;> cases hn
        · exact off3 b u z hb) fun b m z => nrR (by rw [← List.mem_singleton.mp z]; exact m)
      have e03 : Ex H H3 := fun b u hb => off3 b u (fun z => by rw [z, n0r] at hb; cases hb) ((e1.trans e2) _ _ hb)
      have lrs : rs.length ≤ 64 := by
        have h1 := congrArg List.length g3
        rw [List.length_map, List.length_map] at h1
        have h2 := List.length_filter_le (fun e : Ent => e.2.2.who.isSome) E
        omega
      have key : ∀ x ∈ rs, x.2 ∈ E.map (·.1) := fun x m => by
        have : x.2 ∈ rs.map (·.2) := List.mem_map_of_mem (f := fun x : Addr × Int => x.2) m
        rw [g3] at this
        obtain ⟨e, me, ee⟩ := List.mem_map.mp this
        rw [← ee]
        exact List.mem_map_of_mem (f := fun e : Ent => e.1) (List.mem_filter.mp me).1
      have lc := el_lcG (K := K) (H := H3) (xs := rs) (t := tYes) (te := tCall (spNextInRow CW CP tP) [] E0 (tCons (tVar 0) (tCons (tVar 5) tNil))) (σ := [some (.ref wa), some (.ref ps), none, some (.ref r), y, none, none, none]) (tl := tVar 3) (j := 5) (vs := [5]) (fun x => V.ref x.1) (fun _ => true) (fun x => optV ([x.2].find? fun k => !stpB (famE E) k)) (ev_var rfl) (sq_of h1) (by omega) (fun x => rfl) (fun x m G z => et_yes) (fun x m _ G eg => by
        have c : SpV (spNextInRow CW CP tP) ([.ref wa, .ref x.1] ++ []) G (optV ([x.2].find? fun k => !stpB (famE E) k)) := fun G2 e2 Q q E' => ⟨R, wa, E, A, x.1, [x.2], rfl, (eg.trans e2) _ _ (h2 x m), ⟨pd, ad, fi, th, pi, si, ar, dx, ser, W3.ex (eg.trans e2)⟩, (fun k mk => by rw [List.mem_singleton.mp mk]; exact key x m), q⟩
        exact ev_call (ea_cons (ev_var rfl) (ea_cons (ev_var rfl) ea_nil)) c)
      rw [Evl.filter_all] at lc
      refine q_asgL lc fun fo H4 nfo e4 gfo => ?_
      have one : ∀ x : Addr × Int, optV ([x.2].find? fun k => !stpB (famE E) k) = if (!stpB (famE E) x.2) = true then V.int x.2 else V.non := fun x => by
        rw [List.find?_cons]
        cases stpB (famE E) x.2 <;> rfl
      have lc2 := el_lcG (K := K) (H := H4) (xs := rs) (t := tB (tNotN (tVar 7))) (te := tVar 7) (σ := [some (.ref wa), some (.ref ps), none, some (.ref r), y, none, some (.ref fo), none]) (tl := tVar 6) (j := 7) (vs := [7]) (fun x => optV ([x.2].find? fun k => !stpB (famE E) k)) (fun x => !stpB (famE E) x.2) (fun x => .int x.2) (ev_var rfl) (sq_of gfo) (by omega) (fun x => rfl) (fun x m G z => et_is (et_B (ev_notN (ev_var rfl))) (by
        rw [one]
        cases stpB (famE E) x.2 <;> simp)) (fun x m hp G eg => ev_is (ev_var rfl) (by rw [one, if_pos hp]))
      have el : (rs.filter fun x => !stpB (famE E) x.2).map (fun x => V.int x.2) = (turnK (famE E)).map V.int := by
        unfold turnK
        rw [waitK_fam, ← g3, List.filter_map, List.map_map]
        rfl
      rw [el] at lc2
      exact s_retL lc2 fun p H5 np e5 g5 => q p H5 (fresh_back (e03.trans e4) np) (e03.trans (e4.trans e5)) g5
end
end K02
set_option Elab.async false
set_option linter.all false
set_option maxRecDepth 100000
set_option maxHeartbeats 4000000
namespace K02
open PySem PySem.Spec PyProof.Rows L2 Evl KB
def whoOf (S : Fam) (k : Int) : Int := ((S.at k).bind (·.who)).getD 0
def readyB (S : Fam) (k : Int) : Bool := decide (endedK S k (whoOf S k) ≠ [])
def clearE (E : List Ent) (n : Int) : List Ent := E.map fun e => if e.1 = n then (e.1, e.2.1, { e.2.2 with who := none }) else e
def stepE (E : List Ent) (A : List (Int × PyData)) (k : Int) : List Ent × List (Int × PyData) := (clearE (waitE E k (whoOf (famE E) k)).1 k, A ++ [(k, (waitE E k (whoOf (famE E) k)).2)])
/-- who waits has not ended -/
def Liv (S : Fam) : Prop := ∀ e ∈ S, e.2.who.isSome = true → e.2.code = none
def Adj (S : Fam) (A : List (Int × PyData)) : Prop := ∀ x ∈ A, x.1 ∉ waitK S
inductive SetR (E : List Ent) (A : List (Int × PyData)) : List Ent → List (Int × PyData) → Prop
  | nil : SetR E A E A
  | step {E1 A1} {k : Int} : SetR E A E1 A1 → k ∈ turnK (famE E1) → readyB (famE E1) k = true → SetR E A (stepE E1 A1 k).1 (stepE E1 A1 k).2
theorem look_drop {E : List Ent} {n m : Int} (h : m ≠ n) : (dropE E n).lookup m = E.lookup m := by
  unfold dropE
  induction E with
  | nil => rfl
  | cons e E ih =>
    rw [List.filter_cons]
    by_cases z : e.1 = n
    · rw [if_neg (by simp [z]), ih, List.lookup_cons]
      have : (m == e.1) = false := beq_eq_false_iff_ne.mpr (fun y => h (y.trans z))
      rw [this]
    · rw [if_pos (by simp [z]), List.lookup_cons, List.lookup_cons, ih]
theorem clear_set {E : List Ent} (nd : (E.map (·.1)).Nodup) {n : Int} {pa : Addr} {p : Pr} (l : E.lookup n = some (pa, p)) : setE E n { p with who := none } = clearE E n := by
  unfold setE clearE
  refine List.map_congr_left fun e m => ?_
  by_cases z : e.1 = n
  · rw [if_pos z, if_pos z]
    have a := in_look nd (n := e.1) (x := e.2) m
    rw [z, l] at a
    have b : (pa, p) = e.2 := Option.some.inj a
    have b1 : p = e.2.2 := congrArg Prod.snd b
    rw [b1]
  · rw [if_neg z, if_neg z]
/-- a process whose turn it is -/
theorem turn_at {E : List Ent} (nd : (E.map (·.1)).Nodup) {k : Int} (h : k ∈ waitK (famE E)) : ∃ pa p c, E.lookup k = some (pa, p) ∧ p.who = some c ∧ whoOf (famE E) k = c := by
  rw [waitK_fam] at h
  obtain ⟨e, me, rfl⟩ := List.mem_map.mp h
  obtain ⟨m1, m2⟩ := List.mem_filter.mp me
  have l := in_look nd (n := e.1) (x := e.2) m1
  cases hw : e.2.2.who with
  | none => rw [hw] at m2; cases m2
  | some c =>
    refine ⟨e.2.1, e.2.2, c, l, hw, ?_⟩
    unfold whoOf
    rw [fam_in l]
    show (e.2.2.who).getD 0 = c
    rw [hw]
    rfl
theorem ready_ne {E : List Ent} {n : Int} {pa : Addr} {p : Pr} {who k : Int} (l : E.lookup n = some (pa, p)) (hc : p.code = none) (h : k ∈ endedK (famE E) n who) : n ≠ k := fun y => by
  have h1 := (List.mem_filter.mp h).2
  rw [Bool.and_eq_true, ← y] at h1
  have h1 := h1.1
  unfold aliveB at h1
  rw [fam_in l] at h1
  have h1 : (!p.code.isNone) = true := h1
  rw [hc] at h1
  cases h1
theorem wait_look {E : List Ent} {n : Int} {pa : Addr} {p : Pr} {who : Int} (l : E.lookup n = some (pa, p)) (hc : p.code = none) : (waitE E n who).1.lookup n = some (pa, p) := by
  unfold waitE
  cases hz : endedK (famE E) n who with
  | nil => exact l
  | cons k rest =>
    show (dropE E k).lookup n = _
    rw [look_drop (ready_ne l hc (by rw [hz]; exact List.mem_cons_self))]
    exact l
section
variable {K : PySem.W.Frag} {H : Hp} {CW CP tP wa pd ad fi th pi si ar dx : Addr} {ser : Int} {R : List Addr} {E : List Ent} {A : List (Int × PyData)} {n : Int} {d : PyData} {v : V}
/-- an answer more -/
theorem WAd.put {kvs : List (Key × V)} (W : WAd H CW CP tP R wa pd ad fi th pi si ar dx ser E A) (hk : H ad = some (.dK kvs)) (nn : n ∉ A.map (·.1)) (g : Tp H v d) :
    WAd (upd H ad (.dK (putK kvs (Sum.inl n) v))) CW CP tP R wa pd ad fi th pi si ar dx ser E (A ++ [(n, d)]) ∧ Fr [ad] H (upd H ad (.dK (putK kvs (Sum.inl n) v))) := by
  have f : Fr [ad] H (upd H ad (.dK (putK kvs (Sum.inl n) v))) := Fr.upd hk True.intro (List.mem_singleton.mpr rfl)
  have keep : ∀ {b : Addr} {o : HO}, H b = some o → b ≠ ad → upd H ad (.dK (putK kvs (Sum.inl n) v)) b = some o := fun hb nb => (upd_ne nb).trans hb
  refine ⟨⟨keep W.obj (fun z => ?_), keep W.top W.apd.symm, fun e m => ?_, ?_, fun b mb => ⟨keep (W.em b mb).1 (W.em b mb).2.1, (W.em b mb).2⟩, W.ne, W.keys, W.apd, W.inR, W.cls, fun b m => alo_upd (W.alo b m), tab_fr W.tab.1 f (tab_ne W.tab.1 hk (fun _ z => by cases z)), W.tab.2⟩, f⟩
  · have h1 := W.obj
    rw [z, hk] at h1
    cases h1
  · obtain ⟨d1, v1, c1, g1, s1, k1, k2, k3, k4, k5, k6, k7, k8⟩ := (W.recs e m).is
    exact ⟨⟨d1, v1, c1, g1, s1, keep k1 (W.pne m).2.2, k2.fr f, keep k3 (fun z => by rw [z, hk] at k3; cases k3), k4, keep k5 k6, k6, k7, k8⟩, (W.recs e m).inR⟩
  · obtain ⟨vs, a1, a2, a3⟩ := W.ans
    rw [hk] at a1
    have a1 := Option.some.inj a1
    injection a1 with a1
    subst a1
    have nv : n ∉ vs.map (·.1) := by rw [a2]; exact nn
    refine ⟨vs ++ [(n, v)], ?_, by rw [List.map_append, List.map_append, a2]; rfl, fun i x y hx hy => ?_⟩
    · rw [upd_same, putK_new _ ?_, List.map_append]
      · rfl
      · clear a2 a3 hk f keep
        induction vs with
        | nil => rfl
        | cons a vs ih =>
          rw [List.map_cons, List.mem_cons, not_or] at nv
          rw [List.map_cons, valV_neg (fun w => nv.1 (Sum.inl.inj w).symm)]
          exact ih rfl nv.2
    · have hl : vs.length = A.length := by
        have := congrArg List.length a2
        rw [List.length_map, List.length_map] at this
        exact this
      by_cases z : i < vs.length
      · rw [List.getElem?_append_left z] at hx
        rw [List.getElem?_append_left (by omega)] at hy
        exact (a3 i x y hx hy).fr f
      · rw [List.getElem?_append_right (by omega)] at hx hy
        rw [hl] at hx
        cases hi : i - A.length with
        | zero =>
          rw [hi] at hx hy
          have hx : (n, v) = x := by simpa using hx
          have hy : (n, d) = y := by simpa using hy
          rw [← hx, ← hy]
          exact g.fr f
        | succ j =>
          rw [hi] at hx
          simp at hx
end
abbrev sSettleOne : Stmt := topS 43
abbrev nSettleOne : List Str := ["world", "number", "process", "answer"]
theorem scSettleOne : FnScope nSettleOne ["world"] (defScope sSettleOne) := ⟨rfl, rfl, rfl, by decide +kernel, rfl, by decide +kernel, by decide +kernel⟩
def spSettleOne (CW CP tP : Addr) : Sp := fun vs H Q _ => ∃ R wa E A, vs = [.ref wa] ∧ WAt H CW CP tP R wa E A ∧ E.length < 64 ∧ A.length < 1000 ∧ Liv (famE E) ∧ Adj (famE E) A ∧
  ((∀ k ∈ turnK (famE E), readyB (famE E) k = false) → RetV (.bl false) H Q) ∧ ∀ k ∈ turnK (famE E), readyB (famE E) k = true → RetE H CW CP tP R wa (stepE E A k).1 (stepE E A k).2 (.bool true) Q
section
variable {P : Program} {w : World} {K : PySem.W.Frag} {mg : Str → Option Value} {base : Heap} {CW CP tP f : Addr} {fd : FuncData} {t0 : Tok}
theorem ok_settleOne (F : Fun K "settle_one" "settle_one" sSettleOne f fd) (TW : WT K CW) (TP : PT K CP) (G_next_in_rows : Kf P w K mg base 2 "next_in_rows" ["world"] (spNextInRows CW CP tP)) (G_answer_now : Kf P w K mg base 3 "answer_now" ["world", "process", "call"] (spAnswerNow CW CP tP)) (G_leave_row : Kf P w K mg base 2 "leave_row" ["world", "process"] (spLeaveRow CW CP tP)) : FnOk P w K mg base CX0 4 f fd ["world"] (spSettleOne CW CP tP) := by
  refine F.ok scSettleOne (fun vs H Q E h => ?_) (fun cdv A outer s H vs Q E hr h => ?_)
  · obtain ⟨R, wa, E, A, rfl, _⟩ := h
    rfl
  · obtain ⟨R, wa, E, A, rfl, W0, few, fewA, liv, adj, q1, q2⟩ := h
    have nd := scSettleOne.nd
    have hu := hu_of hr
    refine ⟨_, (pss_cons (ps_for PassesOwn.never rfl (pi_list (pe_fn G_next_in_rows (hr.mono (by decide)) (pa_cons (pv 0) pa_nil))) (pg_name (i := 1) nd rfl (by first | exact .inl rfl | exact .inr rfl)) (pss_cons (ps_set (i := 2) nd rfl (by first | exact .inl rfl | exact .inr rfl) (pe_dget hu (pe_fld (pv 0) rfl) (pv 1) (fun _ _ => rfl)))
      (pss_cons (ps_set (i := 3) nd rfl (by first | exact .inl rfl | exact .inr rfl) (pe_fn G_answer_now (hr.mono (by decide)) (pa_cons (pv 0) (pa_cons (pv 2) (pa_cons (pe_fld (pv 2) rfl) pa_nil)))))
      (pss_one (ps_if (pt_cmp (pc_notN (pv 3))) (pss_cons (ps_expr (pe_fn G_leave_row (hr.mono (by decide)) (pa_cons (pv 0) (pa_cons (pv 2) pa_nil))))
      (pss_cons (ps_dput hu (pe_fld (pv 0) rfl) (pv 1) (pv 3) rfl)
      (pss_one (ps_ret pe_bl)))) pss_nil)))))
      (pss_one (ps_ret pe_bl))), ?_⟩
    have c1 : SpL (spNextInRows CW CP tP) ([.ref wa] ++ []) H ((turnK (famE E)).map V.int) := fun H2 e2 Q q E' => ⟨R, wa, E, A, rfl, W0.ex e2, few, q⟩
    refine q_forNLn (el_call (ea_cons (ev_var rfl) ea_nil) c1) (fun p i σ G => (∃ x y z, σ = [some (.ref wa), x, y, z]) ∧ Ex H G ∧ G p = some (.lst ((turnK (famE E)).map V.int)) ∧ ∀ k ∈ (turnK (famE E)).take i, readyB (famE E) k = false) (fun p H1 np e1 gp => ⟨⟨_, _, _, rfl⟩, e1, gp, by simp⟩) (fun p i σ' G _ h => sq_of h.2.2.1) ?_ ?_
    · rintro r i x σ' G hx ⟨⟨y1, y2, y3, rfl⟩, eG, gp, hno⟩
      rw [List.getElem?_map] at hx
      obtain ⟨n, en, rfl⟩ := Option.map_eq_some_iff.mp hx
      have mt := List.mem_of_getElem? en
      obtain ⟨pd, ad, fi, th, pi, si, ar, dx, ser, W⟩ := W0
      obtain ⟨pa, p, c, l, hw, hwo⟩ := turn_at W.keys (List.mem_filter.mp mt).1
      have hc : p.code = none := liv (n, p) (List.mem_map.mpr ⟨(n, pa, p), look_in l, rfl⟩) (by show p.who.isSome = true; rw [hw]; rfl)
      refine q_asg (ev_proc TW (W.ex eG) (ev_var rfl) (ev_var rfl) l) fun G1 eg1 => ?_
      have W1 := W.ex (eG.trans eg1)
      obtain ⟨vc, ev, cv⟩ := (ev_pf (σ := [some (.ref wa), some (.int n), some (.ref pa), y3]) TP (W1.rec1 l) (ev_var (i := 2) rfl)).call
      have cv : CallV G1 vc p.who := cv
      rw [hw] at cv
      obtain ⟨t, rfl, ht⟩ := cv
      refine q_asgC (ea_cons (ev_var rfl) (ea_cons (ev_var rfl) (ea_cons ev ea_nil))) fun G2 eg2 => ⟨R, wa, E, A, n, pa, p, c, t, rfl, eg2 _ _ ht, ⟨pd, ad, fi, th, pi, si, ar, dx, ser, W1.ex eg2⟩, few, l, hc, fun hk G3 eg3 => ?_, fun hk v G3 R3 f3 s3 t3 W3 g3 => ?_⟩
      · refine s_when (b := false) (et_is (et_B (ev_notN (ev_var rfl))) (by decide +kernel)) (fun hb => nomatch hb) (fun _ G4 eg4 => ?_)
        refine ⟨⟨_, _, _, rfl⟩, eG.trans (eg1.trans (eg2.trans (eg3.trans eg4))), (eg1.trans (eg2.trans (eg3.trans eg4))) _ _ gp, find_step en hno ?_⟩
        unfold readyB
        rw [hwo]
        simp [hk]
      · have rdy : readyB (famE E) n = true := by
          unfold readyB
          rw [hwo]
          exact decide_eq_true hk
        have q := q2 n mt rdy
        unfold stepE at q
        rw [hwo] at q
        have e02 := eG.trans (eg1.trans eg2)
        have nn : v ≠ .non := fun z => by
          rw [z] at g3
          unfold waitE at g3
          cases hz : endedK (famE E) n c with
          | nil => exact hk hz
          | cons k rest =>
            rw [hz] at g3
            cases g3
        refine s_when (b := true) (et_is (et_B (ev_notN (ev_var rfl))) (by simp [nn])) (fun _ G4 eg4 => ?_) (fun hb => nomatch hb)
        have l3 := wait_look (who := c) l hc
        refine q_exC (ea_cons (ev_var rfl) (ea_cons (ev_var rfl) ea_nil)) fun G5 eg5 => ⟨R3, wa, _, A, n, pa, p, rfl, W3.ex (eg4.trans eg5), l3, fun G6 f6 W6 => ?_⟩
        obtain ⟨pd6, ad6, fi6, th6, pi6, si6, ar6, dx6, ser6, W6⟩ := W6
        have W6' := W6
        rw [clear_set (by
          obtain ⟨_, _, _, _, _, _, _, _, _, W3'⟩ := W3
          exact W3'.keys) l3] at W6'
        obtain ⟨vs, a1, a2, a3⟩ := W6'.ans
        refine q_dput (ky := Sum.inl n) (by
          have := congrArg List.length a2
          rw [List.length_map, List.length_map] at this
          rw [List.length_map]
          omega) (ev_var rfl) (ev_fld (ev_var rfl) W6'.obj TW.cls TW.n8 rfl) (ev_var rfl) a1 fun G7 eg7 => ?_
        have nnA : n ∉ A.map (·.1) := fun m => by
          obtain ⟨x, mx, ex⟩ := List.mem_map.mp m
          exact adj x mx (by rw [ex]; exact (List.mem_filter.mp mt).1)
        obtain ⟨W8, f8⟩ := (W6'.ex eg7).put (v := v) (eg7 _ _ a1) nnA (((g3.ex (eg4.trans eg5)).fr f6).ex eg7)
        have fA : Fr R H G3 := (Fr.same e02).trans f3
        have tA : ∀ b ∈ R3, b ∈ R ∨ H b = none := fun b m => (t3 b m).imp id (fresh_back e02)
        have fB : Fr R H G7 := fA.comp ((Fr.same (eg4.trans eg5)).trans (f6.trans (Fr.same eg7))) tA
        exact s_ret ev_c fun G9 eg9 => q _ G9 R3 (fB.comp ((f8.more fun b m => by rw [List.mem_singleton.mp m]; exact W6'.inR.2.2).trans (Fr.same eg9)) tA) s3 tA ⟨pd6, ad6, fi6, th6, pi6, si6, ar6, dx6, ser6, W8.ex eg9⟩ (.bl true)
    · rintro r σ' G ⟨_, eG, gp, hno⟩
      rw [List.length_map, List.take_length] at hno
      exact s_ret ev_c fun G1 e1 => q1 hno G1 (eG.trans e1)
end
end K02
set_option Elab.async false
set_option linter.all false
set_option maxRecDepth 100000
set_option maxHeartbeats 4000000
namespace K02
open PySem PySem.Spec PyProof.Rows L2 Evl KB
theorem wait_clear (E : List Ent) (k : Int) : waitK (famE (clearE E k)) = (waitK (famE E)).filter fun x => decide (x ≠ k) := by
  rw [waitK_fam, waitK_fam]
  unfold clearE
  induction E with
  | nil => rfl
  | cons e E ih =>
    rw [List.map_cons, List.filter_cons, List.filter_cons]
    by_cases z : e.1 = k
    · rw [if_pos z, if_neg (by simp), ih]
      by_cases y : e.2.2.who.isSome = true
      · rw [if_pos y, List.map_cons, List.filter_cons, if_neg (by simp [z])]
      · rw [if_neg y]
    · rw [if_neg z]
      by_cases y : e.2.2.who.isSome = true
      · rw [if_pos y, if_pos y, List.map_cons, List.map_cons, List.filter_cons, if_pos (by simp [z]), ih]
      · rw [if_neg y, if_neg y, ih]
theorem wait_drop (E : List Ent) (k : Int) : waitK (famE (dropE E k)) = (waitK (famE E)).filter fun x => decide (x ≠ k) := by
  rw [waitK_fam, waitK_fam]
  unfold dropE
  rw [List.filter_map, List.filter_filter, List.filter_filter]
  congr 1
  refine List.filter_congr fun e _ => ?_
  show (_ && _) = (_ && _)
  rw [Bool.and_comm]
  rfl
theorem wait_one (E : List Ent) (n who : Int) : (waitE E n who).1 = E ∨ ∃ j, (waitE E n who).1 = dropE E j := by
  unfold waitE
  cases endedK (famE E) n who with
  | nil => exact .inl rfl
  | cons k rest => exact .inr ⟨k, rfl⟩
theorem step_mem {E : List Ent} {A : List (Int × PyData)} {k x : Int} (h : x ∈ waitK (famE (stepE E A k).1)) : x ∈ waitK (famE E) ∧ x ≠ k := by
  unfold stepE at h
  have h : x ∈ waitK (famE (clearE (waitE E k (whoOf (famE E) k)).1 k)) := h
  rw [wait_clear] at h
  obtain ⟨h1, h2⟩ := List.mem_filter.mp h
  refine ⟨?_, of_decide_eq_true h2⟩
  rcases wait_one E k (whoOf (famE E) k) with z | ⟨j, z⟩
  · rw [z] at h1; exact h1
  · rw [z, wait_drop] at h1
    exact (List.mem_filter.mp h1).1
theorem step_len {E : List Ent} {A : List (Int × PyData)} {k : Int} (h : k ∈ waitK (famE E)) : (waitK (famE (stepE E A k).1)).length < (waitK (famE E)).length := by
  have lt : ((waitK (famE E)).filter fun x => decide (x ≠ k)).length < (waitK (famE E)).length := List.length_filter_lt_length_iff_exists.mpr ⟨k, h, by simp⟩
  show (waitK (famE (clearE (waitE E k (whoOf (famE E) k)).1 k))).length < _
  rw [wait_clear]
  rcases wait_one E k (whoOf (famE E) k) with z | ⟨j, z⟩
  · rw [z]; exact lt
  · rw [z, wait_drop, List.filter_filter]
    refine Nat.lt_of_le_of_lt ?_ lt
    rw [show (fun a => (decide (a ≠ k) && decide (a ≠ j))) = fun a => (decide (a ≠ j) && decide (a ≠ k)) from funext fun a => Bool.and_comm _ _, ← List.filter_filter]
    exact List.length_filter_le _ _
theorem clear_len (E : List Ent) (k : Int) : (clearE E k).length = E.length := by unfold clearE; rw [List.length_map]
theorem step_few {E : List Ent} {A : List (Int × PyData)} {k : Int} : (stepE E A k).1.length ≤ E.length := by
  show (clearE (waitE E k (whoOf (famE E) k)).1 k).length ≤ _
  rw [clear_len]
  rcases wait_one E k (whoOf (famE E) k) with z | ⟨j, z⟩
  · rw [z]; exact Nat.le_refl _
  · rw [z]; exact List.length_filter_le _ _
theorem clear_liv {E : List Ent} {k : Int} (h : Liv (famE E)) : Liv (famE (clearE E k)) := fun e m hw => by
  obtain ⟨e1, m1, rfl⟩ := List.mem_map.mp m
  obtain ⟨e2, m2, rfl⟩ := List.mem_map.mp m1
  by_cases z : e2.1 = k
  · simp [z] at hw
  · simp only [if_neg z] at hw ⊢
    exact h (e2.1, e2.2.2) (List.mem_map.mpr ⟨e2, m2, rfl⟩) hw
theorem drop_liv {E : List Ent} {k : Int} (h : Liv (famE E)) : Liv (famE (dropE E k)) := fun e m hw => by
  obtain ⟨e1, m1, rfl⟩ := List.mem_map.mp m
  exact h (e1.1, e1.2.2) (List.mem_map.mpr ⟨e1, (List.mem_filter.mp m1).1, rfl⟩) hw
theorem step_liv {E : List Ent} {A : List (Int × PyData)} {k : Int} (h : Liv (famE E)) : Liv (famE (stepE E A k).1) := by
  show Liv (famE (clearE (waitE E k (whoOf (famE E) k)).1 k))
  refine clear_liv ?_
  rcases wait_one E k (whoOf (famE E) k) with z | ⟨j, z⟩
  · rw [z]; exact h
  · rw [z]; exact drop_liv h
theorem step_adj {E : List Ent} {A : List (Int × PyData)} {k : Int} (h : Adj (famE E) A) : Adj (famE (stepE E A k).1) (stepE E A k).2 := fun x m hx => by
  have h2 := step_mem hx
  rcases List.mem_append.mp m with m | m
  · exact h x m h2.1
  · rw [List.mem_singleton.mp m] at h2
    exact h2.2 rfl
theorem fr_back {R : List Addr} {H G : Hp} {b : Addr} (f : Fr R H G) (h : G b = none) : b ∈ R ∨ H b = none := by
  by_cases z : b ∈ R
  · exact .inl z
  · refine .inr ?_
    cases y : H b with
    | none => rfl
    | some o => rw [f b o y (.inl z)] at h; cases h
theorem t_BC {σ : L2.St} {H : Hp} {sp : Sp} {ta : TA} {vs : List V} {Qb : Bool → Hp → Prop} (h : EvA ta σ H vs) (k : ∀ H1, Ex H H1 → sp (vs ++ []) H1 (fun x H2 => ∃ c, x = .bl c ∧ Qb c H2) E0) : tB (tCall sp [] E0 ta) σ H Qb := h H (Ex.refl H) _ k
abbrev sSettle : Stmt := topS 44
abbrev nSettle : List Str := ["world"]
theorem scSettle : FnScope nSettle ["world"] (defScope sSettle) := ⟨rfl, rfl, rfl, by decide +kernel, rfl, by decide +kernel, by decide +kernel⟩
def spSettle (CW CP tP : Addr) : Sp := fun vs H Q _ => ∃ R wa E A, vs = [.ref wa] ∧ WAt H CW CP tP R wa E A ∧ E.length < 64 ∧ A.length + (waitK (famE E)).length < 1000 ∧ Liv (famE E) ∧ Adj (famE E) A ∧
  ∀ H' R' E' A', Fr R H H' → (∀ b ∈ R, b ∈ R') → (∀ b ∈ R', b ∈ R ∨ H b = none) → SetR E A E' A' → (∀ k ∈ turnK (famE E'), readyB (famE E') k = false) → WAt H' CW CP tP R' wa E' A' → Q .non H'
section
variable {P : Program} {w : World} {K : PySem.W.Frag} {mg : Str → Option Value} {base : Heap} {CW CP tP f : Addr} {fd : FuncData} {t0 : Tok}
theorem ok_settle (F : Fun K "settle" "settle" sSettle f fd) (G_settle_one : Kf P w K mg base 4 "settle_one" ["world"] (spSettleOne CW CP tP)) : FnOk P w K mg base CX0 5 f fd ["world"] (spSettle CW CP tP) := by
  refine F.ok scSettle (fun vs H Q E h => ?_) (fun cdv A outer s H vs Q E hr h => ?_)
  · obtain ⟨R, wa, E, A, rfl, _⟩ := h
    rfl
  · obtain ⟨R, wa, E, A, rfl, W0, few, fewA, liv, adj, q⟩ := h
    refine ⟨_, (pss_one (ps_while PassesOwn.never (pt_val (pe_fn G_settle_one (hr.mono (by decide)) (pa_cons (pv 0) pa_nil))) (pss_one ps_pass))), ?_⟩
    refine ⟨fun m σ G => ∃ R1 E1 A1, σ = [some (.ref wa)] ∧ m = (waitK (famE E1)).length ∧ Fr R H G ∧ (∀ b ∈ R, b ∈ R1) ∧ (∀ b ∈ R1, b ∈ R ∨ H b = none) ∧ SetR E A E1 A1 ∧ WAt G CW CP tP R1 wa E1 A1 ∧ E1.length < 64 ∧ A1.length + (waitK (famE E1)).length < 1000 ∧ Liv (famE E1) ∧ Adj (famE E1) A1, ⟨_, R, E, A, rfl, rfl, Fr.refl, fun b m => m, fun b m => .inl m, .nil, W0, few, fewA, liv, adj⟩, ?_⟩
    rintro m σ G ⟨R1, E1, A1, rfl, rfl, f1, s1, t1, sr, W1, few1, fewA1, liv1, adj1⟩
    refine t_BC (ea_cons (ev_var rfl) ea_nil) fun G1 eg => ⟨R1, wa, E1, A1, rfl, W1.ex eg, few1, by omega, liv1, adj1, fun hno G2 eg2 => ?_, fun k mk hk v G2 R2 f2 s2 t2 W2 g2 => ?_⟩
    · exact ⟨false, rfl, q G2 R1 E1 A1 (f1.trans (Fr.same (eg.trans eg2))) s1 t1 sr hno (W1.ex (eg.trans eg2))⟩
    · cases g2
      have mw := (List.mem_filter.mp mk).1
      refine ⟨true, rfl, ?_⟩
      refine ⟨fun σ' H' => σ' = [some (.ref wa)] ∧ H' = G2, ?_, ⟨rfl, rfl⟩⟩
      rintro σ' H' ⟨rfl, rfl⟩
      have lt := step_len (A := A1) mw
      refine ⟨_, lt, R2, _, _, rfl, rfl, (f1.trans (Fr.same eg)).comp f2 t1, fun b m => s2 b (s1 b m), fun b m => ?_, .step sr mk hk, W2, Nat.lt_of_le_of_lt step_few few1, ?_, step_liv liv1, step_adj adj1⟩
      · rcases t2 b m with z | z
        · exact t1 b z
        · exact fr_back (f1.trans (Fr.same eg)) z
      · have : (stepE E1 A1 k).2.length = A1.length + 1 := by
          show (A1 ++ [_]).length = _
          rw [List.length_append]
          rfl
        omega
end
end K02
set_option Elab.async false
set_option linter.all false
set_option maxRecDepth 100000
set_option maxHeartbeats 4000000
namespace K02
open PySem PySem.Spec PyProof.Rows L2 Evl KB
/-! ### a lambda, kept at its table: what it is stays unknown -/
def tLamV (tP : Addr) (q : Str) : TE := fun σ H Q => LamX.TabS H tP q ∧ ∀ (f : Addr) (H1 : Hp), Fr [tP] H H1 → LamX.TabS H1 tP q → Q (.ref f) H1
def freeB (sc scope : Scope) : Bool := scope.names.all fun y => !decide (y.2 = .free) || decide (sc.names.lookup y.1 = some .cell) || decide (sc.names.lookup y.1 = some .free)
theorem s_retLam {σ : L2.St} {H : Hp} {D : Ends} {tP : Addr} {q : Str} {sp : Sp} {t1 : TE} {v1 : V} (h : Ev t1 σ H v1) (tb : LamX.TabS H tP q) (k : ∀ f H1, Fr [tP] H H1 → LamX.TabS H1 tP q → sp [v1, .ref f] H1 D.rt E0) : tRet (tCall sp [] E0 (tCons t1 (tCons (tLamV tP q) tNil))) D σ H :=
  h H (Ex.refl H) _ fun H1 e1 => ⟨tab_fr (F := []) tb (Fr.same e1) List.not_mem_nil, fun g H2 f2 t2 => k g H2 ((Fr.same e1).trans f2) t2⟩
section
variable {X : Cx}
theorem pe_lam {c tP : Addr} {q : Str} {params : Arguments} {body : Expr} {scope : Scope} {pos : Pos} (TB : LamX.TabB X.base X.mg c tP) (hcode : X.env.code = .ref c) (hq : X.env.qual ++ "<lambda>" = q) (hdef : defaultsOf params X.env = ([], []))
    (hfree : freeB X.env.scope scope = true) : PE X (.Lambda params body scope pos) (tLamV tP q) := by
  subst hq
  refine ⟨fun pins s σ H Q I ⟨⟨ps, hP, ht, ha⟩, h⟩ => PySem.W.kla_eval hdef ?_⟩
  have fr : ∀ y ∈ scope.names, y.2 = .free → ∃ c, X.env.cells.lookup y.1 = some c := fun y hy e => by
    have h1 := List.all_eq_true.mp hfree y hy
    simp only [Bool.or_eq_true, Bool.not_eq_true', decide_eq_true_eq, decide_eq_false_iff_not] at h1
    rcases h1 with (z | z) | z
    · exact absurd e z
    · exact I.ok.has _ (.inl z)
    · exact I.ok.has _ (.inr z)
  have bP : s.heap.BuiltinsAt X.mg tP := TB.bm.keeps I.bk
  have gP : s.heap.get? tP = some { cls := .none, data := .fields ps } := I.hok tP _ hP
  cases hc : codeAmong pos ps.toList with
  | some cv =>
    obtain ⟨c', rfl, hco⟩ := ha pos cv hc
    refine PySem.W.kla_makeFunctionHit (mg := X.mg) (c := c) (P := tP) (ps := ps) (closure_ok fr) I.ok.glob (I.mod.glob.keeps I.bk) hcode (TB.code.keeps I.bk) gP ht hc bP fun ctv h' tk hx hsz => ?_
    exact ⟨.ref _, H, I.kept fun b o e => Heap.get?_push_of_some _ (hx b o e), rfl, h _ H Fr.refl ⟨ps, hP, ht, ha⟩⟩
  | none =>
    refine PySem.W.kla_makeFunction (mg := X.mg) (c := c) (P := tP) (ps := ps) (closure_ok fr) I.ok.glob (I.mod.glob.keeps I.bk) hcode (TB.code.keeps I.bk) gP ht hc TB.gP bP fun c' ctv h' tk hx hge hlt ⟨c2, oc, vs, t, e2, hoc, hd, hv⟩ htb => ?_
    cases e2
    have nC : H c' = none := I.hok.fresh hge
    have keep : ∀ b o, H b = some o → b ≠ tP → upd (upd H tP (.tbl (ps ++ #[rawInt pos.line, rawInt pos.col, .ref c']))) c' (LamX.CodeO c' (X.env.qual ++ "<lambda>")) b = some o := fun b o e n => by
      rw [upd_ne (ne_of_none e nC), upd_ne n]
      exact e
    have tl : (ps ++ #[rawInt pos.line, rawInt pos.col, .ref c']).toList = ps.toList ++ [rawInt pos.line, rawInt pos.col, .ref c'] := by simp
    refine ⟨.ref _, _, LamX.inv_table (t' := tk) (q := X.env.qual ++ "<lambda>") (more := #[rawInt pos.line, rawInt pos.col, .ref c']) I hP (fun b o hb e => Heap.get?_push_of_some _ (hx b o hb e)) (Heap.get?_push_of_some _ htb) hge ⟨oc, vs, t, Heap.get?_push_of_some _ hoc, hd, hv⟩, rfl, h _ _ (fun b o e n => ?_) ⟨_, by rw [upd_ne (ne_of_none hP nC), upd_same], by rw [tl]; exact PySem.TriplesOk_snoc _ _ _ _ ht, fun p' cv hcv => ?_⟩⟩
    · refine keep b o e fun z => ?_
      rcases n with n | ⟨xs, rfl⟩ | ⟨φ, rfl⟩
      · exact n (by rw [z]; exact List.mem_singleton.mpr rfl)
      · rw [z, hP] at e; cases e
      · rw [z, hP] at e; cases e
    · rw [tl] at hcv
      rcases LamX.among_app _ ht hcv with z | z
      · obtain ⟨c0, e1, e2⟩ := ha p' cv z
        exact ⟨c0, e1, keep c0 _ e2 fun z => by rw [z, hP] at e2; exact LamX.codeO_ne _ (Option.some.inj e2).symm⟩
      · exact ⟨c', z, upd_same⟩
end
/-- a def whose code object is known -/
theorem okC {P : Program} {w : World} {K : PySem.W.Frag} {mg : Str → Option Value} {base : Heap} {x qual : Str} {st : Stmt} {f : Addr} {fd : FuncData} {N ps : List Str} {k : Nat} {sp : Sp} (F : Fun K x qual st f fd) (S : FnScope N ps (defScope st)) (len : ∀ vs H Q E, sp vs H Q E → vs.length = ps.length)
    (hbody : ∀ (A : Around) (outer : List Env) (s : Shared) (H : Hp) (vs : List V) (Q : VK) (E : XK), Room k (A.deeper (envOfC qual (defScope st) s.heap.objs.size f fd.code)) → sp vs H Q E →
      ∃ t, PSs (cxOf CX0 P w K mg base N qual (defScope st) f fd.code A outer s H E).nox (defBody st) t ∧ t { nx := fun _ H' => Q .non H', rt := Q } (start N vs) H) : FnOk P w K mg base CX0 (k + 1) f fd ps sp := by
  obtain ⟨oc, od, kV, doc, pm, an, cdv, ct, osl, rfl, lk, hcd⟩ := F.ex
  refine fn_of lk hcd S len fun A outer s H vs Q E hr hsp => ?_
  obtain ⟨t, h, q⟩ := hbody A outer s H vs Q E hr hsp
  exact ⟨t, h.nox, q⟩
section
variable {K : PySem.W.Frag} {H H' : Hp} {CW CP tP wa pd ad fi th pi si ar dx : Addr} {ser : Int} {R : List Addr} {E : List Ent} {A : List (Int × PyData)}
/-- the table has more -/
theorem WAd.tbl (W : WAd H CW CP tP R wa pd ad fi th pi si ar dx ser E A) (f : Fr [tP] H H') (t : LamX.TabS H' tP qLam) : WAd H' CW CP tP R wa pd ad fi th pi si ar dx ser E A := by
  have keep : ∀ {b : Addr} {o : HO}, H b = some o → (∀ ps, o ≠ .tbl ps) → H' b = some o := fun {b o} hb no => f b o hb (.inl fun m => by
    obtain ⟨ps, h1, _⟩ := W.tab.1
    rw [← List.mem_singleton.mp m, hb] at h1
    exact no ps (Option.some.inj h1))
  refine ⟨keep W.obj (fun _ z => by cases z), keep W.top (fun _ z => by cases z), fun e m => ?_, ?_, fun b mb => ⟨keep (W.em b mb).1 (fun _ z => by cases z), (W.em b mb).2⟩, W.ne, W.keys, W.apd, W.inR, W.cls, fun b m => ?_, t, W.tab.2⟩
  · obtain ⟨d1, v1, c1, g1, s1, k1, k2, k3, k4, k5, k6, k7, k8⟩ := (W.recs e m).is
    exact ⟨⟨d1, v1, c1, g1, s1, keep k1 (fun _ z => by cases z), k2.fr f, keep k3 (fun _ z => by cases z), k4, keep k5 (fun _ z => by cases z), k6, k7, k8⟩, (W.recs e m).inR⟩
  · obtain ⟨vs, a1, a2, a3⟩ := W.ans
    exact ⟨vs, keep a1 (fun _ z => by cases z), a2, fun i x y b c => (a3 i x y b c).fr f⟩
  · by_cases z : b = tP
    · obtain ⟨ps, h1, _⟩ := t
      exact ⟨_, by rw [z]; exact h1⟩
    · obtain ⟨o, ho⟩ := W.alo b m
      exact ⟨o, f b o ho (.inl fun m => z (List.mem_singleton.mp m))⟩
end
/-! ### first_met, walk, reached: of nothing -/
abbrev sFirstMet : Stmt := topS 8
abbrev nFirstMet : List Str := ["values", "found", "value"]
theorem scFirstMet : FnScope nFirstMet ["values"] (defScope sFirstMet) := ⟨rfl, rfl, rfl, by decide +kernel, rfl, by decide +kernel, by decide +kernel⟩
abbrev sWalk : Stmt := topS 9
abbrev nWalk : List Str := ["beginnings", "behind", "found", "order", "at", "values", "value"]
theorem scWalk : FnScope nWalk ["beginnings", "behind"] (defScope sWalk) := ⟨rfl, rfl, rfl, by decide +kernel, rfl, by decide +kernel, by decide +kernel⟩
abbrev sReached : Stmt := topS 27
abbrev nReached : List Str := ["world", "serials"]
theorem scReached : FnScope nReached ["world", "serials"] (defScope sReached) := ⟨rfl, rfl, rfl, by decide +kernel, rfl, by decide +kernel, by decide +kernel⟩
/-- a new dict, empty -/
def RetD (H : Hp) (Q : VK) : Prop := ∀ p H', H p = none → Ex H H' → H' p = some (.dK []) → Q (.ref p) H'
def spFirstMet : Sp := fun vs H Q _ => ∃ l, vs = [.ref l] ∧ H l = some (.lst []) ∧ RetD H Q
def spWalk : Sp := fun vs H Q _ => ∃ l v, vs = [.ref l, v] ∧ H l = some (.lst []) ∧ RetL [] H Q
def spReached (tP : Addr) : Sp := fun vs H Q _ => ∃ l v, vs = [v, .ref l] ∧ H l = some (.lst []) ∧ LamX.TabS H tP qLam ∧ ∀ p H', Fr [tP] H H' → LamX.TabS H' tP qLam → H' p = some (.lst []) → Q (.ref p) H'
section
variable {P : Program} {w : World} {K : PySem.W.Frag} {mg : Str → Option Value} {base : Heap} {f : Addr} {fd : FuncData}
theorem ok_firstMet (F : Fun K "first_met" "first_met" sFirstMet f fd) : FnOk P w K mg base CX0 1 f fd ["values"] spFirstMet := by
  refine F.ok scFirstMet (fun vs H Q E h => ?_) (fun cdv A outer s H vs Q E hr h => ?_)
  · obtain ⟨l, rfl, _⟩ := h
    rfl
  · obtain ⟨l, rfl, gl, q⟩ := h
    have nd := scFirstMet.nd
    refine ⟨_, (pss_cons (ps_set (i := 1) nd rfl (by first | exact .inl rfl | exact .inr rfl) pe_dnewK)
      (pss_cons (ps_for PassesOwn.never rfl (pi_list (pv 0)) (pg_name (i := 2) nd rfl (by first | exact .inl rfl | exact .inr rfl)) pss_f)
      (pss_one (ps_ret (pv 1))))), ?_⟩
    intro p np
    have g : Ex H (upd H p (.dK [])) := Ex.new np
    show tSeq (tFor (iList K (tVar 0)) (gName 2) fun _ _ _ => False) (tRet (tVar 1)) _ [some (.ref l), some (.ref p), none] (upd H p (.dK []))
    refine q_forLn (xs := []) (ev_var (i := 0) rfl) (sq_of (g _ _ gl)) (fun i σ G => σ = [some (.ref l), some (.ref p), none] ∧ Ex (upd H p (.dK [])) G) (fun H1 e1 => ⟨rfl, e1⟩) (fun i σ' G _ h => sq_of (h.2 _ _ (g _ _ gl))) (fun i x σ' G hx => by simp at hx) ?_
    rintro σ' G ⟨rfl, eG⟩
    exact s_ret (ev_var rfl) fun G1 e1 => q p G1 np (g.trans (eG.trans e1)) ((eG.trans e1) _ _ upd_same)
theorem ok_walk (F : Fun K "walk" "walk" sWalk f fd) (G_first_met : Kf P w K mg base 1 "first_met" ["values"] spFirstMet) (m_list : mg "list" = none) (m_len : mg "len" = none) : FnOk P w K mg base CX0 2 f fd ["beginnings", "behind"] spWalk := by
  refine F.ok scWalk (fun vs H Q E h => ?_) (fun cdv A outer s H vs Q E hr h => ?_)
  · obtain ⟨l, v, rfl, _⟩ := h
    rfl
  · obtain ⟨l, v, rfl, gl, q⟩ := h
    have nd := scWalk.nd
    refine ⟨_, (pss_cons (ps_set (i := 2) nd rfl (by first | exact .inl rfl | exact .inr rfl) (pe_fn G_first_met (hr.mono (by decide)) (pa_cons (pv 0) pa_nil)))
      (pss_cons (ps_set (i := 3) nd rfl (by first | exact .inl rfl | exact .inr rfl) (pe_callTy (call_listD rfl) (by rfl) m_list (by decide +kernel) (pa_cons (pv 2) pa_nil)))
      (pss_cons (ps_set (i := 4) nd rfl (by first | exact .inl rfl | exact .inr rfl) pe_int)
      (pss_cons (ps_while PassesOwn.never (pt_cmpR op_lt (pv 4) (pe_callB call_len_seq (by rfl) m_len (by decide +kernel) (pa_cons (pv 3) pa_nil)) (nomark _)) pss_f)
      (pss_one (ps_ret (pv 3))))))), ?_⟩
    refine q_asgC (ea_cons (ev_var rfl) ea_nil) fun H1 e1 => ⟨l, rfl, e1 _ _ gl, fun d H2 nd2 e2 gd => ?_⟩
    have ll : EvL (fun σ H Q => (tCons (tVar 2) tNil) σ H fun xs H => ∃ (a : Addr) (kvs : List (Key × V)), xs = [.ref a] ∧ Rd H a (.dK kvs) ∧ ∀ p, H p = none → Q (.ref p) (upd H p (.lst (kvs.map fun kv => kV kv.1)))) [some (.ref l), some v, some (.ref d), none, none, none, none] H2 [] := fun G e Q q =>
      (ev_var (i := 2) rfl) G e _ fun G2 e2 => ⟨d, [], rfl, .inl ((e.trans e2) _ _ gd), fun p np => q p _ (fresh_back e2 np) (e2.trans (Ex.new np)) upd_same⟩
    refine q_asgL ll fun r H3 nr e3 gr => ?_
    refine q_asg ev_c fun H4 e4 => ?_
    have gr4 := e4 _ _ gr
    refine q_while (fun m σ G => σ = [some (.ref l), some v, some (.ref d), some (.ref r), some (.int 0), none, none] ∧ Ex H4 G) 0 ⟨rfl, Ex.refl H4⟩ ?_
    rintro m σ G ⟨rfl, eG⟩
    refine ⟨false, et_is (et_test (ev_op (ev_var rfl) (ev_len (ev_var rfl) (sq_of (eG _ _ gr4))) rv_I0)) (by decide +kernel), (fun hb => by cases hb), fun _ G1 eg => ?_⟩
    have e04 := e1.trans (e2.trans (e3.trans e4))
    refine s_ret (ev_var rfl) fun G2 eg2 => q r G2 (fresh_back (e1.trans e2) nr) (e04.trans (eG.trans (eg.trans eg2))) ((eG.trans (eg.trans eg2)) _ _ gr4)
theorem ok_reached {c tP : Addr} (F : Fun K "reached" "reached" sReached f fd) (hcd : fd.code = .ref c) (TB : LamX.TabB base mg c tP) (G_walk : Kf P w K mg base 2 "walk" ["beginnings", "behind"] spWalk) : FnOk P w K mg base CX0 3 f fd ["world", "serials"] (spReached tP) := by
  refine okC F scReached (fun vs H Q E h => ?_) (fun A outer s H vs Q E hr h => ?_)
  · obtain ⟨l, v, rfl, _⟩ := h
    rfl
  · obtain ⟨l, v, rfl, gl, tb, q⟩ := h
    have nd := scReached.nd
    refine ⟨_, (pss_one (ps_ret (pe_fn G_walk (hr.mono (by decide)) (pa_cons (pv 1) (pa_cons (pe_lam (c := c) (tP := tP) (q := qLam) TB hcd rfl rfl (by show freeB (defScope sReached) _ = true; decide +kernel)) pa_nil))))), ?_⟩
    refine s_retLam (ev_var rfl) tb fun g H2 f2 t2 => ⟨l, .ref g, rfl, f2 _ _ gl (.inl fun m => ?_), fun p H3 np e3 gp => q p H3 (f2.trans (Fr.same e3)) (tab_fr (F := []) t2 (Fr.same e3) List.not_mem_nil) gp⟩
    obtain ⟨ps, h1, _⟩ := tb
    rw [← List.mem_singleton.mp m, gl] at h1
    cases h1
end
end K02
set_option Elab.async false
set_option linter.all false
set_option maxRecDepth 100000
set_option maxHeartbeats 4000000
namespace L2
open PySem PySem.Spec PyProof.Rows
section
variable {X : Cx}
theorem pg_f {tg : Expr} : PG X tg (fun _ _ _ _ => False) := ⟨fun pins s σ H v u Q I r h => h.elim⟩
theorem pts_f {ifs : List Expr} : PTs X ifs (fun _ _ _ => False) := ⟨fun pins s σ H Q I h => h.elim⟩
def lockN : Nat → TS → TS
  | 0, t => t
  | n + 1, t => tLock (lockN n t)
theorem ps_lockN {st : Stmt} {t : TS} (h : PS X st t) : ∀ n, PS X st (lockN n t)
  | 0 => h
  | n + 1 => ps_lock (ps_lockN h n)
end
end L2
namespace K02
open PySem PySem.Spec PyProof.Rows L2 Evl KB
/-- many dicts locked, a new list made -/
theorem s_lockN {te : TE} {i : Nat} {σ : L2.St} {xs : List V} (us : Addr → List (Key × V)) : ∀ (ds : List Addr) (H : Hp) (D : Ends), ds.Nodup → (∀ d ∈ ds, H d = some (.dK (us d))) →
    (∀ Hf, (∀ d ∈ ds, ∃ od, Hf d = some (.frz od (.dK (us d)))) → (∀ b, b ∉ ds → Hf b = H b) → ∀ Q : VK, (∀ p H', Hf p = none → Ex Hf H' → H' p = some (.lst xs) → Q (.ref p) H') → te σ Hf Q) →
    (∀ p H', H p = none → Ex H H' → H' p = some (.lst xs) → D.nx (σ.set i (some (.ref p))) H') → lockN ds.length (tAsg te (gName i)) D σ H
  | [], H, D, _, _, h, k => h H (by simp) (fun _ _ => rfl) _ k
  | d :: ds, H, D, nd, hd, h, k => by
    have gd := hd d List.mem_cons_self
    obtain ⟨nd1, nd2⟩ := List.nodup_cons.mp nd
    refine ⟨d, _, gd, True.intro, fun od => ?_⟩
    have g1 : upd H d (.frz od (.dK (us d))) d = some (.frz od (.dK (us d))) := upd_same
    refine s_lockN us ds _ _ nd2 (fun e m => (upd_ne (fun z => nd1 (by rw [← z]; exact m))).trans (hd e (List.mem_cons_of_mem _ m))) (fun Hf h1 h2 => h Hf (fun e m => ?_) fun b nb => ?_) fun p H' np e gp => ?_
    · rcases List.mem_cons.mp m with rfl | m
      · exact ⟨od, by rw [h2 _ nd1]; exact g1⟩
      · exact h1 e m
    · rw [List.mem_cons, not_or] at nb
      rw [h2 b nb.2, upd_ne nb.1]
    · have npd : p ≠ d := fun z => by rw [z, g1] at np; cases np
      refine ⟨e _ _ g1, k p _ ?_ (fun b o hb => ?_) ((upd_ne npd).trans gp)⟩
      · rw [upd_ne npd] at np
        exact np
      · by_cases z : b = d
        · rw [z, upd_same, ← gd, ← z, hb]
        · rw [upd_ne z]
          exact e _ _ ((upd_ne z).trans hb)
/-- the dicts of handles, each once -/
theorem handles_of {H : Hp} {CP : Addr} {R : List Addr} {ad : Addr} : ∀ E : List Ent, (∀ e ∈ E, PrAt H CP R ad e) → ∃ hs : List Addr, hs.Nodup ∧ (∀ h ∈ hs, H h = some (.dK [])) ∧ ∀ e ∈ E, ∃ dx vc ca ha, ha ∈ hs ∧ H e.2.1 = some (.ins CP dx (prFs e.1 e.2.2 vc ca ha))
  | [], _ => ⟨[], List.nodup_nil, by simp, by simp⟩
  | e :: E, h => by
    obtain ⟨hs, h1, h2, h3⟩ := handles_of E fun e m => h e (List.mem_cons_of_mem _ m)
    obtain ⟨d1, v1, c1, g1, s1, k1, k2, k3, k4, k5, k6, k7, k8⟩ := (h e List.mem_cons_self).is
    by_cases z : g1 ∈ hs
    · refine ⟨hs, h1, h2, fun e' m => ?_⟩
      rcases List.mem_cons.mp m with rfl | m
      · exact ⟨d1, v1, c1, g1, z, k1⟩
      · exact h3 e' m
    · refine ⟨g1 :: hs, List.nodup_cons.mpr ⟨z, h1⟩, fun b m => ?_, fun e' m => ?_⟩
      · rcases List.mem_cons.mp m with rfl | m
        · exact k5
        · exact h2 b m
      · rcases List.mem_cons.mp m with rfl | m
        · exact ⟨d1, v1, c1, g1, List.mem_cons_self, k1⟩
        · obtain ⟨a1, a2, a3, a4, a5, a6⟩ := h3 e' m
          exact ⟨a1, a2, a3, a4, List.mem_cons_of_mem _ a5, a6⟩
abbrev sHeldThings : Stmt := topS 28
abbrev nHeldThings : List Str := ["world", "process", "at", "serials"]
theorem scHeldThings : FnScope nHeldThings ["world"] (defScope sHeldThings) := ⟨rfl, rfl, rfl, by decide +kernel, rfl, by decide +kernel, by decide +kernel⟩
def spHeldThings (CW CP tP : Addr) : Sp := fun vs H Q _ => ∃ R wa E A, vs = [.ref wa] ∧ WAt H CW CP tP R wa E A ∧ ∀ p H', Fr [tP] H H' → LamX.TabS H' tP qLam → H' p = some (.dK []) → Q (.ref p) H'
section
variable {P : Program} {w : World} {K : PySem.W.Frag} {mg : Str → Option Value} {base : Heap} {CW CP tP f : Addr} {fd : FuncData}
theorem ok_heldThings (F : Fun K "held_things" "held_things" sHeldThings f fd) (TW : WT K CW) (TP : PT K CP) (G_reached : Kf P w K mg base 3 "reached" ["world", "serials"] (spReached tP)) : FnOk P w K mg base CX0 4 f fd ["world"] (spHeldThings CW CP tP) := by
  refine F.ok scHeldThings (fun vs H Q E h => ?_) (fun cdv A outer s H vs Q E hr h => ?_)
  · obtain ⟨R, wa, E, A, rfl, _⟩ := h
    rfl
  · obtain ⟨R, wa, E, A, rfl, ⟨pd, ad, fi, th, pi, si, ar, dx, ser, W⟩, q⟩ := h
    have nd := scHeldThings.nd
    obtain ⟨hs, hn, hz, hp⟩ := handles_of E W.recs
    refine ⟨_, (pss_cons (ps_lockN (ps_setLc2 (i := 3) (own := [("process", 1), ("at", 2)]) (vs1 := [2]) (g := gName 1) (tt := tYes) (wi1 := iVals (tFld K (tVar 1) "handles")) (g1 := fun _ _ _ _ => False) (tt1 := fun _ _ _ => False) (te := fun _ _ _ => False) rfl nd rfl rfl (sw_true rfl rfl rfl (by decide +kernel)) (pi_values (pe_fld (pv 0) rfl)) (blkOk_by (N := nHeldThings) (sc := defScope sHeldThings) (by decide +kernel)) (by decide) (fun _ _ _ _ _ => (pg_name (i := 1) nd rfl (by first | exact .inl rfl | exact .inr rfl))) (fun _ _ _ _ _ => pts_nil) (fun _ _ _ _ _ => pi_values (pe_fld (pv 1) rfl)) (fun _ _ _ _ _ => pg_f) (fun _ _ _ _ _ => pts_f) (fun _ _ _ _ _ => pe_f)) (pd :: hs).length)
      (pss_one (ps_ret (pe_dc (own := [("at", 2)]) (g := fun _ _ _ _ => False) (tt := fun _ _ _ => False) (tk := fun _ _ _ => False) (tv := fun _ _ _ => False) rfl nd (pi_list (pe_fn G_reached (hr.mono (by decide)) (pa_cons (pv 0) (pa_cons (pv 3) pa_nil)))) (blkOk_by (N := nHeldThings) (sc := defScope sHeldThings) (by decide +kernel)) (fun _ _ _ _ _ => pg_f) (fun _ _ _ _ _ => pts_f) (fun _ _ _ _ _ => pe_f) (fun _ _ _ _ _ => pe_f))))), ?_⟩
    have tne : topK E ≠ [] := fun z => W.ne (List.map_eq_nil_iff.mp z)
    have npd : pd ∉ hs := fun m => by
      have h1 := hz pd m
      rw [W.top] at h1
      have h3 := Option.some.inj h1
      injection h3 with h4
      exact tne h4
    have isd : ∀ d ∈ pd :: hs, H d = some (.dK (if d = pd then topK E else [])) := fun d m => by
      rcases List.mem_cons.mp m with rfl | m
      · rw [if_pos rfl]
        exact W.top
      · rw [if_neg (fun z => npd (by rw [← z]; exact m))]
        exact hz d m
    have nds : ∀ {b : Addr} {C d : Addr} {fs : List (Str × V)}, H b = some (.ins C d fs) → b ∉ pd :: hs := fun hb m => by
      rw [isd _ m] at hb
      cases hb
    refine s_lockN (D := { nx := tRet (tDc (iList K (tCall (spReached tP) [] E0 (tCons (tVar 0) (tCons (tVar 3) tNil)))) (fun _ _ _ _ => False) (fun _ _ _ => False) (fun _ _ _ => False) (fun _ _ _ => False) [2]) { nx := fun _ H' => Q .non H', rt := Q }, rt := Q }) (xs := []) (fun d => if d = pd then topK E else []) (pd :: hs) H (List.nodup_cons.mpr ⟨npd, hn⟩) isd (fun Hf h1 h2 Q1 q1 => ?_) fun p H1 np e1 gp => ?_
    · obtain ⟨od, hpd⟩ := h1 pd List.mem_cons_self
      rw [if_pos rfl] at hpd
      have hw : Hf wa = some (.ins CW dx (wFs pd fi th pi si ar ser ad)) := by rw [h2 _ (nds W.obj)]; exact W.obj
      unfold tLc2
      show iVals (tFld K (tVar 0) "processes") (start nHeldThings [.ref wa]) Hf _
      unfold iVals
      refine ev_fld (ev_var (σ := start nHeldThings [.ref wa]) (i := 0) rfl) hw TW.cls TW.n1 rfl Hf (Ex.refl Hf) _ fun H2 e2 => ⟨pd, od, topK E, rfl, e2 _ _ hpd, fun Dl nD => ?_⟩
      refine ⟨fun i m G => m = E.length - i ∧ i ≤ E.length ∧ Ex H2 G ∧ G Dl = some (.lst []), ⟨_, rfl, Nat.zero_le _, Ex.new nD, upd_same⟩, ?_⟩
      rintro i m G ⟨rfl, hi, eG, gD⟩
      have lt : (topK E).length = E.length := List.length_map ..
      by_cases z : i = E.length
      · exact .inl ⟨⟨eG _ _ (e2 _ _ hpd), by omega⟩, q1 Dl G (fresh_back e2 nD) (e2.trans eG) gD⟩
      · refine .inr ⟨⟨eG _ _ (e2 _ _ hpd), by omega⟩, fun G2 => Ex H2 G2 ∧ G2 Dl = some (.lst []), fun G2 h => ⟨E.length - (i + 1), by omega, rfl, by omega, h.1, h.2⟩, ?_⟩
        rintro x _ ⟨rfl, k, ek⟩
        rw [List.getElem?_map] at ek
        obtain ⟨e, ee, e3⟩ := Option.map_eq_some_iff.mp ek
        obtain ⟨_, rfl⟩ := Prod.mk.inj e3
        obtain ⟨d1, v1, c1, ha, mh, k1⟩ := hp e (List.mem_of_getElem? ee)
        obtain ⟨oh, hh⟩ := h1 ha (List.mem_cons_of_mem _ mh)
        rw [if_neg (fun z => npd (by rw [← z]; exact mh))] at hh
        have k1' : Hf e.2.1 = some (.ins CP d1 (prFs e.1 e.2.2 v1 c1 ha)) := by rw [h2 _ (nds k1)]; exact k1
        refine ⟨rfl, ?_⟩
        unfold tYes
        dsimp only
        rw [if_pos rfl]
        refine ev_fld (ev_var (i := 1) rfl) ((e2.trans eG) _ _ k1') TP.cls TP.n10 rfl _ (Ex.refl _) _ fun G4 e4 => ⟨ha, oh, [], rfl, (e2.trans (eG.trans e4)) _ _ hh, fun j k G5 => j = 0 ∧ G5 = G4, ⟨0, rfl, rfl⟩, ?_⟩
        rintro j k G5 ⟨rfl, rfl⟩
        exact .inl ⟨⟨(e2.trans (eG.trans e4)) _ _ hh, Nat.le_refl _⟩, eG.trans e4, e4 _ _ gD⟩
    · show tDc (iList K (tCall (spReached tP) [] E0 (tCons (tVar 0) (tCons (tVar 3) tNil)))) (fun _ _ _ _ => False) (fun _ _ _ => False) (fun _ _ _ => False) (fun _ _ _ => False) [2] [some (.ref wa), none, none, some (.ref p)] H1 Q
      unfold tDc iList tCall
      refine (ea_cons (ev_var (σ := [some (.ref wa), none, none, some (.ref p)]) (i := 0) rfl) (ea_cons (ev_var (i := 3) rfl) ea_nil)) H1 (Ex.refl H1) _ fun H2 e2 => ⟨p, .ref wa, rfl, e2 _ _ gp, tab_fr (F := []) W.tab.1 (Fr.same (e1.trans e2)) List.not_mem_nil, fun r H3 f3 t3 g3 => ⟨r, rfl, ⟨[], sq_of g3⟩, fun Dl nD => ⟨fun i m G => i = 0 ∧ G = upd H3 Dl (.dK []), ⟨0, rfl, rfl⟩, ?_⟩⟩⟩
      rintro i m G ⟨rfl, rfl⟩
      exact .inl ⟨⟨[], sq_of (Ex.new nD _ _ g3), Nat.le_refl _⟩, q Dl _ ((Fr.same (e1.trans e2)).trans (f3.trans (Fr.same (Ex.new nD)))) (tab_fr (F := []) t3 (Fr.same (Ex.new nD)) List.not_mem_nil) upd_same⟩
end
end K02
set_option Elab.async false
set_option linter.all false
set_option maxRecDepth 100000
set_option maxHeartbeats 4000000
namespace K02
open PySem PySem.Spec PyProof.Rows L2 Evl KB
abbrev gF : TG := fun _ _ _ _ => False
abbrev ttF : TT := fun _ _ _ => False
abbrev teF : TE := fun _ _ _ => False
abbrev tuF : TS := fun _ _ _ => False
/-- a new dict, empty -/
def EvDn (te : TE) (σ : L2.St) (H : Hp) : Prop := ∀ H1, Ex H H1 → ∀ Q : VK, (∀ p H2, H1 p = none → Ex H1 H2 → H2 p = some (.dK []) → Q (.ref p) H2) → te σ H1 Q
section
variable {K : PySem.W.Frag} {σ : L2.St} {H : Hp} {te ta : TE} {tz : TS} {D : Ends} {d : Addr} {vs : List Nat}
theorem q_asgD {i : Nat} (h : EvDn te σ H) (k : ∀ p H1, H p = none → Ex H H1 → H1 p = some (.dK []) → tz D (σ.set i (some (.ref p))) H1) : tSeq (tAsg te (gName i)) tz D σ H := h H (Ex.refl H) _ k
theorem lock_gone {H2 G : Hp} {od : Obj} {u : HO} (g : H d = some u) (e : Ex (upd H d (.frz od u)) G) : Ex H (upd G d u) := fun b o hb => by
  by_cases z : b = d
  · rw [z, upd_same, ← g, ← z, hb]
  · rw [upd_ne z]
    exact e _ _ ((upd_ne z).trans hb)
theorem ed_of {t : TE} (hd : H d = some (.dK [])) (h : ∀ H1 od, Ex H H1 → ∀ Q : VK, (∀ p H2, upd H1 d (.frz od (.dK [])) p = none → Ex (upd H1 d (.frz od (.dK []))) H2 → H2 p = some (.dK []) → Q (.ref p) H2) → t σ (upd H1 d (.frz od (.dK []))) Q) : EvDn (tLockE t) σ H := fun H1 e1 Q q => by
  have g1 := e1 _ _ hd
  refine ⟨d, _, g1, True.intro, fun od => h H1 od e1 _ fun p H2 np e2 gp => ?_⟩
  have npd : p ≠ d := fun z => by rw [z, upd_same] at np; cases np
  refine ⟨e2 _ _ upd_same, q p _ ?_ (lock_gone (H2 := H2) g1 e2) ((upd_ne npd).trans gp)⟩
  rw [upd_ne npd] at np
  exact np
theorem fz_of {H1 : Hp} {od : Obj} (e1 : Ex H H1) : Fz d H (upd H1 d (.frz od (.dK []))) := fun b o nb hb => (upd_ne nb).trans (e1 _ _ hb)
theorem ed_items (hd : H d = some (.dK [])) (h : ∀ G, Fz d H G → Ev te σ G (.ref d)) : EvDn (tLockE (tDc (iItems te) gF ttF teF teF vs)) σ H := ed_of hd fun H1 od e1 Q q => by
  unfold tDc iItems
  refine h _ (fz_of e1) _ (Ex.refl _) _ fun H2 e2 => ⟨d, od, [], rfl, e2 _ _ upd_same, fun Dl nD => ⟨fun i m G => i = 0 ∧ G = upd H2 Dl (.dK []), ⟨0, rfl, rfl⟩, ?_⟩⟩
  rintro i m G ⟨rfl, rfl⟩
  exact .inl ⟨⟨Ex.new nD _ _ (e2 _ _ upd_same), Nat.le_refl _⟩, q Dl _ (fresh_back e2 nD) (e2.trans (Ex.new nD)) upd_same⟩
theorem ed_vals (hd : H d = some (.dK [])) (h : ∀ G, Fz d H G → Ev te σ G (.ref d)) : EvDn (tLockE (tDc (iVals te) gF ttF teF teF vs)) σ H := ed_of hd fun H1 od e1 Q q => by
  unfold tDc iVals
  refine h _ (fz_of e1) _ (Ex.refl _) _ fun H2 e2 => ⟨d, od, [], rfl, e2 _ _ upd_same, fun Dl nD => ⟨fun i m G => i = 0 ∧ G = upd H2 Dl (.dK []), ⟨0, rfl, rfl⟩, ?_⟩⟩
  rintro i m G ⟨rfl, rfl⟩
  exact .inl ⟨⟨Ex.new nD _ _ (e2 _ _ upd_same), Nat.le_refl _⟩, q Dl _ (fresh_back e2 nD) (e2.trans (Ex.new nD)) upd_same⟩
theorem ed_keys (hd : H d = some (.dK [])) (h : ∀ G, Fz d H G → Ev te σ G (.ref d)) : EvDn (tLockE (tDc (iKeys te) gF ttF teF teF vs)) σ H := ed_of hd fun H1 od e1 Q q => by
  unfold tDc iKeys
  refine h _ (fz_of e1) _ (Ex.refl _) _ fun H2 e2 => ⟨d, od, rfl, .inl ⟨[], e2 _ _ upd_same, fun Dl nD => ⟨fun i m G => i = 0 ∧ G = upd H2 Dl (.dK []), ⟨0, rfl, rfl⟩, ?_⟩⟩⟩
  rintro i m G ⟨rfl, rfl⟩
  exact .inl ⟨⟨Ex.new nD _ _ (e2 _ _ upd_same), Nat.le_refl _⟩, q Dl _ (fresh_back e2 nD) (e2.trans (Ex.new nD)) upd_same⟩
/-- a loop over nothing -/
theorem q_for0 (hd : H d = some (.dK [])) (h : ∀ G, Fz d H G → Ev te σ G (.ref d)) (k : ∀ H1, Ex H H1 → tz D σ H1) : tSeq (tLock (tFor (iItems te) gF tuF)) tz D σ H := by
  refine ⟨d, _, hd, True.intro, fun od => ?_⟩
  unfold tFor iItems
  refine h _ (fz_of (Ex.refl H)) _ (Ex.refl _) _ fun H2 e2 => ⟨d, od, [], rfl, e2 _ _ upd_same, fun i m σ' G => i = 0 ∧ σ' = σ ∧ G = H2, ⟨0, rfl, rfl, rfl⟩, ?_⟩
  rintro i m σ' G ⟨rfl, rfl, rfl⟩
  exact .inl ⟨⟨e2 _ _ upd_same, Nat.le_refl _⟩, e2 _ _ upd_same, k _ (lock_gone (H2 := G) hd e2)⟩
end
end K02
set_option Elab.async false
set_option linter.all false
set_option maxRecDepth 100000
set_option maxHeartbeats 4000000
namespace K02
open PySem PySem.Spec PyProof.Rows L2 Evl KB
section
variable {K : PySem.W.Frag} {σ : L2.St} {H : Hp} {te ta : TE} {tz : TS} {D : Ends}
theorem s_fldD {f : Str} {a C dx : Addr} {fs : List (Str × V)} (hv : EvDn te σ H) (ho : Ev ta σ H (.ref a)) (he : H a = some (.ins C dx fs)) (c : Cls K C) (n : NoAttr K C f) (hl : fs.length < 1000) (k : ∀ p H1, H p = none → Ex H H1 → H1 p = some (.dK []) → D.nx σ (upd H1 a (.ins C dx (putF f (.ref p) fs)))) : sFld K ta te f D σ H :=
  hv H (Ex.refl H) _ fun p H1 np e1 gp => ho H1 e1 _ fun H2 e2 => ⟨a, C, dx, fs, rfl, (e1.trans e2) _ _ he, c, n, by omega, k p H2 np (e1.trans e2) (e2 _ _ gp)⟩
theorem q_fldD {f : Str} {a C dx : Addr} {fs : List (Str × V)} (hv : EvDn te σ H) (ho : Ev ta σ H (.ref a)) (he : H a = some (.ins C dx fs)) (c : Cls K C) (n : NoAttr K C f) (hl : fs.length < 1000) (k : ∀ p H1, H p = none → Ex H H1 → H1 p = some (.dK []) → tz D σ (upd H1 a (.ins C dx (putF f (.ref p) fs)))) : tSeq (sFld K ta te f) tz D σ H :=
  s_fldD (D := { D with nx := tz D }) hv ho he c n hl k
end
section
variable {H : Hp} {CW CP tP wa pd ad fi th pi si ar dx : Addr} {ser : Int} {R : List Addr} {E : List Ent} {A : List (Int × PyData)}
/-- other empty dicts -/
theorem WAd.emp {fi' th' pi' si' ar' : Addr} (W : WAd H CW CP tP R wa pd ad fi th pi si ar dx ser E A) (hn : ∀ b ∈ [fi', th', pi', si', ar'], H b = some (.dK []) ∧ b ≠ ad) :
    WAd (upd H wa (.ins CW dx (wFs pd fi' th' pi' si' ar' ser ad))) CW CP tP ([fi', th', pi', si', ar'] ++ R) wa pd ad fi' th' pi' si' ar' dx ser E A ∧ Fr [wa] H (upd H wa (.ins CW dx (wFs pd fi' th' pi' si' ar' ser ad))) := by
  have f : Fr [wa] H (upd H wa (.ins CW dx (wFs pd fi' th' pi' si' ar' ser ad))) := Fr.upd W.obj True.intro (List.mem_singleton.mpr rfl)
  have keep : ∀ {b : Addr} {o : HO}, H b = some o → b ≠ wa → upd H wa (.ins CW dx (wFs pd fi' th' pi' si' ar' ser ad)) b = some o := fun hb nb => (upd_ne nb).trans hb
  have nw : ∀ {b : Addr} {o : HO}, H b = some o → (∀ C d fs, o ≠ .ins C d fs) → b ≠ wa := fun hb no z => by
    rw [z, W.obj] at hb
    cases hb
    exact no _ _ _ rfl
  have mR : ∀ {b : Addr}, b ∈ R → b ∈ [fi', th', pi', si', ar'] ++ R := fun m => List.mem_append_right _ m
  refine ⟨⟨upd_same, keep W.top (nw W.top (fun _ _ _ z => by cases z)), fun e m => ?_, ?_, fun b mb => ⟨keep (hn b mb).1 (nw (hn b mb).1 (fun _ _ _ z => by cases z)), (hn b mb).2, List.mem_append_left _ mb⟩, W.ne, W.keys, W.apd, ⟨mR W.inR.1, mR W.inR.2.1, mR W.inR.2.2⟩, W.cls, fun b m => ?_, tab_fr W.tab.1 f (tab_ne W.tab.1 W.obj (fun _ z => by cases z)), mR W.tab.2⟩, f⟩
  · obtain ⟨d1, v1, c1, g1, s1, k1, k2, k3, k4, k5, k6, k7, k8⟩ := (W.recs e m).is
    exact ⟨⟨d1, v1, c1, g1, s1, keep k1 (W.pne m).1, k2.fr f, keep k3 (nw k3 (fun _ _ _ z => by cases z)), k4, keep k5 (nw k5 (fun _ _ _ z => by cases z)), k6, mR k7, mR k8⟩, mR (W.recs e m).inR⟩
  · obtain ⟨vs, a1, a2, a3⟩ := W.ans
    exact ⟨vs, keep a1 (nw a1 (fun _ _ _ z => by cases z)), a2, fun i x y b c => (a3 i x y b c).fr f⟩
  · refine alo_upd ?_
    rcases List.mem_append.mp m with m | m
    · exact ⟨_, (hn b m).1⟩
    · exact W.alo b m
end
end K02
set_option Elab.async false
set_option linter.all false
set_option maxRecDepth 100000
set_option maxHeartbeats 4000000
namespace L2
open PySem PySem.Spec PyProof.Rows
section
variable {X : Cx}
/-- name = {..} on one line, the name a local -/
theorem ps_setDc {i : Nat} {y : Str} {py pos spos : Pos} {kx vx tg iter : Expr} {ifs : List Expr} {scope : Scope} {own : List (Str × Nat)} {wi : TI} {g : TG} {tt : TT} {tk tv : TE} (hc : X.calm = true) (hN : X.N.Nodup) (hy : X.N[i]? = some y) (hyl : X.env.scope.names.lookup y = some .local)
    (sw : swapsWith (.DictComp kx vx [⟨tg, iter, ifs, 0⟩] scope pos) (some (.Name y py)) spos.line X.env = pure true) (hi : PI X tg iter wi) (ok : BlkOk X.N X.env.scope scope own)
    (hg : ∀ (s : Shared) (H : Hp) (C : Addr) (cl : List (Str × Addr)) (fp : List Addr), PG (X.blk s H scope (compEnvC scope cl C X.env) fp) tg g)
    (ht : ∀ (s : Shared) (H : Hp) (C : Addr) (cl : List (Str × Addr)) (fp : List Addr), PTs (X.blk s H scope (compEnvC scope cl C X.env) fp) ifs tt) (hk : ∀ (s : Shared) (H : Hp) (C : Addr) (cl : List (Str × Addr)) (fp : List Addr), PE (X.blk s H scope (compEnvC scope cl C X.env) fp) kx tk)
    (hv : ∀ (s : Shared) (H : Hp) (C : Addr) (cl : List (Str × Addr)) (fp : List Addr), PE (X.blk s H scope (compEnvC scope cl C X.env) fp) vx tv) (hs : ∀ x, foldedSetIterable iter X.env x = pure x := by intro _; rfl) :
    PS X (.Assign [.Name y py] (.DictComp kx vx [⟨tg, iter, ifs, 0⟩] scope pos) spos) (tAsg (tDc wi g tt tk tv (own.map (·.2))) (gName i)) := by
  refine ⟨fun pins s σ H D J h0 => ?_⟩
  rw [exec_Assign_Name_used _ _ _ _ sw]
  refine wpAny_bind (wpAny_standAt (wpAny_bind ?_))
  show wpAny _ X.A (do let _ ← comprehension (.DictComp kx vx [⟨tg, iter, ifs, 0⟩] scope pos) scope X.env (firstIterPos [⟨tg, iter, ifs, 0⟩] pos) newDict false (eval iter X.env) (some (assign (.Name y py) X.env))) _ _ s
  have h1 : tDc wi g tt tk tv (own.map (·.2)) σ H (fun x H1 => gName i x σ H1 D.nx) := h0
  refine wpAny_bind (thn (dc_core (Qf := fun _ s' => SP X pins D .next s') hc hN J hi ok hg ht hk hv hs h1 fun L C s' m H' J' q hn f => ?_) fun _ s' hq => wpAny_pure (wpAny_pure hq))
  show wpAny _ _ (assign (.Name y py) X.env (.ref L)) _ _ _
  obtain ⟨f0, f1, f2, f3, f4, f5⟩ := f
  refine wpAny_assign_Name (store_ok2 (v := V.ref L) J' hN hy (.inl hyl) rfl (fun s2 J2 ⟨a, sb, ha⟩ => ⟨m, hn.sameBut sb ?_, fun h3 sb3 => ⟨_, H', J2.turned (t' := s2.toks) (fun b o hb e => (sb3.2 b hb).trans e) f0 f1 f3 f4 f5, q⟩⟩) (.inr hyl))
  rcases ha with z | z
  · rw [z]; exact f1
  · exact fun e => f4 y a z e.symm
theorem swD_true {kx vx : Expr} {gs : List Comprehension} {scope : Scope} {pos py : Pos} {y : Str} {l : Nat} {env : Env} (h1 : env.scope.kind = .function) (h2 : env.scope.names.lookup y = some .local) (h3 : (py.line == pos.line) = true)
    (h4 : (scope.names.any fun (n, k) => n == y && (k == .local || k == .cell)) = false) : swapsWith (.DictComp kx vx gs scope pos) (some (.Name y py)) l env = pure true := by
  have k1 : env.kindOf y = some .local := h2
  have k2 : env.blockKind = .function := by unfold Env.blockKind; rw [h1]; rfl
  unfold swapsWith
  simp only [k2, k1, h4, Expr.pos, h3]
  rfl
end
end L2
namespace K02
open PySem PySem.Spec PyProof.Rows L2 Evl KB
/-- the world stands as it should, seen from an elder heap -/
def Sw (H : Hp) (CW CP tP : Addr) (R : List Addr) (wa : Addr) (E : List Ent) (A : List (Int × PyData)) (G : Hp) : Prop := ∃ R1, Fr R H G ∧ (∀ b ∈ R, b ∈ R1) ∧ (∀ b ∈ R1, b ∈ R ∨ H b = none) ∧ WAt G CW CP tP R1 wa E A
theorem q_lockD {te : TE} {i : Nat} {σ : L2.St} {H : Hp} {tz : TS} {D : Ends} (h : EvDn (tLockE te) σ H) (k : ∀ p H1, H p = none → Ex H H1 → H1 p = some (.dK []) → tz D (σ.set i (some (.ref p))) H1) : tSeq (tLock (tAsg te (gName i))) tz D σ H := by
  obtain ⟨d, u, h1, h2, h3⟩ := h H (Ex.refl H) (fun v H1 => tz D (σ.set i (some v)) H1) fun p H1 np e g => k p H1 np e g
  exact ⟨d, u, h1, h2, fun od => h3 od⟩
def EmpT (f : Str) : Prop := ∀ (pd fi th pi si ar : Addr) (ser : Int) (ad p : Addr), ∃ fi' th' pi' si' ar', putF f (.ref p) (wFs pd fi th pi si ar ser ad) = wFs pd fi' th' pi' si' ar' ser ad ∧ ∀ b ∈ [fi', th', pi', si', ar'], b = p ∨ b ∈ [fi, th, pi, si, ar]
theorem emp_things : EmpT "things" := fun pd fi th pi si ar ser ad p => ⟨fi, p, pi, si, ar, rfl, by simp⟩
theorem emp_pipes : EmpT "pipes" := fun pd fi th pi si ar ser ad p => ⟨fi, th, p, si, ar, rfl, by simp⟩
theorem emp_sides : EmpT "sides" := fun pd fi th pi si ar ser ad p => ⟨fi, th, pi, p, ar, rfl, by simp⟩
theorem emp_areas : EmpT "areas" := fun pd fi th pi si ar ser ad p => ⟨fi, th, pi, si, p, rfl, by simp⟩
theorem emp_files : EmpT "files" := fun pd fi th pi si ar ser ad p => ⟨p, th, pi, si, ar, rfl, by simp⟩
section
variable {K : PySem.W.Frag} {σ : L2.St} {H G : Hp} {CW CP tP wa : Addr} {R : List Addr} {E : List Ent} {A : List (Int × PyData)} {te ta : TE} {tz : TS} {D : Ends}
theorem Sw.ex (s : Sw H CW CP tP R wa E A G) {G' : Hp} (e : Ex G G') : Sw H CW CP tP R wa E A G' := by
  obtain ⟨R1, f1, s1, t1, W1⟩ := s
  exact ⟨R1, f1.trans (Fr.same e), s1, t1, W1.ex e⟩
theorem s_emp {f : Str} (T : WT K CW) (no : NoAttr K CW f) (em : EmpT f) (s : Sw H CW CP tP R wa E A G) (ho : Ev ta σ G (.ref wa)) (hv : ∀ pd ad fi th pi si ar dx ser R1, WAd G CW CP tP R1 wa pd ad fi th pi si ar dx ser E A → EvDn te σ G) (k : ∀ G', (∀ b o, G b = some o → b ≠ wa → G' b = some o) → Sw H CW CP tP R wa E A G' → D.nx σ G') : sFld K ta te f D σ G := by
  obtain ⟨R1, f1, s1, t1, pd, ad, fi, th, pi, si, ar, dx, ser, W1⟩ := s
  refine s_fldD (hv _ _ _ _ _ _ _ _ _ _ W1) ho W1.obj T.cls no (by show 8 < 1000; omega) fun p G1 np e1 gp => ?_
  obtain ⟨fi', th', pi', si', ar', he, hb⟩ := em pd fi th pi si ar ser ad p
  rw [he]
  have npR : p ∉ R1 := fun m => by
    obtain ⟨o, ho⟩ := W1.alo p m
    rw [np] at ho
    cases ho
  obtain ⟨W2, f2⟩ := (W1.ex e1).emp (fi' := fi') (th' := th') (pi' := pi') (si' := si') (ar' := ar') (fun b m => by
    rcases hb b m with rfl | z
    · exact ⟨gp, fun y => npR (by rw [y]; exact W1.inR.2.2)⟩
    · exact ⟨e1 _ _ (W1.em b z).1, (W1.em b z).2.1⟩)
  refine k _ (fun b o hb nb => (upd_ne nb).trans (e1 _ _ hb)) ⟨_, ?_, fun b m => List.mem_append_right _ (s1 b m), fun b m => ?_, ⟨_, _, _, _, _, _, _, _, _, W2⟩⟩
  · exact (f1.trans (Fr.same e1)).comp f2 fun b m => by rw [List.mem_singleton.mp m]; exact t1 _ W1.inR.1
  · rcases List.mem_append.mp m with m | m
    · rcases hb b m with rfl | z
      · exact fr_back f1 np
      · exact t1 _ (W1.em b z).2.2
    · exact t1 b m
theorem q_emp {f : Str} (T : WT K CW) (no : NoAttr K CW f) (em : EmpT f) (s : Sw H CW CP tP R wa E A G) (ho : Ev ta σ G (.ref wa)) (hv : ∀ pd ad fi th pi si ar dx ser R1, WAd G CW CP tP R1 wa pd ad fi th pi si ar dx ser E A → EvDn te σ G) (k : ∀ G', (∀ b o, G b = some o → b ≠ wa → G' b = some o) → Sw H CW CP tP R wa E A G' → tz D σ G') : tSeq (sFld K ta te f) tz D σ G :=
  s_emp (D := { D with nx := tz D }) T no em s ho hv k
end
abbrev sSweep : Stmt := topS 29
abbrev nSweep : List Str := ["world", "held", "at", "thing", "things", "pipe", "side", "used", "cells", "file"]
theorem scSweep : FnScope nSweep ["world"] (defScope sSweep) := ⟨rfl, rfl, rfl, by decide +kernel, rfl, by decide +kernel, by decide +kernel⟩
def spSweep (CW CP tP : Addr) : Sp := fun vs H Q _ => ∃ R wa E A, vs = [.ref wa] ∧ WAt H CW CP tP R wa E A ∧ ∀ H', Sw H CW CP tP R wa E A H' → Q .non H'
section
variable {P : Program} {w : World} {K : PySem.W.Frag} {mg : Str → Option Value} {base : Heap} {CW CP tP f : Addr} {fd : FuncData}
theorem ok_sweep (F : Fun K "sweep" "sweep" sSweep f fd) (TW : WT K CW) (G_held_things : Kf P w K mg base 4 "held_things" ["world"] (spHeldThings CW CP tP)) : FnOk P w K mg base CX0 5 f fd ["world"] (spSweep CW CP tP) := by
  refine F.ok scSweep (fun vs H Q E h => ?_) (fun cdv A outer s H vs Q E hr h => ?_)
  · obtain ⟨R, wa, E, A, rfl, _⟩ := h
    rfl
  · obtain ⟨R, wa, E, A, rfl, W0, q⟩ := h
    have nd := scSweep.nd
    have hu := hu_of hr
    refine ⟨_, (pss_cons (ps_set (i := 1) nd rfl (by first | exact .inl rfl | exact .inr rfl) (pe_fn G_held_things (hr.mono (by decide)) (pa_cons (pv 0) pa_nil)))
      (pss_cons (ps_fld (pv 0) (pe_lock (pe_dc (own := [("at", 2), ("thing", 3)]) (g := gF) (tt := ttF) (tk := teF) (tv := teF) rfl nd (pi_items (pe_fld (pv 0) rfl)) (blkOk_by (N := nSweep) (sc := defScope sSweep) (by decide +kernel)) (fun _ _ _ _ _ => pg_f) (fun _ _ _ _ _ => pts_f) (fun _ _ _ _ _ => pe_f) (fun _ _ _ _ _ => pe_f))) rfl)
      (pss_cons (ps_lock (ps_setDc (i := 4) (own := [("thing", 3)]) (g := gF) (tt := ttF) (tk := teF) (tv := teF) rfl nd rfl rfl (swD_true rfl rfl rfl (by decide +kernel)) (pi_values (pe_fld (pv 0) rfl)) (blkOk_by (N := nSweep) (sc := defScope sSweep) (by decide +kernel)) (fun _ _ _ _ _ => pg_f) (fun _ _ _ _ _ => pts_f) (fun _ _ _ _ _ => pe_f) (fun _ _ _ _ _ => pe_f)))
      (pss_cons (ps_lock (ps_for PassesOwn.never rfl (pi_items (pe_fld (pv 0) rfl)) pg_f pss_f))
      (pss_cons (ps_lock (ps_for PassesOwn.never rfl (pi_items (pe_fld (pv 0) rfl)) pg_f pss_f))
      (pss_cons (ps_set (i := 7) nd rfl (by first | exact .inl rfl | exact .inr rfl) (pe_lock (pe_dc (own := [("thing", 3)]) (g := gF) (tt := ttF) (tk := teF) (tv := teF) rfl nd (pi_keys (pv 4)) (blkOk_by (N := nSweep) (sc := defScope sSweep) (by decide +kernel)) (fun _ _ _ _ _ => pg_f) (fun _ _ _ _ _ => pts_f) (fun _ _ _ _ _ => pe_f) (fun _ _ _ _ _ => pe_f))))
      (pss_cons (ps_fld (pv 0) (pe_lock (pe_dc (own := [("at", 2), ("pipe", 5)]) (g := gF) (tt := ttF) (tk := teF) (tv := teF) rfl nd (pi_items (pe_fld (pv 0) rfl)) (blkOk_by (N := nSweep) (sc := defScope sSweep) (by decide +kernel)) (fun _ _ _ _ _ => pg_f) (fun _ _ _ _ _ => pts_f) (fun _ _ _ _ _ => pe_f) (fun _ _ _ _ _ => pe_f))) rfl)
      (pss_cons (ps_fld (pv 0) (pe_lock (pe_dc (own := [("at", 2), ("side", 6)]) (g := gF) (tt := ttF) (tk := teF) (tv := teF) rfl nd (pi_items (pe_fld (pv 0) rfl)) (blkOk_by (N := nSweep) (sc := defScope sSweep) (by decide +kernel)) (fun _ _ _ _ _ => pg_f) (fun _ _ _ _ _ => pts_f) (fun _ _ _ _ _ => pe_f) (fun _ _ _ _ _ => pe_f))) rfl)
      (pss_cons (ps_fld (pv 0) (pe_lock (pe_dc (own := [("at", 2), ("cells", 8)]) (g := gF) (tt := ttF) (tk := teF) (tv := teF) rfl nd (pi_items (pe_fld (pv 0) rfl)) (blkOk_by (N := nSweep) (sc := defScope sSweep) (by decide +kernel)) (fun _ _ _ _ _ => pg_f) (fun _ _ _ _ _ => pts_f) (fun _ _ _ _ _ => pe_f) (fun _ _ _ _ _ => pe_f))) rfl)
      (pss_one (ps_fld (pv 0) (pe_lock (pe_dc (own := [("at", 2), ("file", 9)]) (g := gF) (tt := ttF) (tk := teF) (tv := teF) rfl nd (pi_items (pe_fld (pv 0) rfl)) (blkOk_by (N := nSweep) (sc := defScope sSweep) (by decide +kernel)) (fun _ _ _ _ _ => pg_f) (fun _ _ _ _ _ => pts_f) (fun _ _ _ _ _ => pe_f) (fun _ _ _ _ _ => pe_f))) rfl))))))))))), ?_⟩
    refine q_asgC (ea_cons (ev_var rfl) ea_nil) fun H1 e1 => ⟨R, wa, E, A, rfl, W0.ex e1, fun hp H2 f2 t2 g2 => ?_⟩
    have S2 : Sw H CW CP tP R wa E A H2 := by
      obtain ⟨pd, ad, fi, th, pi, si, ar, dx, ser, W⟩ := W0
      exact ⟨R, (Fr.same e1).trans (f2.more fun b m => by rw [List.mem_singleton.mp m]; exact W.tab.2), fun b m => m, fun b m => .inl m, _, _, _, _, _, _, _, _, _, (W.ex e1).tbl f2 t2⟩
    have wz : ∀ {G0 : Hp} {d dx : Addr} {fs : List (Str × V)}, G0 wa = some (.ins CW dx fs) → G0 d = some (.dK []) → ∀ {G}, Fz d G0 G → G wa = some (.ins CW dx fs) := fun h1 h2 G z => z _ _ (fun y => by rw [y, h2] at h1; cases h1) h1
    refine q_emp TW TW.n3 emp_things S2 (ev_var rfl) (fun pd ad fi th pi si ar dx ser R1 W1 => ed_items (d := th) (W1.em th (by simp)).1 fun G z => ev_fld (ev_var rfl) (wz W1.obj (W1.em th (by simp)).1 z) TW.cls TW.n3 rfl) fun H3 _ S3 => ?_
    obtain ⟨R3, f3, s3, t3, pd, ad, fi, th, pi, si, ar, dx, ser, W3⟩ := S3
    refine q_lockD (ed_vals (d := th) (W3.em th (by simp)).1 fun G z => ev_fld (ev_var rfl) (wz W3.obj (W3.em th (by simp)).1 z) TW.cls TW.n3 rfl) fun ta H4 n4 e4 g4 => ?_
    have W4 := W3.ex e4
    refine q_for0 (d := pi) (W4.em pi (by simp)).1 (fun G z => ev_fld (ev_var rfl) (wz W4.obj (W4.em pi (by simp)).1 z) TW.cls TW.n4 rfl) fun H5 e5 => ?_
    have W5 := W4.ex e5
    refine q_for0 (d := si) (W5.em si (by simp)).1 (fun G z => ev_fld (ev_var rfl) (wz W5.obj (W5.em si (by simp)).1 z) TW.cls TW.n5 rfl) fun H6 e6 => ?_
    have W6 := W5.ex e6
    have g6 := e6 _ _ (e5 _ _ g4)
    refine q_asgD (ed_keys (d := ta) g6 fun G z => ev_var rfl) fun tu H7 n7 e7 g7 => ?_
    have S7 : Sw H CW CP tP R wa E A H7 := ⟨R3, f3.trans (Fr.same (e4.trans (e5.trans (e6.trans e7)))), s3, t3, _, _, _, _, _, _, _, _, _, W6.ex e7⟩
    refine q_emp TW TW.n4 emp_pipes S7 (ev_var rfl) (fun pd ad fi th pi si ar dx ser R1 W1 => ed_items (d := pi) (W1.em pi (by simp)).1 fun G z => ev_fld (ev_var rfl) (wz W1.obj (W1.em pi (by simp)).1 z) TW.cls TW.n4 rfl) fun H8 _ S8 => ?_
    refine q_emp TW TW.n5 emp_sides S8 (ev_var rfl) (fun pd ad fi th pi si ar dx ser R1 W1 => ed_items (d := si) (W1.em si (by simp)).1 fun G z => ev_fld (ev_var rfl) (wz W1.obj (W1.em si (by simp)).1 z) TW.cls TW.n5 rfl) fun H9 _ S9 => ?_
    refine q_emp TW TW.n6 emp_areas S9 (ev_var rfl) (fun pd ad fi th pi si ar dx ser R1 W1 => ed_items (d := ar) (W1.em ar (by simp)).1 fun G z => ev_fld (ev_var rfl) (wz W1.obj (W1.em ar (by simp)).1 z) TW.cls TW.n6 rfl) fun H10 _ S10 => ?_
    exact s_emp TW TW.n2 emp_files S10 (ev_var rfl) (fun pd ad fi th pi si ar dx ser R1 W1 => ed_items (d := fi) (W1.em fi (by simp)).1 fun G z => ev_fld (ev_var rfl) (wz W1.obj (W1.em fi (by simp)).1 z) TW.cls TW.n2 rfl) fun H11 _ S11 => q H11 S11
end
end K02
set_option Elab.async false
set_option linter.all false
set_option maxRecDepth 100000
set_option maxHeartbeats 4000000
namespace K02
open PySem PySem.Spec PyProof.Rows L2 Evl KB
theorem ed_new {σ : L2.St} {H : Hp} : EvDn tDNewK σ H := fun H1 e1 Q q p np => q p _ np (Ex.new np) upd_same
/-- the same families, as far as parents, adopters and codes go -/
def core (S : Fam) : List (Int × Option Int × Bool × Option Int) := S.map fun e => (e.1, e.2.par, e.2.ado, e.2.code)
theorem core_at {S S' : Fam} (h : core S' = core S) {i : Nat} {n : Int} {p : Pr} (hi : S'[i]? = some (n, p)) : ∃ q, S[i]? = some (n, q) ∧ q.par = p.par ∧ q.ado = p.ado ∧ q.code = p.code := by
  have a : (core S')[i]? = some (n, p.par, p.ado, p.code) := by unfold core; rw [List.getElem?_map, hi]; rfl
  rw [h] at a
  unfold core at a
  rw [List.getElem?_map] at a
  obtain ⟨e, e1, e2⟩ := Option.map_eq_some_iff.mp a
  have h1 : e.1 = n := congrArg (fun x => x.1) e2
  have h2 : e.2.par = p.par := congrArg (fun x => x.2.1) e2
  have h3 : e.2.ado = p.ado := congrArg (fun x => x.2.2.1) e2
  have h4 : e.2.code = p.code := congrArg (fun x => x.2.2.2) e2
  exact ⟨e.2, by rw [e1, ← h1], h2, h3, h4⟩
theorem core_keys (S : Fam) : S.keys = (core S).map (·.1) := by
  unfold core Fam.keys
  rw [List.map_map]
  rfl
theorem Ord.sim {S S' : Fam} (O : Ord S) (h : core S' = core S) : Ord S' := by
  have hl : S'.length = S.length := by
    have := congrArg List.length h
    unfold core at this
    rw [List.length_map, List.length_map] at this
    exact this
  refine ⟨by rw [core_keys, h, ← core_keys]; exact O.nd, ?_, fun i n p hi h0 => ?_, by rw [hl]; exact O.few, fun e m hc => ?_⟩
  · obtain ⟨p, rest, rfl, h1, h2, h3⟩ := O.first
    cases S' with
    | nil => cases hl
    | cons e S' =>
      obtain ⟨q, a, b, c, d⟩ := core_at h (i := 0) (n := e.1) (p := e.2) rfl
      have a : some ((1 : Int), p) = some (e.1, q) := a
      have a := Option.some.inj a
      have a1 : (1 : Int) = e.1 := congrArg Prod.fst a
      have a2 : p = q := congrArg Prod.snd a
      subst a2
      exact ⟨e.2, S', by rw [a1], by rw [← b]; exact h1, by rw [← c]; exact h2, by rw [← d]; exact h3⟩
  · obtain ⟨q, a, b, c, d⟩ := core_at h hi
    obtain ⟨j, m, q', hj, hm, hp, hc⟩ := O.par i n q a h0
    obtain ⟨q2, a2, b2, c2, d2⟩ := core_at h.symm hm
    exact ⟨j, m, q2, hj, a2, by rw [← b]; exact hp, by rw [d2]; exact hc⟩
  · obtain ⟨i, hi⟩ := List.getElem?_of_mem m
    obtain ⟨q, a, b, c, d⟩ := core_at h (n := e.1) (p := e.2) hi
    have := O.dead (e.1, q) (List.mem_of_getElem? a) (by show q.code.isSome = true; rw [d]; exact hc)
    rw [← c]
    exact this
theorem core_set {E : List Ent} (nd : (E.map (·.1)).Nodup) {n : Int} {pa : Addr} {p p' : Pr} (l : E.lookup n = some (pa, p)) (h1 : p'.par = p.par) (h2 : p'.ado = p.ado) (h3 : p'.code = p.code) : core (famE (setE E n p')) = core (famE E) := by
  unfold core famE setE
  rw [List.map_map, List.map_map, List.map_map]
  refine List.map_congr_left fun e m => ?_
  show (fun e : Int × Pr => (e.1, e.2.par, e.2.ado, e.2.code)) ((fun e : Ent => (e.1, e.2.2)) (if e.1 = n then (e.1, e.2.1, p') else e)) = (e.1, e.2.2.par, e.2.2.ado, e.2.2.code)
  by_cases z : e.1 = n
  · rw [if_pos z]
    have a := in_look nd (n := e.1) (x := e.2) m
    rw [z, l] at a
    have b : p = e.2.2 := congrArg Prod.snd (Option.some.inj a)
    show (e.1, p'.par, p'.ado, p'.code) = _
    rw [h1, h2, h3, b]
  · rw [if_neg z]
/-- others' parents are changed -/
def parE (E : List Ent) (ks : List Int) (h : Int) : List Ent := E.map fun e => if e.1 ∈ ks then (e.1, e.2.1, { e.2.2 with par := some h }) else e
theorem par_keys (E : List Ent) (ks : List Int) (h : Int) : (parE E ks h).map (·.1) = E.map (·.1) := by
  unfold parE
  rw [List.map_map]
  refine List.map_congr_left fun e _ => ?_
  by_cases z : e.1 ∈ ks <;> simp [z]
theorem par_look (E : List Ent) (ks : List Int) (h n : Int) : (parE E ks h).lookup n = (E.lookup n).map fun x => if n ∈ ks then (x.1, { x.2 with par := some h }) else x := by
  unfold parE
  induction E with
  | nil => rfl
  | cons e E ih =>
    rw [List.map_cons, List.lookup_cons, List.lookup_cons]
    by_cases y : n = e.1
    · subst y
      by_cases z : e.1 ∈ ks <;> simp [z]
    · have k1 : (n == e.1) = false := beq_eq_false_iff_ne.mpr y
      have k2 : (n == (if e.1 ∈ ks then (e.1, e.2.1, ({ e.2.2 with par := some h } : Pr)) else e).1) = false := by
        by_cases z : e.1 ∈ ks <;> simp [z, y]
      rw [k1, k2]
      exact ih
theorem par_nil (E : List Ent) (h : Int) : parE E [] h = E := by
  unfold parE
  simp
theorem par_step {E : List Ent} (nd : (E.map (·.1)).Nodup) {ks : List Int} {h k : Int} {pa : Addr} {p : Pr} (l : (parE E ks h).lookup k = some (pa, p)) : setE (parE E ks h) k { p with par := some h } = parE E (ks ++ [k]) h := by
  unfold setE
  have nd2 : ((parE E ks h).map (·.1)).Nodup := by rw [par_keys]; exact nd
  have a : ∀ e ∈ parE E ks h, (if e.1 = k then (e.1, e.2.1, ({ p with par := some h } : Pr)) else e) = if e.1 = k then (e.1, e.2.1, { e.2.2 with par := some h }) else e := fun e m => by
    by_cases z : e.1 = k
    · rw [if_pos z, if_pos z]
      have a := in_look nd2 (n := e.1) (x := e.2) m
      rw [z, l] at a
      have b : p = e.2.2 := congrArg Prod.snd (Option.some.inj a)
      rw [b]
    · rw [if_neg z, if_neg z]
  rw [List.map_congr_left a]
  unfold parE
  rw [List.map_map]
  refine List.map_congr_left fun e m => ?_
  show (fun e : Ent => if e.1 = k then (e.1, e.2.1, ({ e.2.2 with par := some h } : Pr)) else e) (if e.1 ∈ ks then (e.1, e.2.1, { e.2.2 with par := some h }) else e) = _
  by_cases z : e.1 ∈ ks
  · rw [if_pos z, if_pos (List.mem_append_left _ z)]
    by_cases y : e.1 = k
    · exact if_pos y
    · exact if_neg y
  · rw [if_neg z]
    by_cases y : e.1 = k
    · rw [if_pos (List.mem_append_right _ (by rw [y]; exact List.mem_singleton.mpr rfl))]
      exact if_pos y
    · rw [if_neg (fun m => (List.mem_append.mp m).elim z fun m => y (List.mem_singleton.mp m))]
      exact if_neg y
def endP (p : Pr) (code : Int) : Pr := { p with who := none, code := some code, ado := false, stp := false }
def endE (E : List Ent) (n : Int) (p : Pr) (code : Int) : List Ent := setE (parE E ((famE E).kids n) (heir (famE E) n)) n (endP p code)
section
variable {K : PySem.W.Frag} {σ : L2.St} {H : Hp} {CW CP tP wa pd ad fi th pi si ar dx : Addr} {ser : Int} {R : List Addr} {E : List Ent} {A : List (Int × PyData)} {n : Int} {pa : Addr} {p p' : Pr} {ta te : TE} {v : V} {D : Ends}
theorem s_pset {f : Str} (TP : PT K CP) (W : WAd H CW CP tP R wa pd ad fi th pi si ar dx ser E A) (l : E.lookup n = some (pa, p)) (hv : Ev te σ H v) (ho : Ev ta σ H (.ref pa)) (no : NoAttr K CP f) (hput : ∀ vc ca ha, putF f v (prFs n p vc ca ha) = prFs n p' vc ca ha) (hwho : p'.who = p.who)
    (k : ∀ H1, Fr R H H1 → WAd H1 CW CP tP R wa pd ad fi th pi si ar dx ser (setE E n p') A → D.nx σ H1) : sFld K ta te f D σ H := q_pset (tz := fun D σ H => D.nx σ H) (D := D) TP W l hv ho no hput hwho k
end
theorem kids_who {E : List Ent} {n m : Int} {pa : Addr} {p p' : Pr} (l : E.lookup n = some (pa, p)) (h : p'.par = p.par) : (famE (setE E n p')).kids m = (famE E).kids m := by
  unfold Fam.kids
  have e1 : (famE (setE E n p')).sorted = (famE E).sorted := by
    unfold Fam.sorted
    rw [fam_keys, fam_keys, set_keys]
  rw [e1]
  refine List.filter_congr fun k _ => ?_
  have e2 : ((famE (setE E n p')).at k).bind (·.par) = ((famE E).at k).bind (·.par) := by
    by_cases z : k = n
    · rw [z, fam_in (look_set l), fam_in l]
      exact h
    · rw [fam_at, fam_at, look_set_ne z]
  rw [e2]
end K02
set_option Elab.async false
set_option linter.all false
set_option maxRecDepth 100000
set_option maxHeartbeats 4000000
namespace K02
open PySem PySem.Spec PyProof.Rows L2 Evl KB
abbrev sEndProcess : Stmt := topS 53
abbrev nEndProcess : List Str := ["world", "process", "code", "heir", "number", "child"]
theorem scEndProcess : FnScope nEndProcess ["world", "process", "code"] (defScope sEndProcess) := ⟨rfl, rfl, rfl, by decide +kernel, rfl, by decide +kernel, by decide +kernel⟩
abbrev sDoEnd : Stmt := topS 54
abbrev nDoEnd : List Str := ["world", "caller", "code"]
theorem scDoEnd : FnScope nDoEnd ["world", "caller", "code"] (defScope sDoEnd) := ⟨rfl, rfl, rfl, by decide +kernel, rfl, by decide +kernel, by decide +kernel⟩
theorem adop_core {S S' : Fam} (nd : S.keys.Nodup) (h : core S' = core S) : ∀ (k : Nat) (m : Int), adopF S' k m = adopF S k m
  | 0, _ => rfl
  | k + 1, m => by
    have nd' : S'.keys.Nodup := by rw [core_keys, h, ← core_keys]; exact nd
    show (match S'.at m with | some q => if q.ado = true then m else (match q.par with | some m' => adopF S' k m' | none => m) | none => m) = (match S.at m with | some q => if q.ado = true then m else (match q.par with | some m' => adopF S k m' | none => m) | none => m)
    cases z : S'.at m with
    | none =>
      have z2 : S.at m = none := by
        cases y : S.at m with
        | none => rfl
        | some q =>
          obtain ⟨i, hi⟩ := idx_at y
          obtain ⟨q', h1, _⟩ := core_at h.symm hi
          rw [at_idx nd' h1] at z
          cases z
      rw [z2]
    | some q =>
      obtain ⟨i, hi⟩ := idx_at z
      obtain ⟨q', h1, h2, h3, h4⟩ := core_at h hi
      rw [at_idx nd h1]
      show (if q.ado = true then m else (match q.par with | some m' => adopF S' k m' | none => m)) = (if q'.ado = true then m else (match q'.par with | some m' => adopF S k m' | none => m))
      rw [← h2, ← h3]
      cases q'.par with
      | none => rfl
      | some m' =>
        show (if q'.ado = true then m else adopF S' k m') = (if q'.ado = true then m else adopF S k m')
        rw [adop_core nd h k m']
theorem end_who {E : List Ent} (nd : (E.map (·.1)).Nodup) {n : Int} {pa : Addr} {p : Pr} (l : E.lookup n = some (pa, p)) (code : Int) : endE (setE E n { p with who := none }) n { p with who := none } code = endE E n p code := by
  have hk : (famE (setE E n { p with who := none })).kids n = (famE E).kids n := kids_who l rfl
  have hc : core (famE (setE E n { p with who := none })) = core (famE E) := core_set nd l rfl rfl rfl
  have hh : heir (famE (setE E n { p with who := none })) n = heir (famE E) n := by
    unfold heir
    rw [fam_in (look_set l), fam_in l]
    exact adop_core (by rw [fam_keys]; exact nd) hc 64 _
  unfold endE
  rw [hk, hh]
  show setE _ n (endP p code) = _
  unfold setE parE
  rw [List.map_map, List.map_map, List.map_map]
  refine List.map_congr_left fun e _ => ?_
  show (fun e : Ent => if e.1 = n then (e.1, e.2.1, endP p code) else e) ((fun e : Ent => if e.1 ∈ (famE E).kids n then (e.1, e.2.1, { e.2.2 with par := some (heir (famE E) n) }) else e) (if e.1 = n then (e.1, e.2.1, { p with who := none }) else e)) = (fun e : Ent => if e.1 = n then (e.1, e.2.1, endP p code) else e) (if e.1 ∈ (famE E).kids n then (e.1, e.2.1, { e.2.2 with par := some (heir (famE E) n) }) else e)
  by_cases z : e.1 = n
  · rw [if_pos z]
    by_cases y : e.1 ∈ (famE E).kids n
    · simp only [if_pos y, if_pos z]
    · simp only [if_neg y, if_pos z]
  · rw [if_neg z]
def spEndProcess (CW CP tP : Addr) : Sp := fun vs H Q _ => ∃ R wa E A n pa p code, vs = [.ref wa, .ref pa, .int code] ∧ WAt H CW CP tP R wa E A ∧ E.length < 64 ∧ E.lookup n = some (pa, p) ∧ n ≠ 1 ∧ Ord (famE E) ∧ ∀ H', Sw H CW CP tP R wa (endE E n p code) A H' → Q .non H'
def doEndE (E : List Ent) (n : Int) (p : Pr) (code : Int) : List Ent × PyData := if n = 1 then (E, refD "first") else (endE E n p code, toldD .none)
def spDoEnd (CW CP tP : Addr) : Sp := fun vs H Q _ => ∃ R wa E A n pa p code, vs = [.ref wa, .ref pa, .int code] ∧ WAt H CW CP tP R wa E A ∧ E.length < 64 ∧ E.lookup n = some (pa, p) ∧ p.who = none ∧ Ord (famE E) ∧ RetE H CW CP tP R wa (doEndE E n p code).1 A (doEndE E n p code).2 Q
section
variable {P : Program} {w : World} {K : PySem.W.Frag} {mg : Str → Option Value} {base : Heap} {CW CP tP f : Addr} {fd : FuncData} {t0 : Tok}
theorem ok_endProcess (F : Fun K "end_process" "end_process" sEndProcess f fd) (TW : WT K CW) (TP : PT K CP) (G_leave_row : Kf P w K mg base 2 "leave_row" ["world", "process"] (spLeaveRow CW CP tP)) (G_adopter_above : Kf P w K mg base 1 "adopter_above" ["world", "process"] (spAdopterAbove CW CP tP)) (G_children : Kf P w K mg base 1 "children" ["world", "number"] (spChildren CW CP tP)) (G_sweep : Kf P w K mg base 5 "sweep" ["world"] (spSweep CW CP tP)) : FnOk P w K mg base CX0 6 f fd ["world", "process", "code"] (spEndProcess CW CP tP) := by
  refine F.ok scEndProcess (fun vs H Q E h => ?_) (fun cdv A outer s H vs Q E hr h => ?_)
  · obtain ⟨R, wa, E, A, n, pa, p, code, rfl, _⟩ := h
    rfl
  · obtain ⟨R, wa, E, A, n, pa, p, code, rfl, W0, few, l, hn, O, q⟩ := h
    have nd := scEndProcess.nd
    have hu := hu_of hr
    refine ⟨_, (pss_cons (ps_expr (pe_fn G_leave_row (hr.mono (by decide)) (pa_cons (pv 0) (pa_cons (pv 1) pa_nil))))
      (pss_cons (ps_set (i := 3) nd rfl (by first | exact .inl rfl | exact .inr rfl) (pe_fn G_adopter_above (hr.mono (by decide)) (pa_cons (pv 0) (pa_cons (pv 1) pa_nil))))
      (pss_cons (ps_for PassesOwn.never rfl (pi_list (pe_fn G_children (hr.mono (by decide)) (pa_cons (pv 0) (pa_cons (pe_fld (pv 1) rfl) pa_nil)))) (pg_name (i := 4) nd rfl (by first | exact .inl rfl | exact .inr rfl)) (pss_cons (ps_set (i := 5) nd rfl (by first | exact .inl rfl | exact .inr rfl) (pe_dget hu (pe_fld (pv 0) rfl) (pv 4) (fun _ _ => rfl)))
      (pss_one (ps_fld (pv 5) (pv 3) rfl))))
      (pss_cons (ps_fld (pv 1) (pv 2) rfl)
      (pss_cons (ps_fld (pv 1) pe_bl rfl)
      (pss_cons (ps_fld (pv 1) pe_bl rfl)
      (pss_cons (ps_fld (pv 1) (pe_lst pa_nil) rfl)
      (pss_cons (ps_fld (pv 1) pe_dnewK rfl)
      (pss_one (ps_expr (pe_fn G_sweep (hr.mono (by decide)) (pa_cons (pv 0) pa_nil)))))))))))), ?_⟩
    refine q_exC (ea_cons (ev_var rfl) (ea_cons (ev_var rfl) ea_nil)) fun H1 e1 => ⟨R, wa, E, A, n, pa, p, rfl, W0.ex e1, l, fun H2 f2 W2 => ?_⟩
    have nd0 : (E.map (·.1)).Nodup := by
      obtain ⟨_, _, _, _, _, _, _, _, _, W⟩ := W0
      exact W.keys
    have len0 : (setE E n { p with who := none }).length < 64 := by
      unfold setE
      rw [List.length_map]
      exact few
    obtain ⟨E, p, nd0, W2, few, l, hwho, O, q⟩ : ∃ (E' : List Ent) (p' : Pr), (E'.map (·.1)).Nodup ∧ WAt H2 CW CP tP R wa E' A ∧ E'.length < 64 ∧ E'.lookup n = some (pa, p') ∧ p'.who = none ∧ Ord (famE E') ∧ ∀ H', Sw H CW CP tP R wa (endE E' n p' code) A H' → Q .non H' :=
      ⟨setE E n { p with who := none }, { p with who := none }, by rw [set_keys]; exact nd0, W2, len0, look_set l, rfl, O.sim (core_set nd0 l rfl rfl rfl), by rw [end_who nd0 l]; exact q⟩
    obtain ⟨pd, ad, fi, th, pi, si, ar, dx, ser, W⟩ := W2
    have F2 : Fr R H H2 := (Fr.same e1).trans f2
    have W2 : WAt H2 CW CP tP R wa E A := ⟨pd, ad, fi, th, pi, si, ar, dx, ser, W⟩
    have c1 : SpV (spAdopterAbove CW CP tP) ([.ref wa, .ref pa] ++ []) H2 (.int (heir (famE E) n)) := fun H3 e3 Q q E' => ⟨R, wa, E, A, n, pa, p, rfl, W2.ex e3, l, hn, O, q⟩
    refine q_asg (ev_call (ea_cons (ev_var rfl) (ea_cons (ev_var rfl) ea_nil)) c1) fun H3 e3 => ?_
    have pf := ev_pf TP ((W.ex e3).rec1 l) (ev_var (σ := [some (.ref wa), some (.ref pa), some (.int code), some (.int (heir (famE E) n)), none, none]) (i := 1) rfl)
    have c2 : SpL (spChildren CW CP tP) ([.ref wa, .int n] ++ []) H3 (((famE E).kids n).map V.int) := fun H4 e4 Q q E' => ⟨R, wa, E, A, n, rfl, (W2.ex e3).ex e4, few, q⟩
    have nkids : n ∉ (famE E).kids n := fun m => by
      obtain ⟨m1, m2⟩ := List.mem_filter.mp m
      have m2 := of_decide_eq_true m2
      obtain ⟨i, j, m', q', hi, hj, hm, hp, ha, hc⟩ := parent_of O (fam_in l) hn
      rw [fam_in l] at m2
      have m2 : p.par = some n := m2
      rw [hp] at m2
      have m3 := Option.some.inj m2
      rw [m3] at hm
      have nd' := O.nd
      unfold Fam.keys at nd'
      have a1 : ((famE E).map (·.1))[i]? = some n := by rw [List.getElem?_map, hi]; rfl
      have a2 : ((famE E).map (·.1))[j]? = some n := by rw [List.getElem?_map, hm]; rfl
      have := (List.getElem?_inj (List.getElem?_eq_some_iff.mp a1).1 nd').mp (a1.trans a2.symm)
      omega
    refine q_forNLn (el_call (ea_cons (ev_var rfl) (ea_cons pf.num ea_nil)) c2) (fun r i σ G => (∃ x y, σ = [some (.ref wa), some (.ref pa), some (.int code), some (.int (heir (famE E) n)), x, y]) ∧ Fr R H G ∧ r ∉ R ∧ G r = some (.lst (((famE E).kids n).map V.int)) ∧ WAd G CW CP tP R wa pd ad fi th pi si ar dx ser (parE E (((famE E).kids n).take i) (heir (famE E) n)) A) (fun r G nr eG gr => ⟨⟨_, _, rfl⟩, F2.trans (Fr.same (e3.trans eG)), fun m => ?_, gr, ?_⟩) (fun r i σ' G _ h => sq_of h.2.2.2.1) ?_ ?_
    · obtain ⟨o, ho⟩ := (W.ex e3).alo r m
      rw [nr] at ho
      cases ho
    · rw [List.take_zero, par_nil]
      exact (W.ex e3).ex eG
    · rintro r i x σ' G hx ⟨⟨y1, y2, rfl⟩, fG, nrR, gr, WG⟩
      rw [List.getElem?_map] at hx
      obtain ⟨k, ek, rfl⟩ := Option.map_eq_some_iff.mp hx
      have mk := (List.mem_filter.mp (List.mem_of_getElem? ek)).1
      obtain ⟨ka, kp, kl, _⟩ := look_some (mem_sorted.mp mk)
      have kl2 := par_look E (((famE E).kids n).take i) (heir (famE E) n) k
      rw [kl] at kl2
      have hex : ∃ ka kp, (parE E (((famE E).kids n).take i) (heir (famE E) n)).lookup k = some (ka, kp) := ⟨_, _, kl2⟩
      obtain ⟨ka, kp, kl2⟩ := hex
      refine q_asg (ev_proc TW WG (ev_var rfl) (ev_var rfl) kl2) fun G1 eg1 => ?_
      refine s_pset (p' := { kp with par := some (heir (famE E) n) }) TP (WG.ex eg1) kl2 (ev_var rfl) (ev_var rfl) TP.n2 (fun vc ca ha => rfl) rfl fun G2 f2 W2 => ?_
      rw [par_step nd0 kl2] at W2
      refine ⟨⟨_, _, rfl⟩, fG.trans ((Fr.same eg1).trans f2), nrR, f2 _ _ (eg1 _ _ gr) (.inl nrR), ?_⟩
      rw [List.take_add_one, ek]
      exact W2
    · rintro r σ' G ⟨⟨y1, y2, rfl⟩, fG, nrR, gr, WG⟩
      rw [List.length_map, List.take_length] at WG
      have lG : (parE E ((famE E).kids n) (heir (famE E) n)).lookup n = some (pa, p) := by
        rw [par_look, l]
        show some (if n ∈ (famE E).kids n then _ else (pa, p)) = _
        rw [if_neg nkids]
      generalize hE1 : parE E ((famE E).kids n) (heir (famE E) n) = E1 at WG lG
      refine q_pset (p' := { p with code := some code }) TP WG lG (ev_var rfl) (ev_var rfl) TP.n7 (fun vc ca ha => rfl) rfl fun G1 f1 W1 => ?_
      refine q_pset (p' := { p with code := some code, ado := false }) TP W1 (look_set lG) ev_c (ev_var rfl) TP.n5 (fun vc ca ha => rfl) rfl fun G2 f2 W2 => ?_
      rw [set_set] at W2
      refine q_pset (p' := { p with code := some code, ado := false, stp := false }) TP W2 (look_set lG) ev_c (ev_var rfl) TP.n6 (fun vc ca ha => rfl) rfl fun G3 f3 W3 => ?_
      rw [set_set] at W3
      have F3 : Fr R H G3 := fG.trans (f1.trans (f2.trans f3))
      have l3 := look_set (p' := { p with code := some code, ado := false, stp := false }) lG
      obtain ⟨d1, v1, c1, g1, s1, k1, k2, k3, k4, k5, k6, k7, k8⟩ := (W3.rec1 l3).is
      refine q_fldL (el_lst ea_nil (by show 0 ≤ 100000; omega)) (ev_var rfl) k1 TP.cls TP.n9 (by show 10 < 1000; omega) fun cc G4 ncc e4 gcc => ?_
      have W4 := (W3.ex e4).more (R' := cc :: R) (fun b m => List.mem_cons_of_mem _ m) fun b m => (List.mem_cons.mp m).elim (fun z => .inr ⟨.lst [], by rw [z]; exact gcc⟩) .inl
      have k2' := k2.fr (F := []) (Fr.same e4)
      obtain ⟨W5, f5⟩ := W4.set (p' := { p with code := some code, ado := false, stp := false }) (vc' := v1) (ca' := cc) (ha' := g1) l3 (e4 _ _ k1) k2' gcc (by show 0 ≤ 4; omega) (e4 _ _ k5) k6 List.mem_cons_self (List.mem_cons_of_mem _ k8)
      rw [set_set] at W5
      have ncH : cc ∈ R ∨ H cc = none := fr_back F3 ncc
      have t5 : ∀ b ∈ cc :: R, b ∈ R ∨ H b = none := fun b m => (List.mem_cons.mp m).elim (fun z => by rw [z]; exact ncH) .inl
      have F5 : Fr R H (upd G4 pa (.ins CP d1 (prFs n { p with code := some code, ado := false, stp := false } v1 cc g1))) := (F3.trans (Fr.same e4)).comp f5 fun b m => by rw [List.mem_singleton.mp m]; exact .inl (W3.rec1 l3).inR
      show tSeq _ _ _ _ (upd G4 pa (.ins CP d1 (prFs n { p with code := some code, ado := false, stp := false } v1 cc g1)))
      generalize upd G4 pa (.ins CP d1 (prFs n { p with code := some code, ado := false, stp := false } v1 cc g1)) = G5 at W5 F5 ⊢
      obtain ⟨d6, v6, c6, g6, s6, j1, j2, j3, j4, j5, j6, j7, j8⟩ := (W5.rec1 l3).is
      refine q_fldD ed_new (ev_var rfl) j1 TP.cls TP.n10 (by show 10 < 1000; omega) fun hh G6 nhh e6 ghh => ?_
      have W6 := (W5.ex e6).more (R' := hh :: cc :: R) (fun b m => List.mem_cons_of_mem _ m) fun b m => (List.mem_cons.mp m).elim (fun z => .inr ⟨.dK [], by rw [z]; exact ghh⟩) .inl
      have j2' := j2.fr (F := []) (Fr.same e6)
      have nha : hh ≠ ad := fun z => by
        obtain ⟨vs, a1, _⟩ := W5.ans
        rw [← z, nhh] at a1
        cases a1
      obtain ⟨W7, f7⟩ := W6.set (p' := { p with code := some code, ado := false, stp := false }) (vc' := v6) (ca' := c6) (ha' := hh) l3 (e6 _ _ j1) j2' (e6 _ _ j3) j4 ghh nha (List.mem_cons_of_mem _ j7) List.mem_cons_self
      rw [set_set] at W7
      have nhH : hh ∈ R ∨ H hh = none := fr_back F5 nhh
      have t7 : ∀ b ∈ hh :: cc :: R, b ∈ R ∨ H b = none := fun b m => (List.mem_cons.mp m).elim (fun z => by rw [z]; exact nhH) (t5 b)
      have F7 : Fr R H (upd G6 pa (.ins CP d6 (prFs n { p with code := some code, ado := false, stp := false } v6 c6 hh))) := (F5.trans (Fr.same e6)).comp f7 fun b m => by rw [List.mem_singleton.mp m]; exact .inl (W3.rec1 l3).inR
      have eF : endE E n p code = setE E1 n { p with code := some code, ado := false, stp := false } := by
        unfold endE endP
        rw [hE1]
        congr 1
        cases p
        simp only at hwho
        rw [hwho]
      show tDrop _ _ _ (upd G6 pa (.ins CP d6 (prFs n { p with code := some code, ado := false, stp := false } v6 c6 hh)))
      refine s_exC (ea_cons (ev_var rfl) ea_nil) fun G8 e8 => ⟨hh :: cc :: R, wa, _, A, rfl, ⟨pd, ad, fi, th, pi, si, ar, dx, ser, W7.ex e8⟩, fun G9 S9 => q G9 ?_⟩
      rw [eF]
      obtain ⟨R9, f9, s9, t9, W9⟩ := S9
      have F8 := F7.trans (Fr.same e8)
      refine ⟨R9, F8.comp f9 t7, fun b m => s9 b (List.mem_cons_of_mem _ (List.mem_cons_of_mem _ m)), fun b m => ?_, W9⟩
      rcases t9 b m with z | z
      · exact t7 b z
      · exact fr_back F8 z
theorem ok_doEnd (F : Fun K "do_end" "do_end" sDoEnd f fd) (TP : PT K CP) (G_end_process : Kf P w K mg base 6 "end_process" ["world", "process", "code"] (spEndProcess CW CP tP)) (c_FIRST : mg "FIRST" = some (.int 1 t0)) : FnOk P w K mg base CX0 7 f fd ["world", "caller", "code"] (spDoEnd CW CP tP) := by
  refine F.ok scDoEnd (fun vs H Q E h => ?_) (fun cdv A outer s H vs Q E hr h => ?_)
  · obtain ⟨R, wa, E, A, n, pa, p, code, rfl, _⟩ := h
    rfl
  · obtain ⟨R, wa, E, A, n, pa, p, code, rfl, W0, few, l, hwho, O, q⟩ := h
    have nd := scDoEnd.nd
    refine ⟨_, (pss_cons (ps_if (pt_cmpR op_eq (pe_fld (pv 1) rfl) (pe_glob (v := .int 1) rfl c_FIRST ⟨_, rfl⟩) (nomark _)) (pss_one (ps_ret (pe_tup (pa_cons pe_str (pa_cons pe_str pa_nil))))) pss_nil)
      (pss_cons (ps_expr (pe_fn G_end_process (hr.mono (by decide)) (pa_cons (pv 0) (pa_cons (pv 1) (pa_cons (pv 2) pa_nil)))))
      (pss_one (ps_ret (pe_tup (pa_cons pe_str (pa_cons pe_non pa_nil))))))), ?_⟩
    have W0' := W0
    obtain ⟨pd, ad, fi, th, pi, si, ar, dx, ser, W⟩ := W0'
    have pf := ev_pf TP (W.rec1 l) (ev_var (σ := start nDoEnd [.ref wa, .ref pa, .int code]) (i := 1) rfl)
    unfold doEndE at q
    refine q_when (b := decide (n = 1)) (et_is (et_test (ev_op pf.num ev_c (rv_eq rfl))) (by simp)) (fun hb H1 e1 => ?_) (fun hb H1 e1 => ?_)
    · rw [if_pos (of_decide_eq_true hb)] at q
      exact s_retG eg_ref fun v H2 e2 g => q.of W0 (e1.trans e2) g
    · have hn := of_decide_eq_false hb
      rw [if_neg hn] at q
      refine q_exC (ea_cons (ev_var rfl) (ea_cons (ev_var rfl) (ea_cons (ev_var rfl) ea_nil))) fun H2 e2 => ⟨R, wa, E, A, n, pa, p, code, rfl, (W0.ex e1).ex e2, few, l, hn, O, fun H3 S3 => ?_⟩
      obtain ⟨R3, f3, s3, t3, W3⟩ := S3
      exact s_retG (eg_told (eg_v ev_c .non)) fun v H4 e4 g => q v H4 R3 ((Fr.same (e1.trans e2)).trans (f3.trans (Fr.same e4))) s3 (fun b m => (t3 b m).imp id (fresh_back (e1.trans e2))) (W3.ex e4) g
end
end K02
set_option Elab.async false
set_option linter.all false
set_option maxRecDepth 100000
set_option maxHeartbeats 4000000
namespace L2
open PySem PySem.Spec PyProof.Rows
/-- y(e, .., *z), y a local name that holds some def whose promise is known -/
def tCallH (X : Cx) (k i : Nat) (t : TA) : TE := fun σ H Q => ∃ f sp, σ[i]? = some (some (.ref f)) ∧ Held X.prog X.w X.K X.mg X.base k f sp ∧ t σ H fun vs H1 => sp vs H1 Q (fun _ _ _ => False)
section
variable {X : Cx} {k i : Nat} {x : Str} {p pos : Pos} {e : Expr} {es : List Expr} {t : TA}
theorem pe_callSH (hr : Room k X.A) (hN : X.N[i]? = some x) (hv : Vis X.env.scope x) (ha : PA X (e :: es) t) (h1 : (x == ("__debug__" : Str)) = false := by decide) (h2 : (x == ("__classdict__" : Str)) = false := by decide)
    (he : starEach (e :: es) X.env = (false, eval e X.env) :: starEach es X.env := by rfl) (hst : (backTo pos (starEach es X.env)).any (·.1) = true := by rfl) : PE X (.Call (.Name x p) (e :: es) [] pos) (tCallH X k i t) := by
  refine ⟨fun pins s σ H Q J h => ?_⟩
  obtain ⟨f, sp, hs, hh, ht⟩ := h
  obtain ⟨fd, ps, F, hk, hb⟩ := hh.ex
  refine wpAny_Call_Name_kw (thn ((pe_var (pos := p) hN hv h1 h2).run pins s σ H (fun v G => v = .ref f ∧ G = H) J ⟨.ref f, hs, rfl, rfl⟩) fun u s1 ⟨v, G, J1, r1, q1⟩ => ?_)
  obtain ⟨rfl, rfl⟩ := q1
  cases r1
  refine PySem.W.callWith_S2 (h₀ := X.base) J.ok.mod.kin hk (thn (ha.run pos pins s1 σ _ _ J1 ht) fun us s2 ⟨vs, G2, J2, r, q⟩ => ⟨J2.kIn, ?_⟩) he hst
  refine run_fn (dvs := []) (E := fun _ _ _ => False) F hr hb .nil (fun _ _ _ _ _ _ _ z => z.elim) J2 r ?_
  rw [List.append_nil]
  exact q
end
end L2
namespace K02
open PySem PySem.Spec PyProof.Rows L2 Evl KB
/-- the calls of families -/
inductive Cl
  | fork (n : Int) | lead | adopt | join (who g : Int) | fin (c : Int) | wait (who : Int) | about (who : Int)
def Cl.name : Cl → Str
  | .fork _ => "fork" | .lead => "lead" | .adopt => "adopt" | .join _ _ => "join" | .fin _ => "end" | .wait _ => "wait" | .about _ => "about"
def Cl.args : Cl → List Int
  | .fork n => [n] | .lead => [] | .adopt => [] | .join who g => [who, g] | .fin c => [c] | .wait who => [who] | .about who => [who]
def Cl.vals (c : Cl) : List V := .str c.name :: c.args.map V.int
def Cl.fn : Cl → Str
  | .fork _ => "do_fork" | .lead => "do_lead" | .adopt => "do_adopt" | .join _ _ => "do_join" | .fin _ => "do_end" | .wait _ => "do_wait" | .about _ => "do_about"
def perfE (E : List Ent) (n : Int) (p : Pr) (c : Cl) (x : Addr) : List Ent × PyData := match c with
  | .fork new => forkE E n p new x
  | .lead => leadE E n p
  | .adopt => adoptE E n p
  | .join who g => joinE E n who g
  | .fin code => doEndE E n p code
  | .wait who => doWaitE E n p who
  | .about who => (E, aboutD (famE E) who)
/-- the table of the calls of families -/
structure FamC (K : PySem.W.Frag) (w : World) (mg : Str → Option Value) : Prop where
  ex : ∃ d es n, mg "FAMILY_CALLS" = some (.ref d) ∧ KDict K w d es n ∧ ∀ c : Cl, ∃ f, PySem.W.nsIn K d c.name = some (some (.ref f)) ∧ mg c.fn = some (.ref f)
theorem cut_one (x : V) (xs : List V) : cutV (x :: xs) (some 1) none = xs := by
  unfold cutV
  rw [show HT.sIx (x :: xs).length 0 (some 1) = min 1 (x :: xs).length from HT.sIx_nat (x :: xs).length 0 1, HT.sIx_none, List.length_cons]
  rw [show min 1 (xs.length + 1) = 1 by omega]
  show xs.take (xs.length + 1 - 1) = xs
  rw [Nat.add_sub_cancel, List.take_length]
theorem cut_part (x : V) (xs : List V) : ¬ (HT.sIx (x :: xs).length 0 (some 1) = 0 ∧ HT.sIx (x :: xs).length (x :: xs).length none = (x :: xs).length) := fun z => by
  have e := z.1
  rw [show HT.sIx (x :: xs).length 0 (some 1) = min 1 (x :: xs).length from HT.sIx_nat (x :: xs).length 0 1, List.length_cons] at e
  omega
abbrev sPerform : Stmt := topS 88
abbrev nPerform : List Str := ["world", "caller", "call", "name", "rest", "family_call", "thing_call"]
theorem scPerform : FnScope nPerform ["world", "caller", "call"] (defScope sPerform) := ⟨rfl, rfl, rfl, by decide +kernel, rfl, by decide +kernel, by decide +kernel⟩
def spPerform (CW CP tP : Addr) : Sp := fun vs H Q _ => ∃ R wa E A n pa p t c, vs = [.ref wa, .ref pa, .ref t] ∧ H t = some (.tup (Cl.vals c)) ∧ WAt H CW CP tP R wa E A ∧ E.length < 63 ∧ E.lookup n = some (pa, p) ∧ p.code = none ∧ p.who = none ∧ Ord (famE E) ∧ ∀ x, RetE H CW CP tP R wa (perfE E n p c x).1 A (perfE E n p c x).2 Q
section
variable {P : Program} {w : World} {K : PySem.W.Frag} {mg : Str → Option Value} {base : Heap} {CW CP tP f : Addr} {fd : FuncData} {t0 : Tok}
theorem kf_held {L : Nat} {x : Str} {ps : List Str} {sp : Sp} (G : Kf P w K mg base L x ps sp) {f : Addr} (h : mg x = some (.ref f)) : ∃ k ≤ L, Held P w K mg base k f sp := by
  obtain ⟨k, f', fd, hk, F, b, kp, m⟩ := G.ex
  rw [h] at m
  cases m
  exact ⟨k, hk, fd, ps, F, kp, b⟩
theorem held_mono {j k : Nat} {f : Addr} {sp : Sp} (h : Held P w K mg base j f sp) (hk : j ≤ k) : Held P w K mg base k f sp := by
  obtain ⟨fd, ps, F, kp, b⟩ := h.ex
  exact ⟨fd, ps, F.mono hk, kp, b⟩

theorem q_asgR {te : TE} {tz : TS} {D : Ends} {σ : L2.St} {H : Hp} {i : Nat} (h : te σ H (fun v H1 => tz D (σ.set i (some v)) H1)) : tSeq (tAsg te (gName i)) tz D σ H := h
/-- what the def of a call promises -/
theorem fam_held {L : Nat} (hL : 7 ≤ L) (T : FamC K w mg) (G_fork : Kf P w K mg base 3 "do_fork" ["world", "caller", "new"] (spDoFork CW CP tP)) (G_lead : Kf P w K mg base 2 "do_lead" ["world", "caller"] (spDoLead CW CP tP)) (G_adopt : Kf P w K mg base 2 "do_adopt" ["world", "caller"] (spDoAdopt CW CP tP))
    (G_join : Kf P w K mg base 3 "do_join" ["world", "caller", "who", "group"] (spDoJoin CW CP tP)) (G_end : Kf P w K mg base 7 "do_end" ["world", "caller", "code"] (spDoEnd CW CP tP)) (G_wait : Kf P w K mg base 5 "do_wait" ["world", "caller", "who"] (spDoWait CW CP tP)) (G_about : Kf P w K mg base 2 "do_about" ["world", "caller", "who"] (spDoAbout CW CP tP)) :
    ∃ d es n, mg "FAMILY_CALLS" = some (.ref d) ∧ KDict K w d es n ∧ ∀ c : Cl, ∃ f sp, PySem.W.nsIn K d c.name = some (some (.ref f)) ∧ Held P w K mg base L f sp ∧
      ∀ H Q R wa E A n pa p, WAt H CW CP tP R wa E A → E.length < 63 → E.lookup n = some (pa, p) → p.code = none → p.who = none → Ord (famE E) → (∀ x, RetE H CW CP tP R wa (perfE E n p c x).1 A (perfE E n p c x).2 Q) → sp (.ref wa :: .ref pa :: c.args.map V.int) H Q (fun _ _ _ => False) := by
  obtain ⟨d, es, n, m, D, h⟩ := T.ex
  refine ⟨d, es, n, m, D, fun c => ?_⟩
  obtain ⟨f, h1, h2⟩ := h c
  cases c with
  | fork new =>
    obtain ⟨k, hk, hh⟩ := kf_held G_fork h2
    exact ⟨f, _, h1, held_mono hh (by omega), fun H Q R wa E A n pa p W few l hc hw O q => ⟨R, wa, E, A, n, pa, p, new, rfl, W, few, l, q⟩⟩
  | lead =>
    obtain ⟨k, hk, hh⟩ := kf_held G_lead h2
    exact ⟨f, _, h1, held_mono hh (by omega), fun H Q R wa E A n pa p W few l hc hw O q => ⟨R, wa, E, A, n, pa, p, rfl, W, by omega, l, q 0⟩⟩
  | adopt =>
    obtain ⟨k, hk, hh⟩ := kf_held G_adopt h2
    exact ⟨f, _, h1, held_mono hh (by omega), fun H Q R wa E A n pa p W few l hc hw O q => ⟨R, wa, E, A, n, pa, p, rfl, W, by omega, l, q 0⟩⟩
  | join who g =>
    obtain ⟨k, hk, hh⟩ := kf_held G_join h2
    exact ⟨f, _, h1, held_mono hh (by omega), fun H Q R wa E A n pa p W few l hc hw O q => ⟨R, wa, E, A, n, pa, p, who, g, rfl, W, by omega, l, q 0⟩⟩
  | fin code =>
    obtain ⟨k, hk, hh⟩ := kf_held G_end h2
    exact ⟨f, _, h1, held_mono hh (by omega), fun H Q R wa E A n pa p W few l hc hw O q => ⟨R, wa, E, A, n, pa, p, code, rfl, W, by omega, l, hw, O, q 0⟩⟩
  | wait who =>
    obtain ⟨k, hk, hh⟩ := kf_held G_wait h2
    exact ⟨f, _, h1, held_mono hh (by omega), fun H Q R wa E A n pa p W few l hc hw O q => ⟨R, wa, E, A, n, pa, p, who, rfl, W, by omega, l, hc, q 0⟩⟩
  | about who =>
    obtain ⟨k, hk, hh⟩ := kf_held G_about h2
    exact ⟨f, _, h1, held_mono hh (by omega), fun H Q R wa E A n pa p W few l hc hw O q => ⟨R, wa, E, A, .ref pa, who, rfl, W, fun v H2 e2 g => (q 0) v H2 R (Fr.same e2) (fun b m => m) (fun b m => .inl m) (W.ex e2) g⟩⟩
theorem ok_perform (F : Fun K "perform" "perform" sPerform f fd) (T : FamC K w mg) (G_do_fork : Kf P w K mg base 3 "do_fork" ["world", "caller", "new"] (spDoFork CW CP tP)) (G_do_lead : Kf P w K mg base 2 "do_lead" ["world", "caller"] (spDoLead CW CP tP)) (G_do_adopt : Kf P w K mg base 2 "do_adopt" ["world", "caller"] (spDoAdopt CW CP tP)) (G_do_join : Kf P w K mg base 3 "do_join" ["world", "caller", "who", "group"] (spDoJoin CW CP tP)) (G_do_end : Kf P w K mg base 7 "do_end" ["world", "caller", "code"] (spDoEnd CW CP tP)) (G_do_wait : Kf P w K mg base 5 "do_wait" ["world", "caller", "who"] (spDoWait CW CP tP)) (G_do_about : Kf P w K mg base 2 "do_about" ["world", "caller", "who"] (spDoAbout CW CP tP)) : FnOk P w K mg base CX0 8 f fd ["world", "caller", "call"] (spPerform CW CP tP) := by
  obtain ⟨d, es, nn, c_FAM, D, held⟩ := fam_held (L := 7) (Nat.le_refl 7) T G_do_fork G_do_lead G_do_adopt G_do_join G_do_end G_do_wait G_do_about
  refine F.ok scPerform (fun vs H Q E h => ?_) (fun cdv A outer s H vs Q E hr h => ?_)
  · obtain ⟨R, wa, E, A, n, pa, p, t, c, rfl, _⟩ := h
    rfl
  · obtain ⟨R, wa, E, A, n, pa, p, t, c, rfl, ht, W0, few, l, hc, hw, O, q⟩ := h
    have nd := scPerform.nd
    refine ⟨_, (pss_cons (ps_set (i := 3) nd rfl (by first | exact .inl rfl | exact .inr rfl) (pe_ix ix_seq (pv 2) pe_int (fun _ _ => rfl)))
      (pss_cons (ps_set (i := 4) nd rfl (by first | exact .inl rfl | exact .inr rfl) (pe_slice sl_tupA (pv 2) (po_some pe_int) po_none))
      (pss_cons (ps_if (pt_cmpR (op_in_kd D) (pv 3) (pe_glob (v := .ref d) rfl c_FAM rfl) (by rfl)) (pss_cons (ps_set (i := 5) nd rfl (by first | exact .inl rfl | exact .inr rfl) (pe_ix ix_kdict (pe_glob (v := .ref d) rfl c_FAM rfl) (pv 3) (fun _ _ => rfl)))
      (pss_one (ps_ret (pe_callSH (k := 7) (i := 5) hr rfl (by first | exact .inl rfl | exact .inr rfl) (pa_cons (pv 0) (pa_cons (pv 1) (StX.pa_star (pv 4) pa_nil))))))) pss_nil)
      pss_f))), ?_⟩
    obtain ⟨fc, sp, hn, hh, hsp⟩ := held c
    refine q_asg (ev_op (ev_var rfl) ev_c (rv_ixq (i := 0) (.inr ht) rfl)) fun H1 e1 => ?_
    refine q_asgR ?_
    refine (ev_var (σ := [some (.ref wa), some (.ref pa), some (.ref t), some (.str c.name), none, none, none]) (i := 2) rfl) H1 (Ex.refl H1) _ fun H2 e2 => ⟨1, rfl, t, c.vals, rfl, SqT.of ((e1.trans e2) _ _ ht), fun z => absurd z (cut_part _ _), fun _ r nr => ?_⟩
    have e3 : Ex H2 (upd H2 r (.tup (cutV c.vals (some 1) none))) := Ex.new nr
    have gr : upd H2 r (.tup (cutV c.vals (some 1) none)) r = some (.tup (c.args.map V.int)) := by rw [upd_same]; unfold Cl.vals; rw [cut_one]
    generalize upd H2 r (.tup (cutV c.vals (some 1) none)) = H3 at e3 gr ⊢
    have e03 := e1.trans (e2.trans e3)
    show tSeq _ _ _ [some (.ref wa), some (.ref pa), some (.ref t), some (.str c.name), some (.ref r), none, none] H3
    refine q_when (b := true) (et_is (et_test (ev_op (z := .bl true) (ev_var rfl) ev_c fun H' e' Q' q' => ⟨c.name, _, rfl, rfl, hn, q' H' (Ex.refl H')⟩)) rfl) (fun _ H4 e4 => ?_) (fun hb => nomatch hb)
    refine q_asg (ev_op (z := .ref fc) ev_c (ev_var rfl) fun H' e' Q' q' => ⟨d, c.name, .ref fc, rfl, rfl, ⟨es, nn, _, D.at_, D.lit, hn, rfl⟩, q' H' (Ex.refl H')⟩) fun H5 e5 => ?_
    show tRet (tCallH _ 7 5 _) _ [some (.ref wa), some (.ref pa), some (.ref t), some (.str c.name), some (.ref r), some (.ref fc), none] H5
    have e05 := e03.trans (e4.trans e5)
    refine ⟨fc, sp, rfl, hh, ?_⟩
    refine (ev_var (σ := [some (.ref wa), some (.ref pa), some (.ref t), some (.str c.name), some (.ref r), some (.ref fc), none]) (i := 0) rfl) H5 (Ex.refl H5) _ fun H6 e6 => (ev_var (σ := [some (.ref wa), some (.ref pa), some (.ref t), some (.str c.name), some (.ref r), some (.ref fc), none]) (i := 1) rfl) H6 (Ex.refl H6) _ fun H7 e7 => (ev_var (σ := [some (.ref wa), some (.ref pa), some (.ref t), some (.str c.name), some (.ref r), some (.ref fc), none]) (i := 4) rfl) H7 (Ex.refl H7) _ fun H8 e8 => ⟨r, c.args.map V.int, rfl, .inl (SqT.of ((e4.trans (e5.trans (e6.trans (e7.trans e8)))) _ _ gr)), ?_⟩
    have e08 := e05.trans (e6.trans (e7.trans e8))
    show sp (.ref wa :: .ref pa :: (c.args.map V.int ++ [])) H8 Q _
    rw [List.append_nil]
    exact hsp H8 Q R wa E A n pa p (W0.ex e08) few l hc hw O fun x => (q x).pre e08
end
end K02
set_option Elab.async false
set_option linter.all false
set_option maxRecDepth 100000
set_option maxHeartbeats 4000000
namespace K02
open PySem PySem.Spec PyProof.Rows L2 Evl KB
/-! ### what is sent to one process -/
inductive Kd
  | stop | go | wake | fin
def Kd.word : Kd → Str
  | .stop => "stop" | .go => "go" | .wake => "wake" | .fin => "end"
def delE (E : List Ent) (n : Int) (p : Pr) : Kd → List Ent
  | .stop => setE E n { p with stp := true }
  | .go => setE E n { p with stp := false }
  | .fin => endE E n p (-1)
  | .wake => setE E n { p with who := none }
def wokenD : PyData := .tuple [.str "woken"]
def delA (n : Int) (p : Pr) : Kd → List (Int × PyData)
  | .wake => if p.who.isSome = true then [(n, wokenD)] else []
  | _ => []
def sendE (E : List Ent) (k : Kd) (who : Int) : List Ent × PyData := match E.lookup who with
  | none => (E, refD "no process")
  | some (_, q) => if q.code.isSome = true then (E, refD "no process") else if who = 1 then (E, refD "first") else (delE E who q k, toldD .none)
def sendA (S : Fam) (k : Kd) (who : Int) : List (Int × PyData) := match S.at who with
  | none => []
  | some q => if q.code.isSome = true then [] else if who = 1 then [] else delA who q k
abbrev sDeliver : Stmt := topS 56
abbrev nDeliver : List Str := ["world", "process", "kind"]
theorem scDeliver : FnScope nDeliver ["world", "process", "kind"] (defScope sDeliver) := ⟨rfl, rfl, rfl, by decide +kernel, rfl, by decide +kernel, by decide +kernel⟩
abbrev sDoSend : Stmt := topS 57
abbrev nDoSend : List Str := ["world", "caller", "kind", "who"]
theorem scDoSend : FnScope nDoSend ["world", "caller", "kind", "who"] (defScope sDoSend) := ⟨rfl, rfl, rfl, by decide +kernel, rfl, by decide +kernel, by decide +kernel⟩
def spDeliver (CW CP tP : Addr) : Sp := fun vs H Q _ => ∃ R wa E A n pa p k, vs = [.ref wa, .ref pa, .str (Kd.word k)] ∧ WAt H CW CP tP R wa E A ∧ E.length < 64 ∧ A.length < 1000 ∧ (p.who.isSome = true → n ∉ A.map (·.1)) ∧ E.lookup n = some (pa, p) ∧ n ≠ 1 ∧ Ord (famE E) ∧ ∀ H', Sw H CW CP tP R wa (delE E n p k) (A ++ delA n p k) H' → Q .non H'
def spDoSend (CW CP tP : Addr) : Sp := fun vs H Q _ => ∃ R wa E A v k who, vs = [.ref wa, v, .str (Kd.word k), .int who] ∧ WAt H CW CP tP R wa E A ∧ E.length < 64 ∧ A.length < 1000 ∧ (∀ q, (famE E).at who = some q → q.who.isSome = true → who ∉ A.map (·.1)) ∧ Ord (famE E) ∧ RetE H CW CP tP R wa (sendE E k who).1 (A ++ sendA (famE E) k who) (sendE E k who).2 Q
section
variable {K : PySem.W.Frag} {σ : L2.St} {H H' G : Hp} {CW CP tP wa : Addr} {R : List Addr} {E : List Ent} {A : List (Int × PyData)} {te ta : TE} {D : Ends}
theorem Sw.pre (e : Ex H H') (s : Sw H' CW CP tP R wa E A G) : Sw H CW CP tP R wa E A G := by
  obtain ⟨R1, f1, s1, t1, W1⟩ := s
  exact ⟨R1, (Fr.same e).trans f1, s1, fun b m => (t1 b m).imp id (fresh_back e), W1⟩
theorem s_dputG {d : Addr} {kvs : List (Key × V)} {ky : Key} {td tk : TE} {dd : PyData} (hz : kvs.length < 100000) (hv : EvG te σ H dd) (hd : Ev td σ H (.ref d)) (hk : Ev tk σ H (kV ky)) (e : H d = some (.dK kvs)) (k : ∀ v H1, Ex H H1 → Tp H1 v dd → D.nx σ (upd H1 d (.dK (putK kvs ky v)))) : sDPut td tk te D σ H :=
  hv H (Ex.refl H) _ fun v H1 e1 g => hd H1 e1 _ fun H2 e2 => hk H2 (e1.trans e2) _ fun H3 e3 => ⟨d, _, rfl, DPut.k (((e1.trans e2).trans e3) _ _ e) (sz_lt hz), k v H3 ((e1.trans e2).trans e3) (g.ex (e2.trans e3))⟩
end
section
variable {P : Program} {w : World} {K : PySem.W.Frag} {mg : Str → Option Value} {base : Heap} {CW CP tP f : Addr} {fd : FuncData} {t0 : Tok}
theorem ok_deliver (F : Fun K "deliver" "deliver" sDeliver f fd) (TW : WT K CW) (TP : PT K CP) (G_end_process : Kf P w K mg base 6 "end_process" ["world", "process", "code"] (spEndProcess CW CP tP)) (G_leave_row : Kf P w K mg base 2 "leave_row" ["world", "process"] (spLeaveRow CW CP tP)) : FnOk P w K mg base CX0 7 f fd ["world", "process", "kind"] (spDeliver CW CP tP) := by
  refine F.ok scDeliver (fun vs H Q E h => ?_) (fun cdv A outer s H vs Q E hr h => ?_)
  · obtain ⟨R, wa, E, A, n, pa, p, k, rfl, _⟩ := h
    rfl
  · obtain ⟨R, wa, E, A, n, pa, p, k, rfl, W0, few, fewA, nnA, l, hn, O, q⟩ := h
    have nd := scDeliver.nd
    have hu := hu_of hr
    refine ⟨_, (pss_one (ps_if (pt_cmpR op_eq (pv 2) pe_str (nomark _)) (pss_one (ps_fld (pv 1) pe_bl rfl)) (pss_one (ps_if (pt_cmpR op_eq (pv 2) pe_str (nomark _)) (pss_one (ps_fld (pv 1) pe_bl rfl)) (pss_one (ps_if (pt_cmpR op_eq (pv 2) pe_str (nomark _)) (pss_one (ps_expr (pe_fn G_end_process (hr.mono (by decide)) (pa_cons (pv 0) (pa_cons (pv 1) (pa_cons (pe_un un_neg pe_int) pa_nil)))))) (pss_one (ps_if (pt_cmp (pc_notN (pe_fld (pv 1) rfl))) (pss_cons (ps_expr (pe_fn G_leave_row (hr.mono (by decide)) (pa_cons (pv 0) (pa_cons (pv 1) pa_nil))))
      (pss_one (ps_dput hu (pe_fld (pv 0) rfl) (pe_fld (pv 1) rfl) (pe_tup (pa_cons pe_str pa_nil)) rfl))) pss_nil)))))))), ?_⟩
    obtain ⟨pd, ad, fi, th, pi, si, ar, dx, ser, W⟩ := W0
    have tst : ∀ (x : Str) (G : Hp), EvT (tTest (tOp rEq (tVar 2) (tC (.str x)))) [some (.ref wa), some (.ref pa), some (.str k.word)] G (decide (V.str k.word = V.str x)) := fun x G => et_test (ev_op (ev_var rfl) ev_c (rv_eq rfl))
    have here : ∀ G E1 A1, Fr R H G → WAd G CW CP tP R wa pd ad fi th pi si ar dx ser E1 A1 → Sw H CW CP tP R wa E1 A1 G := fun G E1 A1 f1 W1 => ⟨R, f1, fun _ m => m, fun _ m => .inl m, pd, ad, fi, th, pi, si, ar, dx, ser, W1⟩
    cases k with
    | stop =>
      refine s_if (et_is (tst _ _) (show decide (V.str ("stop" : Str) = V.str "stop") = true by decide +kernel)) (fun _ H1 e1 => ?_) (fun hb => nomatch hb)
      have q : ∀ H', Sw H CW CP tP R wa (setE E n { p with stp := true }) (A ++ []) H' → Q .non H' := q
      rw [List.append_nil] at q
      exact s_pset (p' := { p with stp := true }) TP (W.ex e1) l ev_c (ev_var rfl) TP.n6 (fun vc ca ha => rfl) rfl fun H2 f2 W2 => q _ (here _ _ _ ((Fr.same e1).trans f2) W2)
    | go =>
      refine s_if (et_is (tst _ _) (show decide (V.str ("go" : Str) = V.str "stop") = false by decide +kernel)) (fun hb => nomatch hb) (fun _ H1 e1 => ?_)
      refine s_if (et_is (tst _ _) (show decide (V.str ("go" : Str) = V.str "go") = true by decide +kernel)) (fun _ H2 e2 => ?_) (fun hb => nomatch hb)
      have q : ∀ H', Sw H CW CP tP R wa (setE E n { p with stp := false }) (A ++ []) H' → Q .non H' := q
      rw [List.append_nil] at q
      have e12 := e1.trans e2
      exact s_pset (p' := { p with stp := false }) TP (W.ex e12) l ev_c (ev_var rfl) TP.n6 (fun vc ca ha => rfl) rfl fun H2 f2 W2 => q _ (here _ _ _ ((Fr.same e12).trans f2) W2)
    | fin =>
      refine s_if (et_is (tst _ _) (show decide (V.str ("end" : Str) = V.str "stop") = false by decide +kernel)) (fun hb => nomatch hb) (fun _ H1 e1 => ?_)
      refine s_if (et_is (tst _ _) (show decide (V.str ("end" : Str) = V.str "go") = false by decide +kernel)) (fun hb => nomatch hb) (fun _ H2 e2 => ?_)
      refine s_if (et_is (tst _ _) (show decide (V.str ("end" : Str) = V.str "end") = true by decide +kernel)) (fun _ H3 e3 => ?_) (fun hb => nomatch hb)
      have q : ∀ H', Sw H CW CP tP R wa (endE E n p (-1)) (A ++ []) H' → Q .non H' := q
      rw [List.append_nil] at q
      refine s_exC (ea_cons (ev_var rfl) (ea_cons (ev_var rfl) (ea_cons (ev_un ev_c ru_neg) ea_nil))) fun H4 e4 => ?_
      have e04 := e1.trans (e2.trans (e3.trans e4))
      exact ⟨R, wa, E, A, n, pa, p, -1, rfl, ⟨pd, ad, fi, th, pi, si, ar, dx, ser, W.ex e04⟩, few, l, hn, O, fun H5 S5 => q H5 (S5.pre e04)⟩
    | wake =>
      refine s_if (et_is (tst _ _) (show decide (V.str ("wake" : Str) = V.str "stop") = false by decide +kernel)) (fun hb => nomatch hb) (fun _ H1 e1 => ?_)
      refine s_if (et_is (tst _ _) (show decide (V.str ("wake" : Str) = V.str "go") = false by decide +kernel)) (fun hb => nomatch hb) (fun _ H2 e2 => ?_)
      refine s_if (et_is (tst _ _) (show decide (V.str ("wake" : Str) = V.str "end") = false by decide +kernel)) (fun hb => nomatch hb) (fun _ H3 e3 => ?_)
      have e03 := e1.trans (e2.trans e3)
      have W3 := W.ex e03
      have pf := ev_pf TP (W3.rec1 l) (ev_var (σ := [some (.ref wa), some (.ref pa), some (.str (Kd.word .wake))]) (i := 1) rfl)
      obtain ⟨vc, ev, cv⟩ := pf.call
      have cv : CallV H3 vc p.who := cv
      have q : ∀ H', Sw H CW CP tP R wa (setE E n { p with who := none }) (A ++ if p.who.isSome = true then [(n, wokenD)] else []) H' → Q .non H' := q
      refine s_when (et_B (ev_notN ev)) (fun hb H4 e4 => ?_) (fun hb H4 e4 => ?_)
      · rw [call_non cv] at hb
        have hs : p.who.isSome = true := by
          cases z : p.who with
          | none => rw [z] at hb; cases hb
          | some _ => rfl
        rw [if_pos hs] at q
        have nn := nnA hs
        have e04 := e03.trans e4
        refine q_exC (ea_cons (ev_var rfl) (ea_cons (ev_var rfl) ea_nil)) fun H5 e5 => ⟨R, wa, E, A, n, pa, p, rfl, ⟨pd, ad, fi, th, pi, si, ar, dx, ser, W.ex (e04.trans e5)⟩, l, fun H6 f6 W6 => ?_⟩
        obtain ⟨pd6, ad6, fi6, th6, pi6, si6, ar6, dx6, ser6, W6⟩ := W6
        have pf6 := ev_pf TP (W6.rec1 (look_set l)) (ev_var (σ := [some (.ref wa), some (.ref pa), some (.str (Kd.word .wake))]) (i := 1) rfl)
        obtain ⟨vs, a1, a2, a3⟩ := W6.ans
        refine s_dputG (ky := Sum.inl n) (by
          have := congrArg List.length a2
          rw [List.length_map, List.length_map] at this
          rw [List.length_map]
          omega) (eg_t1 (eg_v ev_c (.str _))) (ev_fld (ev_var rfl) W6.obj TW.cls TW.n8 rfl) pf6.num a1 fun v H7 e7 g7 => ?_
        obtain ⟨W8, f8⟩ := (W6.ex e7).put (v := v) (e7 _ _ a1) nn g7
        exact q _ ⟨R, ((Fr.same (e04.trans e5)).trans (f6.trans (Fr.same e7))).trans (f8.more fun b m => by rw [List.mem_singleton.mp m]; exact W6.inR.2.2), fun _ m => m, fun _ m => .inl m, pd6, ad6, fi6, th6, pi6, si6, ar6, dx6, ser6, W8⟩
      · rw [call_non cv] at hb
        have hs : ¬ p.who.isSome = true := by
          cases z : p.who with
          | none => simp
          | some _ => rw [z] at hb; cases hb
        rw [if_neg hs, List.append_nil] at q
        have ep : ({ p with who := none } : Pr) = p := by
          cases p with | mk a b c d e g w =>
          cases w with
          | none => rfl
          | some _ => exact absurd rfl hs
        rw [ep, set_self W.keys l] at q
        exact q _ (here _ _ _ (Fr.same (e03.trans e4)) (W.ex (e03.trans e4)))
theorem alive_at {E : List Ent} {n : Int} (h : aliveB (famE E) n = true) : ∃ pa p, E.lookup n = some (pa, p) ∧ p.code = none := by
  unfold aliveB at h
  by_cases z : n ∈ E.map (·.1)
  · obtain ⟨pa, p, l, _⟩ := look_some z
    rw [fam_in l] at h
    have h : p.code.isNone = true := h
    exact ⟨pa, p, l, Option.isNone_iff_eq_none.mp h⟩
  · rw [fam_no z] at h
    cases h
theorem send_dead {E : List Ent} {k : Kd} {who : Int} (h : aliveB (famE E) who = false) : sendE E k who = (E, refD "no process") ∧ sendA (famE E) k who = [] := by
  unfold sendE sendA
  rw [fam_at]
  cases z : E.lookup who with
  | none => exact ⟨rfl, rfl⟩
  | some x =>
    obtain ⟨pa, p⟩ := x
    unfold aliveB at h
    rw [fam_in z] at h
    have h : p.code.isNone = false := h
    have h2 : p.code.isSome = true := by
      cases y : p.code with
      | none => rw [y] at h; cases h
      | some _ => rfl
    show (if p.code.isSome = true then _ else _) = _ ∧ (if p.code.isSome = true then _ else _) = _
    rw [if_pos h2, if_pos h2]
    exact ⟨rfl, rfl⟩
theorem send_live {E : List Ent} {k : Kd} {who : Int} {pa : Addr} {p : Pr} (l : E.lookup who = some (pa, p)) (hc : p.code = none) : sendE E k who = (if who = 1 then (E, refD "first") else (delE E who p k, toldD .none)) ∧ sendA (famE E) k who = if who = 1 then [] else delA who p k := by
  unfold sendE sendA
  rw [fam_in l, l]
  show (if p.code.isSome = true then _ else _) = _ ∧ (if p.code.isSome = true then _ else _) = _
  have h2 : ¬ p.code.isSome = true := by rw [hc]; simp
  rw [if_neg h2, if_neg h2]
  exact ⟨rfl, rfl⟩
theorem ok_doSend (F : Fun K "do_send" "do_send" sDoSend f fd) (TW : WT K CW) (G_deliver : Kf P w K mg base 7 "deliver" ["world", "process", "kind"] (spDeliver CW CP tP)) (G_is_alive : Kf P w K mg base 1 "is_alive" ["world", "number"] (spIsAlive CW CP tP)) (c_FIRST : mg "FIRST" = some (.int 1 t0)) : FnOk P w K mg base CX0 8 f fd ["world", "caller", "kind", "who"] (spDoSend CW CP tP) := by
  refine F.ok scDoSend (fun vs H Q E h => ?_) (fun cdv A outer s H vs Q E hr h => ?_)
  · obtain ⟨R, wa, E, A, v, k, who, rfl, _⟩ := h
    rfl
  · obtain ⟨R, wa, E, A, v, k, who, rfl, W0, few, fewA, nnA, O, q⟩ := h
    have nd := scDoSend.nd
    have hu := hu_of hr
    refine ⟨_, (pss_cons (ps_if (pt_not (pt_val (pe_fn G_is_alive (hr.mono (by decide)) (pa_cons (pv 0) (pa_cons (pv 3) pa_nil))))) (pss_one (ps_ret (pe_tup (pa_cons pe_str (pa_cons pe_str pa_nil))))) pss_nil)
      (pss_cons (ps_if (pt_cmpR op_eq (pv 3) (pe_glob (v := .int 1) rfl c_FIRST ⟨_, rfl⟩) (nomark _)) (pss_one (ps_ret (pe_tup (pa_cons pe_str (pa_cons pe_str pa_nil))))) pss_nil)
      (pss_cons (ps_expr (pe_fn G_deliver (hr.mono (by decide)) (pa_cons (pv 0) (pa_cons (pe_dget hu (pe_fld (pv 0) rfl) (pv 3) (fun _ _ => rfl)) (pa_cons (pv 2) pa_nil)))))
      (pss_one (ps_ret (pe_tup (pa_cons pe_str (pa_cons pe_non pa_nil)))))))), ?_⟩
    have c1 : SpV (spIsAlive CW CP tP) ([.ref wa, .int who] ++ []) H (.bl (aliveB (famE E) who)) := fun H2 e2 Q q E' => ⟨R, wa, E, A, who, rfl, W0.ex e2, q⟩
    refine q_when (et_not (et_B (ev_call (ea_cons (ev_var rfl) (ea_cons (ev_var rfl) ea_nil)) c1))) (fun hb H1 e1 => ?_) (fun hb H1 e1 => ?_)
    · have hb : aliveB (famE E) who = false := by simpa using hb
      obtain ⟨h1, h2⟩ := send_dead (k := k) hb
      rw [h1, h2, List.append_nil] at q
      exact s_retG eg_ref fun v H2 e2 g => q.of W0 (e1.trans e2) g
    have hb : aliveB (famE E) who = true := by simpa using hb
    obtain ⟨pa, p, l, hc⟩ := alive_at hb
    obtain ⟨h1, h2⟩ := send_live (k := k) l hc
    rw [h1, h2] at q
    refine q_when (b := decide (who = 1)) (et_is (et_test (ev_op (ev_var rfl) ev_c (rv_eq rfl))) (by simp)) (fun hb H2 e2 => ?_) (fun hb H2 e2 => ?_)
    · rw [if_pos (of_decide_eq_true hb), if_pos (of_decide_eq_true hb), List.append_nil] at q
      exact s_retG eg_ref fun v H3 e3 g => q.of W0 (e1.trans (e2.trans e3)) g
    · have hn := of_decide_eq_false hb
      rw [if_neg hn, if_neg hn] at q
      have e02 := e1.trans e2
      obtain ⟨pd, ad, fi, th, pi, si, ar, dx, ser, W⟩ := W0
      refine q_exC (ea_cons (ev_var rfl) (ea_cons (ev_proc TW (W.ex e02) (ev_var rfl) (ev_var rfl) l) (ea_cons (ev_var rfl) ea_nil))) fun H3 e3 => ⟨R, wa, E, A, who, pa, p, k, rfl, ⟨pd, ad, fi, th, pi, si, ar, dx, ser, W.ex (e02.trans e3)⟩, few, fewA, nnA p (fam_in l), l, hn, O, fun H4 S4 => ?_⟩
      obtain ⟨R4, f4, s4, t4, W4⟩ := S4
      exact s_retG (eg_told (eg_v ev_c .non)) fun v H5 e5 g => q v H5 R4 ((Fr.same (e02.trans e3)).trans (f4.trans (Fr.same e5))) s4 (fun b m => (t4 b m).imp id (fresh_back (e02.trans e3))) (W4.ex e5) g
end
end K02
set_option Elab.async false
set_option linter.all false
set_option maxRecDepth 100000
set_option maxHeartbeats 4000000
namespace K02
open PySem PySem.Spec PyProof.Rows L2 Evl KB
/-- all but x is as it was -/
def Off (x : Addr) (H G : Hp) : Prop := ∀ b u, b ≠ x → H b = some u → G b = some u
theorem Off.trans {x : Addr} {H G L : Hp} (a : Off x H G) (b : Off x G L) : Off x H L := fun c u n h => b c u n (a c u n h)
theorem Off.ex {x : Addr} {H G : Hp} (e : Ex H G) : Off x H G := fun b u _ h => e b u h
theorem Off.upd {x : Addr} {H : Hp} {o : HO} : Off x H (upd H x o) := fun b u n h => (upd_ne n).trans h
theorem Off.back {x b : Addr} {H G : Hp} (o : Off x H G) (n : b ≠ x) (h : G b = none) : H b = none := by
  cases z : H b with
  | none => rfl
  | some u => rw [o b u n z] at h; cases h
/-- a new dict -/
def EvDk (te : TE) (σ : L2.St) (H : Hp) (kvs : List (Key × V)) : Prop := ∀ H1, Ex H H1 → ∀ Q : VK, (∀ p H2, H1 p = none → Ex H1 H2 → H2 p = some (.dK kvs) → Q (.ref p) H2) → te σ H1 Q
section
variable {K : PySem.W.Frag} {σ : L2.St} {H : Hp} {te ta : TE} {tz : TS} {D : Ends} {v : V}
theorem s_new {f : Str} {x C dx : Addr} {fs : List (Str × V)} {kvs : List (Key × V)} (hv : EvDk te σ H kvs) (ho : Ev ta σ H (.ref x)) (he : H x = some (.ins C dx fs)) (c : Cls K C) (no : NoAttr K C f) (hl : fs.length < 1000)
    (k : ∀ p H1, H p = none → p ≠ x → Off x H H1 → H1 p = some (.dK kvs) → H1 x = some (.ins C dx (putF f (.ref p) fs)) → D.nx σ H1) : sFld K ta te f D σ H :=
  hv H (Ex.refl H) _ fun p H1 np e1 gp => ho H1 e1 _ fun H2 e2 => ⟨x, C, dx, fs, rfl, (e1.trans e2) _ _ he, c, no, by omega, by
    have nx : p ≠ x := fun z => by rw [z, he] at np; cases np
    exact k p _ np nx ((Off.ex (e1.trans e2)).trans Off.upd) ((upd_ne nx).trans (e2 _ _ gp)) upd_same⟩
theorem q_new {f : Str} {x C dx : Addr} {fs : List (Str × V)} {kvs : List (Key × V)} (hv : EvDk te σ H kvs) (ho : Ev ta σ H (.ref x)) (he : H x = some (.ins C dx fs)) (c : Cls K C) (no : NoAttr K C f) (hl : fs.length < 1000)
    (k : ∀ p H1, H p = none → p ≠ x → Off x H H1 → H1 p = some (.dK kvs) → H1 x = some (.ins C dx (putF f (.ref p) fs)) → tz D σ H1) : tSeq (sFld K ta te f) tz D σ H := s_new (D := { D with nx := tz D }) hv ho he c no hl k
theorem q_fldO {f : Str} {x C dx : Addr} {fs : List (Str × V)} (hv : Ev te σ H v) (ho : Ev ta σ H (.ref x)) (he : H x = some (.ins C dx fs)) (c : Cls K C) (no : NoAttr K C f) (hl : fs.length < 1000)
    (k : ∀ H1, Off x H H1 → H1 x = some (.ins C dx (putF f v fs)) → tz D σ H1) : tSeq (sFld K ta te f) tz D σ H := q_fld hv ho he c no hl fun H1 e1 => k _ ((Off.ex e1).trans Off.upd) upd_same
theorem edk_new : EvDk tDNewK σ H [] := fun H1 e1 Q q p np => q p _ np (Ex.new np) upd_same
theorem edk_one {ky : Key} {t1 t2 : TE} (h1 : Ev t1 σ H (kV ky)) (h2 : Ev t2 σ H v) : EvDk (tDisp [(t1, t2)]) σ H [(ky, v)] := fun H1 e1 Q q p np => by
  have e2 : Ex H1 (upd H1 p (.dK [])) := Ex.new np
  refine h1 _ (e1.trans e2) _ fun H3 e3 => h2 H3 (e1.trans (e2.trans e3)) _ fun H4 e4 => ⟨e4 _ _ (e3 _ _ upd_same), [(ky, v)], rfl, by show 1 ≤ 15; omega, q p _ np (Ex.mut (e2.trans (e3.trans e4)) np) upd_same⟩
/-- a new process -/
theorem ep_proc {CP : Addr} {ta : TA} {n : Int} {q : Option Int} {s g : Int} (h : EvA ta σ H [.int n, optV q, .int s, .int g]) : EvP (tMake CP (spPInit CP) [] E0 ta) σ H (fun v G => ∃ x dxp ca ha, v = .ref x ∧ H x = none ∧ G x = some (.ins CP dxp (prFs n (newP q s g) .non ca ha)) ∧ H ca = none ∧ G ca = some (.lst [.int 0, .int 0, .int 0, .int 0]) ∧ H ha = none ∧ G ha = some (.dK [])) := fun G1 eg Q qq => by
  refine h G1 eg _ fun G2 eg2 => fun x dxp nx ndx ne => ⟨x, dxp, n, q, s, g, rfl, upd_same, fun G3 ca ha off n1 n2 gx g1 g2 => ⟨rfl, qq _ G3 (fun b u hb => ?_) ⟨x, dxp, ca, ha, rfl, fresh_back (eg.trans eg2) nx, gx, ?_, g1, ?_, g2⟩⟩⟩
  · exact off b u (ne_of_none (eg2 _ _ hb) nx) (by rw [upd_ne (ne_of_none (eg2 _ _ hb) nx), upd_ne (ne_of_none (eg2 _ _ hb) ndx)]; exact eg2 _ _ hb)
  · refine fresh_back (eg.trans eg2) ?_
    have z : ca ≠ x := fun z => by rw [z, upd_same] at n1; cases n1
    rw [upd_ne z] at n1
    by_cases y : ca = dxp
    · rw [y]; exact ndx
    · rw [upd_ne y] at n1; exact n1
  · refine fresh_back (eg.trans eg2) ?_
    have z : ha ≠ x := fun z => by rw [z, upd_same] at n2; cases n2
    rw [upd_ne z] at n2
    by_cases y : ha = dxp
    · rw [y]; exact ndx
    · rw [upd_ne y] at n2; exact n2
end
def firstP : Pr := ⟨none, 1, 1, true, false, none, none⟩
abbrev sWInit : Stmt := inClass (topS 16) 0
abbrev nWInit : List Str := ["self", "first"]
theorem scWInit : FnScope nWInit ["self"] (defScope sWInit) := ⟨rfl, rfl, rfl, by decide +kernel, rfl, by decide +kernel, by decide +kernel⟩
def spWInit (CW CP tP : Addr) : Sp := fun vs H Q _ => ∃ x dx, vs = [.ref x] ∧ H x = some (.ins CW dx []) ∧ CW ≠ CP ∧ LamX.TabS H tP qLam ∧
  ∀ H' R pa, Off x H H' → (∀ b ∈ R, b = x ∨ b = tP ∨ H b = none) → WAt H' CW CP tP R x [(1, pa, firstP)] [] → Q .non H'
section
variable {P : Program} {w : World} {K : PySem.W.Frag} {mg : Str → Option Value} {base : Heap} {CW CP tP f : Addr} {fd : FuncData} {t0 : Tok}
theorem ok_WInit (F : Fun K "__init__" "World.__init__" sWInit f fd) (TW : WT K CW) (TP : PT K CP) (M_Process : Kc P w K mg base 2 CP "Process" ["self", "number", "parent", "session", "group"] (spPInit CP)) (c_FIRST : mg "FIRST" = some (.int 1 t0)) : FnOk P w K mg base CX0 3 f fd ["self"] (spWInit CW CP tP) := by
  refine F.ok scWInit (fun vs H Q E h => ?_) (fun cdv A outer s H vs Q E hr h => ?_)
  · obtain ⟨x, dx, rfl, _⟩ := h
    rfl
  · obtain ⟨x, dx, rfl, hx, hcc, tb, q⟩ := h
    have nd := scWInit.nd
    have hu := hu_of hr
    refine ⟨_, (pss_cons (ps_set (i := 1) nd rfl (by first | exact .inl rfl | exact .inr rfl) (pe_mk M_Process (hr.mono (by decide)) (pa_cons (pe_glob (v := .int 1) rfl c_FIRST ⟨_, rfl⟩) (pa_cons pe_non (pa_cons (pe_glob (v := .int 1) rfl c_FIRST ⟨_, rfl⟩) (pa_cons (pe_glob (v := .int 1) rfl c_FIRST ⟨_, rfl⟩) pa_nil))))))
      (pss_cons (ps_fld (pv 1) pe_bl rfl)
      (pss_cons (ps_fld (pv 0) (pe_disp (pps_cons (pe_glob (v := .int 1) rfl c_FIRST ⟨_, rfl⟩) (pv 1) pps_nil) (by rfl) (by rfl) (fun z => by cases z) (by decide)) rfl)
      (pss_cons (ps_fld (pv 0) pe_dnewK rfl)
      (pss_cons (ps_fld (pv 0) pe_dnewK rfl)
      (pss_cons (ps_fld (pv 0) pe_dnewK rfl)
      (pss_cons (ps_fld (pv 0) pe_dnewK rfl)
      (pss_cons (ps_fld (pv 0) pe_dnewK rfl)
      (pss_cons (ps_fld (pv 0) pe_int rfl)
      (pss_one (ps_fld (pv 0) pe_dnewK rfl))))))))))), ?_⟩
    refine q_asgP (ep_proc (n := 1) (q := none) (s := 1) (g := 1) (ea_cons ev_c (ea_cons ev_c (ea_cons ev_c (ea_cons ev_c ea_nil))))) fun v H1 e1 hv => ?_
    obtain ⟨pa, dxp, ca, ha, rfl, npa, gpa, nca, gca, nha, gha⟩ := hv
    have px : pa ≠ x := fun z => by rw [z, hx] at npa; cases npa
    have cx : ca ≠ x := fun z => by rw [z, hx] at nca; cases nca
    have hxx : ha ≠ x := fun z => by rw [z, hx] at nha; cases nha
    refine q_fldO ev_c (ev_var rfl) gpa TP.cls TP.n5 (by show 10 < 1000; omega) fun H2 o2 g2 => ?_
    have cp : ca ≠ pa := fun z => by rw [z, gpa] at gca; cases gca
    have hp : ha ≠ pa := fun z => by rw [z, gpa] at gha; cases gha
    have off2 : ∀ b u, H b = some u → H2 b = some u := fun b u hb => o2 b u (fun z => by rw [z, npa] at hb; cases hb) (e1 _ _ hb)
    have gca2 := o2 _ _ cp gca
    have gha2 := o2 _ _ hp gha
    refine q_new (edk_one (ky := Sum.inl 1) ev_c (ev_var rfl)) (ev_var rfl) (off2 _ _ hx) TW.cls TW.n1 (by show 0 < 1000; omega) fun pd H3 npd pdx o3 gpd g3 => ?_
    refine q_new edk_new (ev_var rfl) g3 TW.cls TW.n2 (by show 1 < 1000; omega) fun fi H4 nfi fix o4 gfi g4 => ?_
    refine q_new edk_new (ev_var rfl) g4 TW.cls TW.n3 (by show 2 < 1000; omega) fun th H5 nth thx o5 gth g5 => ?_
    refine q_new edk_new (ev_var rfl) g5 TW.cls TW.n4 (by show 3 < 1000; omega) fun pi H6 npi pix o6 gpi g6 => ?_
    refine q_new edk_new (ev_var rfl) g6 TW.cls TW.n5 (by show 4 < 1000; omega) fun si H7 nsi six o7 gsi g7 => ?_
    refine q_new edk_new (ev_var rfl) g7 TW.cls TW.n6 (by show 5 < 1000; omega) fun ar H8 nar arx o8 gar g8 => ?_
    refine q_fldO ev_c (ev_var rfl) g8 TW.cls TW.n7 (by show 6 < 1000; omega) fun H9 o9 g9 => ?_
    refine s_new edk_new (ev_var rfl) g9 TW.cls TW.n8 (by show 7 < 1000; omega) fun ad H10 nad adx o10 gad g10 => ?_
    have o28 : Off x H2 H9 := o3.trans (o4.trans (o5.trans (o6.trans (o7.trans (o8.trans o9)))))
    have o2X : Off x H2 H10 := o28.trans o10
    have oX : Off x H H10 := fun b u nb hb => o2X b u nb (off2 b u hb)
    have gpa9 := o28 _ _ px g2
    have gca9 := o28 _ _ cx gca2
    have gha9 := o28 _ _ hxx gha2
    have gpd9 := (o4.trans (o5.trans (o6.trans (o7.trans (o8.trans o9))))) _ _ pdx gpd
    have gfi9 := (o5.trans (o6.trans (o7.trans (o8.trans o9)))) _ _ fix gfi
    have gth9 := (o6.trans (o7.trans (o8.trans o9))) _ _ thx gth
    have gpi9 := (o7.trans (o8.trans o9)) _ _ pix gpi
    have gsi9 := (o8.trans o9) _ _ six gsi
    have gar9 := o9 _ _ arx gar
    have nea : ∀ {b : Addr} {u : HO}, H9 b = some u → b ≠ ad := fun hb z => by rw [z, nad] at hb; cases hb
    have txx : tP ≠ x := fun z => by
      obtain ⟨ps, h1, _⟩ := tb
      rw [z, hx] at h1
      cases h1
    have tb10 : LamX.TabS H10 tP qLam := by
      obtain ⟨ps, h1, h2, h3⟩ := tb
      refine ⟨ps, oX _ _ txx h1, h2, fun pos cv hc => ?_⟩
      obtain ⟨c, e1, e2⟩ := h3 pos cv hc
      refine ⟨c, e1, oX _ _ (fun z => ?_) e2⟩
      rw [z, hx] at e2
      cases e2
    have al : ∀ b ∈ [x, pa, ca, ha, pd, fi, th, pi, si, ar, ad, tP], ∃ o, H10 b = some o := by
      intro b m
      simp only [List.mem_cons, List.not_mem_nil, or_false] at m
      rcases m with rfl | rfl | rfl | rfl | rfl | rfl | rfl | rfl | rfl | rfl | rfl | rfl
      · exact ⟨_, g10⟩
      · exact ⟨_, o10 _ _ px gpa9⟩
      · exact ⟨_, o10 _ _ cx gca9⟩
      · exact ⟨_, o10 _ _ hxx gha9⟩
      · exact ⟨_, o10 _ _ pdx gpd9⟩
      · exact ⟨_, o10 _ _ fix gfi9⟩
      · exact ⟨_, o10 _ _ thx gth9⟩
      · exact ⟨_, o10 _ _ pix gpi9⟩
      · exact ⟨_, o10 _ _ six gsi9⟩
      · exact ⟨_, o10 _ _ arx gar9⟩
      · exact ⟨_, gad⟩
      · obtain ⟨ps, h1, _⟩ := tb10
        exact ⟨_, h1⟩
    refine q H10 [x, pa, ca, ha, pd, fi, th, pi, si, ar, ad, tP] pa oX (fun b m => ?_) ⟨pd, ad, fi, th, pi, si, ar, dx, 0, ⟨g10, o10 _ _ pdx gpd9, fun e m => ?_, ⟨[], gad, rfl, fun i x y h => by simp at h⟩, fun b m => ?_, by simp, by simp, (nea gpd9).symm, ⟨by simp, by simp, by simp⟩, hcc, al, tb10, by simp⟩⟩
    · have fr2 : ∀ {b : Addr}, H2 b = none → H b = none := fun {b} h => by
        cases z : H b with
        | none => rfl
        | some u => rw [off2 b u z] at h; cases h
      simp only [List.mem_cons, List.not_mem_nil, or_false] at m
      rcases m with rfl | rfl | rfl | rfl | rfl | rfl | rfl | rfl | rfl | rfl | rfl | rfl
      · exact .inl rfl
      · exact .inr (.inr npa)
      · exact .inr (.inr nca)
      · exact .inr (.inr nha)
      · exact .inr (.inr (fr2 npd))
      · exact .inr (.inr (fr2 (o3.back fix nfi)))
      · exact .inr (.inr (fr2 ((o3.trans o4).back thx nth)))
      · exact .inr (.inr (fr2 ((o3.trans (o4.trans o5)).back pix npi)))
      · exact .inr (.inr (fr2 ((o3.trans (o4.trans (o5.trans o6))).back six nsi)))
      · exact .inr (.inr (fr2 ((o3.trans (o4.trans (o5.trans (o6.trans o7)))).back arx nar)))
      · exact .inr (.inr (fr2 (o28.back adx nad)))
      · exact .inr (.inl rfl)
    · rw [List.mem_singleton.mp m]
      exact ⟨⟨dxp, .non, ca, ha, _, o10 _ _ px gpa9, rfl, o10 _ _ cx gca9, by show 4 ≤ 4; omega, o10 _ _ hxx gha9, nea gha9, by simp, by simp⟩, by simp⟩
    · simp only [List.mem_cons, List.not_mem_nil, or_false] at m
      rcases m with rfl | rfl | rfl | rfl | rfl
      · exact ⟨o10 _ _ fix gfi9, nea gfi9, by simp⟩
      · exact ⟨o10 _ _ thx gth9, nea gth9, by simp⟩
      · exact ⟨o10 _ _ pix gpi9, nea gpi9, by simp⟩
      · exact ⟨o10 _ _ six gsi9, nea gsi9, by simp⟩
      · exact ⟨o10 _ _ arx gar9, nea gar9, by simp⟩
end
end K02
set_option Elab.async false
set_option linter.all false
set_option maxRecDepth 100000
set_option maxHeartbeats 4000000
namespace K02
open PySem PySem.Spec PyProof.Rows L2 Evl KB
structure MT (K : PySem.W.Frag) (C : Addr) : Prop where
  cls : Cls K C
  n1 : NoAttr K C "world"
/-- a machine between calls -/
structure MaAt (H : Hp) (CM CW CP tP : Addr) (R : List Addr) (ma : Addr) (E : List Ent) : Prop where
  ex : ∃ wa dx, H ma = some (.ins CM dx [("world", .ref wa)]) ∧ WAt H CW CP tP R wa E []
  no : ma ∉ R
theorem MaAt.fr {H H' : Hp} {CM CW CP tP ma : Addr} {R F : List Addr} {E : List Ent} (M : MaAt H CM CW CP tP R ma E) (f : Fr F H H') (d : ∀ a ∈ ma :: R, a ∉ F) : MaAt H' CM CW CP tP R ma E := by
  obtain ⟨wa, dx, h, W⟩ := M.ex
  exact ⟨⟨wa, dx, f _ _ h (.inl (d _ List.mem_cons_self)), W.fr f fun a m => d a (List.mem_cons_of_mem _ m)⟩, M.no⟩
theorem MaAt.same {H H' : Hp} {CM CW CP tP ma : Addr} {R : List Addr} {E : List Ent} (M : MaAt H CM CW CP tP R ma E) (e : Ex H H') : MaAt H' CM CW CP tP R ma E := M.fr (F := []) (Fr.same e) fun _ _ => List.not_mem_nil
section
variable {K : PySem.W.Frag} {σ : L2.St} {H : Hp} {CW CP tP : Addr}
theorem ep_world (tb : LamX.TabS H tP qLam) (hcc : CW ≠ CP) : EvP (tMake CW (spWInit CW CP tP) [] E0 tNil) σ H (fun v G => ∃ x R pa, v = .ref x ∧ H x = none ∧ (∀ b ∈ R, b = tP ∨ H b = none) ∧ WAt G CW CP tP R x [(1, pa, firstP)] []) := fun G1 eg Q qq => by
  intro x dx nx ndx ne
  have tb1 : LamX.TabS (upd (upd G1 dx (.own x)) x (.ins CW dx [])) tP qLam := by
    refine tab_fr (F := []) tb (Fr.same (fun b o hb => ?_)) List.not_mem_nil
    have h1 := eg _ _ hb
    rw [upd_ne (ne_of_none h1 nx), upd_ne (ne_of_none h1 ndx)]
    exact h1
  refine ⟨x, dx, rfl, upd_same, hcc, tb1, fun G R pa off hR W => ⟨rfl, qq _ G (fun b u hb => ?_) ⟨x, R, pa, rfl, fresh_back eg nx, fun b m => ?_, W⟩⟩⟩
  · exact off b u (ne_of_none hb nx) (by rw [upd_ne (ne_of_none hb nx), upd_ne (ne_of_none hb ndx)]; exact hb)
  · rcases hR b m with z | z | z
    · exact .inr (by rw [z]; exact fresh_back eg nx)
    · exact .inl z
    · refine .inr (fresh_back eg ?_)
      have z1 : b ≠ x := fun y => by rw [y, upd_same] at z; cases z
      rw [upd_ne z1] at z
      by_cases y : b = dx
      · rw [y]; exact ndx
      · rw [upd_ne y] at z; exact z
end
theorem q_fldP {K : PySem.W.Frag} {σ : L2.St} {H : Hp} {te ta : TE} {tz : TS} {D : Ends} {f : Str} {a C dx : Addr} {fs : List (Str × V)} {P : V → Hp → Prop} (hv : EvP te σ H P) (ho : Ev ta σ H (.ref a)) (he : H a = some (.ins C dx fs)) (c : Cls K C) (n : NoAttr K C f) (hl : fs.length < 1000)
    (k : ∀ v H1 H2, Ex H H1 → P v H1 → Ex H1 H2 → tz D σ (upd H2 a (.ins C dx (putF f v fs)))) : tSeq (sFld K ta te f) tz D σ H :=
  hv H (Ex.refl H) _ fun v H1 e1 g => ho H1 e1 _ fun H2 e2 => ⟨a, C, dx, fs, rfl, (e1.trans e2) _ _ he, c, n, by omega, k v H1 H2 e1 g e2⟩
abbrev sMInit : Stmt := inClass (topS 89) 0
abbrev nMInit : List Str := ["self", "files", "path", "text"]
theorem scMInit : FnScope nMInit ["self", "files"] (defScope sMInit) := ⟨rfl, rfl, rfl, by decide +kernel, rfl, by decide +kernel, by decide +kernel⟩
def spMInit (K : PySem.W.Frag) (CM CW CP tP : Addr) : Sp := fun vs H Q _ => ∃ x dx e0, vs = [.ref x, .ref e0] ∧ (∀ G, SqT K G e0 []) ∧ H x = some (.ins CM dx []) ∧ CW ≠ CP ∧ LamX.TabS H tP qLam ∧
  ∀ H' R pa, Off x H H' → (∀ b ∈ R, b = tP ∨ H b = none) → MaAt H' CM CW CP tP R x [(1, pa, firstP)] → Q .non H'
section
variable {P : Program} {w : World} {K : PySem.W.Frag} {mg : Str → Option Value} {base : Heap} {CM CW CP tP f : Addr} {fd : FuncData} {t0 : Tok}
theorem okD {x qual : Str} {st : Stmt} {N ps : List Str} {k : Nat} {sp : Sp} {dvs : List V} {kws : List (Str × V)} (F : FunD K x qual (defArgs st) (defBody st) (defScope st) dvs kws f fd) (S : FnScope N ps (defScope st)) (len : ∀ vs H Q E, sp vs H Q E → vs.length = ps.length)
    (hbody : ∀ (cdv : Value) (A : Around) (outer : List Env) (s : Shared) (H : Hp) (vs : List V) (Q : VK) (E : XK), Room k (A.deeper (envOfC qual (defScope st) s.heap.objs.size f cdv)) → sp vs H Q E →
      ∃ t, PSs (cxOf CX0 P w K mg base N qual (defScope st) f cdv A outer s H E).nox (defBody st) t ∧ t { nx := fun _ H' => Q .non H', rt := Q } (start N vs) H) : FnOk P w K mg base CX0 (k + 1) f fd ps sp :=
  F.ok S len fun cdv A outer s H vs Q E hr hsp => by
    obtain ⟨t, h, q⟩ := hbody cdv A outer s H vs Q E hr hsp
    exact ⟨t, h.nox, q⟩
theorem ok_MInit {e0 : Addr} (F : FunD K "__init__" "Machine.__init__" (defArgs sMInit) (defBody sMInit) (defScope sMInit) [.ref e0] [] f fd) (TM : MT K CM) (M_World : Kc P w K mg base 4 CW "World" ["self"] (spWInit CW CP tP)) : FnOk P w K mg base CX0 5 f fd ["self", "files"] (spMInit K CM CW CP tP) := by
  refine okD F scMInit (fun vs H Q E h => ?_) (fun cdv A outer s H vs Q E hr h => ?_)
  · obtain ⟨x, dx, e0, rfl, _⟩ := h
    rfl
  · obtain ⟨x, dx, e0, rfl, he0, hx, hcc, tb, q⟩ := h
    have nd := scMInit.nd
    refine ⟨_, (pss_cons (ps_fld (pv 0) (pe_mk0 M_World (hr.mono (by decide))) rfl) (pss_one (ps_for PassesOwn.never rfl (pi_tup (pv 1)) pg_f pss_f))), ?_⟩
    refine q_fldP (ep_world tb hcc) (ev_var rfl) hx TM.cls TM.n1 (by show 0 < 1000; omega) fun v H1 H2 e1 hv e2 => ?_
    obtain ⟨wa, R, pa, rfl, nwa, hR, W⟩ := hv
    have nxR : x ∉ R := fun m => by
      rcases hR x m with z | z
      · obtain ⟨ps, h1, _⟩ := tb
        rw [← z, hx] at h1
        cases h1
      · rw [hx] at z; cases z
    have f3 : Fr [x] H2 (upd H2 x (.ins CM dx (putF "world" (.ref wa) []))) := Fr.upd ((e1.trans e2) _ _ hx) True.intro (List.mem_singleton.mpr rfl)
    have W3 := (W.ex e2).fr f3 fun a m z => nxR (by rw [← List.mem_singleton.mp z]; exact m)
    have M3 : MaAt (upd H2 x (.ins CM dx (putF "world" (.ref wa) []))) CM CW CP tP R x [(1, pa, firstP)] := ⟨⟨wa, dx, upd_same, W3⟩, nxR⟩
    have o3 : Off x H (upd H2 x (.ins CM dx (putF "world" (.ref wa) []))) := (Off.ex (e1.trans e2)).trans Off.upd
    show tFor (iTup K (tVar 1)) gF tuF _ (start nMInit [.ref x, .ref e0]) (upd H2 x (.ins CM dx (putF "world" (.ref wa) [])))
    generalize upd H2 x (.ins CM dx (putF "world" (.ref wa) [])) = H3 at M3 o3 ⊢
    unfold tFor iTup
    refine (ev_var (σ := start nMInit [.ref x, .ref e0]) (i := 1) rfl) H3 (Ex.refl H3) _ fun H4 e4 => ⟨e0, rfl, ⟨[], he0 H4⟩, fun i m σ' G => i = 0 ∧ G = H4, ⟨0, rfl, rfl⟩, ?_⟩
    rintro i m σ' G ⟨rfl, rfl⟩
    exact .inl ⟨⟨[], he0 G, Nat.le_refl _⟩, q G R pa (o3.trans (Off.ex e4)) hR (M3.same e4)⟩
end
/-! ### what calls keep -/
theorem set_liv {E : List Ent} {n : Int} {p' : Pr} (h : Liv (famE E)) (hp : p'.who.isSome = true → p'.code = none) : Liv (famE (setE E n p')) := fun e m hw => by
  obtain ⟨e1, m1, rfl⟩ := List.mem_map.mp m
  obtain ⟨e2, m2, rfl⟩ := List.mem_map.mp m1
  by_cases z : e2.1 = n
  · simp only [if_pos z] at hw ⊢
    exact hp hw
  · simp only [if_neg z] at hw ⊢
    exact h (e2.1, e2.2.2) (List.mem_map.mpr ⟨e2, m2, rfl⟩) hw
theorem par_liv {E : List Ent} {ks : List Int} {k : Int} (h : Liv (famE E)) : Liv (famE (parE E ks k)) := fun e m hw => by
  obtain ⟨e1, m1, rfl⟩ := List.mem_map.mp m
  obtain ⟨e2, m2, rfl⟩ := List.mem_map.mp m1
  have a := h (e2.1, e2.2.2) (List.mem_map.mpr ⟨e2, m2, rfl⟩)
  by_cases z : e2.1 ∈ ks
  · simp only [if_pos z] at hw ⊢
    exact a hw
  · simp only [if_neg z] at hw ⊢
    exact a hw
theorem liv_at {E : List Ent} {n : Int} {pa : Addr} {p : Pr} (h : Liv (famE E)) (l : E.lookup n = some (pa, p)) : p.who.isSome = true → p.code = none := h (n, p) (List.mem_map.mpr ⟨_, look_in l, rfl⟩)
theorem perf_liv {E : List Ent} {n : Int} {pa : Addr} {p : Pr} {c : Cl} {x : Addr} (h : Liv (famE E)) (l : E.lookup n = some (pa, p)) (hc : p.code = none) : Liv (famE (perfE E n p c x).1) := by
  have hp := liv_at h l
  cases c with
  | fork new =>
    show Liv (famE (forkE E n p new x).1)
    unfold forkE
    split
    · exact h
    · intro e m hw
      unfold famE at m
      rw [List.map_append] at m
      rcases List.mem_append.mp m with m | m
      · exact h e m hw
      · have : e = (new, newP (some n) p.ses p.grp) := by simpa using m
        rw [this] at hw
        cases hw
  | lead =>
    show Liv (famE (leadE E n p).1)
    unfold leadE
    split
    · exact h
    · split
      · exact h
      · exact set_liv h hp
  | adopt =>
    show Liv (famE (adoptE E n p).1)
    unfold adoptE
    split
    · exact h
    · exact set_liv h hp
  | join who g =>
    show Liv (famE (joinE E n who g).1)
    unfold joinE
    split
    · exact h
    · split
      · exact h
      · rename_i y hy
        split
        · exact h
        · split
          · exact h
          · exact set_liv h fun z => liv_at h (pa := y.1) (p := y.2) hy z
  | fin code =>
    show Liv (famE (doEndE E n p code).1)
    unfold doEndE
    split
    · exact h
    · exact set_liv (par_liv h) fun z => nomatch z
  | wait who =>
    show Liv (famE (doWaitE E n p who).1)
    unfold doWaitE
    split
    · exact h
    · split
      · exact h
      · unfold beginE
        split
        · rcases wait_one E n who with z | ⟨j, z⟩
          · rw [z]; exact h
          · rw [z]; exact drop_liv h
        · split
          · exact h
          · exact set_liv h fun _ => hc
  | about who => exact h
theorem perf_few {E : List Ent} {n : Int} {p : Pr} {c : Cl} {x : Addr} : (perfE E n p c x).1.length ≤ E.length + 1 := by
  have sl : ∀ (E : List Ent) (n : Int) (p : Pr), (setE E n p).length = E.length := fun E n p => by unfold setE; rw [List.length_map]
  cases c with
  | fork new =>
    show (forkE E n p new x).1.length ≤ _
    unfold forkE
    split
    · exact Nat.le_succ _
    · show (E ++ [_]).length ≤ _
      rw [List.length_append]
      exact Nat.le_refl _
  | lead =>
    show (leadE E n p).1.length ≤ _
    unfold leadE
    split
    · exact Nat.le_succ _
    · split
      · exact Nat.le_succ _
      · show (setE _ _ _).length ≤ _
        rw [sl]; exact Nat.le_succ _
  | adopt =>
    show (adoptE E n p).1.length ≤ _
    unfold adoptE
    split
    · exact Nat.le_succ _
    · show (setE _ _ _).length ≤ _
      rw [sl]; exact Nat.le_succ _
  | join who g =>
    show (joinE E n who g).1.length ≤ _
    unfold joinE
    split
    · exact Nat.le_succ _
    · split
      · exact Nat.le_succ _
      · split
        · exact Nat.le_succ _
        · split
          · exact Nat.le_succ _
          · show (setE _ _ _).length ≤ _
            rw [sl]; exact Nat.le_succ _
  | fin code =>
    show (doEndE E n p code).1.length ≤ _
    unfold doEndE
    split
    · exact Nat.le_succ _
    · show (setE (parE _ _ _) _ _).length ≤ _
      rw [sl]
      unfold parE
      rw [List.length_map]
      exact Nat.le_succ _
  | wait who =>
    show (doWaitE E n p who).1.length ≤ _
    unfold doWaitE
    split
    · exact Nat.le_succ _
    · split
      · exact Nat.le_succ _
      · unfold beginE
        split
        · rcases wait_one E n who with z | ⟨j, z⟩
          · rw [z]; exact Nat.le_succ _
          · rw [z]
            exact Nat.le_trans (List.length_filter_le _ _) (Nat.le_succ _)
        · split
          · exact Nat.le_succ _
          · show (setE _ _ _).length ≤ _
            rw [sl]; exact Nat.le_succ _
  | about who => exact Nat.le_succ _
/-- answers are given once each -/
theorem setR_keys {E E' : List Ent} {A A' : List (Int × PyData)} (s : SetR E A E' A') (adj : Adj (famE E) A) (nd : (A.map (·.1)).Nodup) : (A'.map (·.1)).Nodup ∧ Adj (famE E') A' ∧ A'.length + (waitK (famE E')).length ≤ A.length + (waitK (famE E)).length := by
  induction s with
  | nil => exact ⟨nd, adj, Nat.le_refl _⟩
  | @step E1 A1 k s hk hr ih =>
    obtain ⟨i1, i2, i3⟩ := ih
    have mw := (List.mem_filter.mp hk).1
    refine ⟨?_, step_adj i2, ?_⟩
    · show ((A1 ++ [(k, (waitE E1 k (whoOf (famE E1) k)).2)]).map (·.1)).Nodup
      rw [List.map_append]
      refine List.nodup_append.mpr ⟨i1, by simp, fun a ma b mb z => ?_⟩
      have hb : b = k := by simpa using mb
      obtain ⟨y, my, ey⟩ := List.mem_map.mp ma
      exact i2 y my (by rw [ey, z, hb]; exact mw)
    · have lt := step_len (A := A1) mw
      have : (stepE E1 A1 k).2.length = A1.length + 1 := by
        show (A1 ++ [_]).length = _
        rw [List.length_append]
        rfl
      omega
theorem wait_le (S : Fam) : (waitK S).length ≤ S.length := by
  unfold waitK
  rw [List.length_map]
  exact List.length_filter_le _ _
end K02
set_option Elab.async false
set_option linter.all false
set_option maxRecDepth 100000
set_option maxHeartbeats 4000000
namespace K02
open PySem PySem.Spec PyProof.Rows L2 Evl KB
/-! ### calls of families, sends too -/
inductive Cs
  | fam (c : Cl) | send (k : Kd) (who : Int)
def Cs.name : Cs → Str
  | .fam c => c.name | .send _ _ => "send"
def Cs.argV : Cs → List V
  | .fam c => c.args.map V.int | .send k who => [.str k.word, .int who]
def Cs.vals (c : Cs) : List V := .str c.name :: c.argV
def perfES (E : List Ent) (n : Int) (p : Pr) (c : Cs) (x : Addr) : List Ent × PyData := match c with
  | .fam c => perfE E n p c x
  | .send k who => sendE E k who
def perfA (S : Fam) (c : Cs) : List (Int × PyData) := match c with
  | .fam _ => []
  | .send k who => sendA S k who
/-- the table of the calls of families, with send -/
structure FamS (K : PySem.W.Frag) (w : World) (mg : Str → Option Value) : Prop where
  ex : ∃ d es n, mg "FAMILY_CALLS" = some (.ref d) ∧ KDict K w d es n ∧ (∀ c : Cl, ∃ f, PySem.W.nsIn K d c.name = some (some (.ref f)) ∧ mg c.fn = some (.ref f)) ∧ ∃ f, PySem.W.nsIn K d "send" = some (some (.ref f)) ∧ mg "do_send" = some (.ref f)
def spPerformS (CW CP tP : Addr) : Sp := fun vs H Q _ => ∃ R wa E n pa p t c, vs = [.ref wa, .ref pa, .ref t] ∧ H t = some (.tup (Cs.vals c)) ∧ WAt H CW CP tP R wa E [] ∧ E.length < 63 ∧ E.lookup n = some (pa, p) ∧ p.code = none ∧ p.who = none ∧ Ord (famE E) ∧ ∀ x, RetE H CW CP tP R wa (perfES E n p c x).1 (perfA (famE E) c) (perfES E n p c x).2 Q
section
variable {P : Program} {w : World} {K : PySem.W.Frag} {mg : Str → Option Value} {base : Heap} {CW CP tP f : Addr} {fd : FuncData} {t0 : Tok}
theorem fam_heldS {L : Nat} (hL : 8 ≤ L) (T : FamS K w mg) (G_fork : Kf P w K mg base 3 "do_fork" ["world", "caller", "new"] (spDoFork CW CP tP)) (G_lead : Kf P w K mg base 2 "do_lead" ["world", "caller"] (spDoLead CW CP tP)) (G_adopt : Kf P w K mg base 2 "do_adopt" ["world", "caller"] (spDoAdopt CW CP tP))
    (G_join : Kf P w K mg base 3 "do_join" ["world", "caller", "who", "group"] (spDoJoin CW CP tP)) (G_end : Kf P w K mg base 7 "do_end" ["world", "caller", "code"] (spDoEnd CW CP tP)) (G_wait : Kf P w K mg base 5 "do_wait" ["world", "caller", "who"] (spDoWait CW CP tP)) (G_about : Kf P w K mg base 2 "do_about" ["world", "caller", "who"] (spDoAbout CW CP tP)) (G_send : Kf P w K mg base 8 "do_send" ["world", "caller", "kind", "who"] (spDoSend CW CP tP)) :
    ∃ d es n, mg "FAMILY_CALLS" = some (.ref d) ∧ KDict K w d es n ∧ ∀ c : Cs, ∃ f sp, PySem.W.nsIn K d c.name = some (some (.ref f)) ∧ Held P w K mg base L f sp ∧
      ∀ H Q R wa E n pa p, WAt H CW CP tP R wa E [] → E.length < 63 → E.lookup n = some (pa, p) → p.code = none → p.who = none → Ord (famE E) → (∀ x, RetE H CW CP tP R wa (perfES E n p c x).1 (perfA (famE E) c) (perfES E n p c x).2 Q) → sp (.ref wa :: .ref pa :: c.argV) H Q (fun _ _ _ => False) := by
  obtain ⟨d, es, n, m, D, hc, f, h1, h2⟩ := T.ex
  have TC : FamC K w mg := ⟨d, es, n, m, D, hc⟩
  obtain ⟨d', es', n', m', D', hc'⟩ := fam_held (L := L) (by omega) TC G_fork G_lead G_adopt G_join G_end G_wait G_about
  rw [m] at m'
  have e0 : d = d' := by
    have := Option.some.inj m'
    injection this
  subst e0
  refine ⟨d, es, n, m, D, fun c => ?_⟩
  cases c with
  | fam c =>
    obtain ⟨f, sp, a1, a2, a3⟩ := hc' c
    exact ⟨f, sp, a1, a2, fun H Q R wa E n pa p W few l hc hw O q => a3 H Q R wa E [] n pa p W few l hc hw O q⟩
  | send k who =>
    obtain ⟨k', hk, hh⟩ := kf_held G_send h2
    exact ⟨f, _, h1, held_mono hh (by omega), fun H Q R wa E n pa p W few l hc hw O q => ⟨R, wa, E, [], .ref pa, k, who, rfl, W, by omega, by show 0 < 1000; omega, fun _ _ _ => List.not_mem_nil, O, q 0⟩⟩
theorem ok_performS (F : Fun K "perform" "perform" sPerform f fd) (T : FamS K w mg) (G_do_fork : Kf P w K mg base 3 "do_fork" ["world", "caller", "new"] (spDoFork CW CP tP)) (G_do_lead : Kf P w K mg base 2 "do_lead" ["world", "caller"] (spDoLead CW CP tP)) (G_do_adopt : Kf P w K mg base 2 "do_adopt" ["world", "caller"] (spDoAdopt CW CP tP)) (G_do_join : Kf P w K mg base 3 "do_join" ["world", "caller", "who", "group"] (spDoJoin CW CP tP)) (G_do_end : Kf P w K mg base 7 "do_end" ["world", "caller", "code"] (spDoEnd CW CP tP)) (G_do_wait : Kf P w K mg base 5 "do_wait" ["world", "caller", "who"] (spDoWait CW CP tP)) (G_do_about : Kf P w K mg base 2 "do_about" ["world", "caller", "who"] (spDoAbout CW CP tP)) (G_do_send : Kf P w K mg base 8 "do_send" ["world", "caller", "kind", "who"] (spDoSend CW CP tP)) : FnOk P w K mg base CX0 9 f fd ["world", "caller", "call"] (spPerformS CW CP tP) := by
  obtain ⟨d, es, nn, c_FAM, D, held⟩ := fam_heldS (L := 8) (Nat.le_refl 8) T G_do_fork G_do_lead G_do_adopt G_do_join G_do_end G_do_wait G_do_about G_do_send
  refine F.ok scPerform (fun vs H Q E h => ?_) (fun cdv A outer s H vs Q E hr h => ?_)
  · obtain ⟨R, wa, E, n, pa, p, t, c, rfl, _⟩ := h
    rfl
  · obtain ⟨R, wa, E, n, pa, p, t, c, rfl, ht, W0, few, l, hc, hw, O, q⟩ := h
    have nd := scPerform.nd
    refine ⟨_, (pss_cons (ps_set (i := 3) nd rfl (by first | exact .inl rfl | exact .inr rfl) (pe_ix ix_seq (pv 2) pe_int (fun _ _ => rfl)))
      (pss_cons (ps_set (i := 4) nd rfl (by first | exact .inl rfl | exact .inr rfl) (pe_slice sl_tupA (pv 2) (po_some pe_int) po_none))
      (pss_cons (ps_if (pt_cmpR (op_in_kd D) (pv 3) (pe_glob (v := .ref d) rfl c_FAM rfl) (by rfl)) (pss_cons (ps_set (i := 5) nd rfl (by first | exact .inl rfl | exact .inr rfl) (pe_ix ix_kdict (pe_glob (v := .ref d) rfl c_FAM rfl) (pv 3) (fun _ _ => rfl)))
      (pss_one (ps_ret (pe_callSH (k := 8) (i := 5) hr rfl (by first | exact .inl rfl | exact .inr rfl) (pa_cons (pv 0) (pa_cons (pv 1) (StX.pa_star (pv 4) pa_nil))))))) pss_nil)
      pss_f))), ?_⟩
    obtain ⟨fc, sp, hn, hh, hsp⟩ := held c
    refine q_asg (ev_op (ev_var rfl) ev_c (rv_ixq (i := 0) (.inr ht) rfl)) fun H1 e1 => ?_
    refine q_asgR ?_
    refine (ev_var (σ := [some (.ref wa), some (.ref pa), some (.ref t), some (.str c.name), none, none, none]) (i := 2) rfl) H1 (Ex.refl H1) _ fun H2 e2 => ⟨1, rfl, t, c.vals, rfl, SqT.of ((e1.trans e2) _ _ ht), fun z => absurd z (cut_part _ _), fun _ r nr => ?_⟩
    have e3 : Ex H2 (upd H2 r (.tup (cutV c.vals (some 1) none))) := Ex.new nr
    have gr : upd H2 r (.tup (cutV c.vals (some 1) none)) r = some (.tup (c.argV)) := by rw [upd_same]; unfold Cs.vals; rw [cut_one]
    generalize upd H2 r (.tup (cutV c.vals (some 1) none)) = H3 at e3 gr ⊢
    have e03 := e1.trans (e2.trans e3)
    show tSeq _ _ _ [some (.ref wa), some (.ref pa), some (.ref t), some (.str c.name), some (.ref r), none, none] H3
    refine q_when (b := true) (et_is (et_test (ev_op (z := .bl true) (ev_var rfl) ev_c fun H' e' Q' q' => ⟨c.name, _, rfl, rfl, hn, q' H' (Ex.refl H')⟩)) rfl) (fun _ H4 e4 => ?_) (fun hb => nomatch hb)
    refine q_asg (ev_op (z := .ref fc) ev_c (ev_var rfl) fun H' e' Q' q' => ⟨d, c.name, .ref fc, rfl, rfl, ⟨es, nn, _, D.at_, D.lit, hn, rfl⟩, q' H' (Ex.refl H')⟩) fun H5 e5 => ?_
    show tRet (tCallH _ 8 5 _) _ [some (.ref wa), some (.ref pa), some (.ref t), some (.str c.name), some (.ref r), some (.ref fc), none] H5
    have e05 := e03.trans (e4.trans e5)
    refine ⟨fc, sp, rfl, hh, ?_⟩
    refine (ev_var (σ := [some (.ref wa), some (.ref pa), some (.ref t), some (.str c.name), some (.ref r), some (.ref fc), none]) (i := 0) rfl) H5 (Ex.refl H5) _ fun H6 e6 => (ev_var (σ := [some (.ref wa), some (.ref pa), some (.ref t), some (.str c.name), some (.ref r), some (.ref fc), none]) (i := 1) rfl) H6 (Ex.refl H6) _ fun H7 e7 => (ev_var (σ := [some (.ref wa), some (.ref pa), some (.ref t), some (.str c.name), some (.ref r), some (.ref fc), none]) (i := 4) rfl) H7 (Ex.refl H7) _ fun H8 e8 => ⟨r, c.argV, rfl, .inl (SqT.of ((e4.trans (e5.trans (e6.trans (e7.trans e8)))) _ _ gr)), ?_⟩
    have e08 := e05.trans (e6.trans (e7.trans e8))
    show sp (.ref wa :: .ref pa :: (c.argV ++ [])) H8 Q _
    rw [List.append_nil]
    exact hsp H8 Q R wa E n pa p (W0.ex e08) few l hc hw O fun x => (q x).pre e08
end
end K02
set_option Elab.async false
set_option linter.all false
set_option maxRecDepth 100000
set_option maxHeartbeats 4000000
namespace K02
open PySem PySem.Spec PyProof.Rows L2 Evl KB
mutual
/-- an object is changed: lists and tuples stay -/
theorem dx_ins {H : Hp} {a C dx : Addr} {fs : List (Str × V)} {o : HO} (h : H a = some (.ins C dx fs)) : ∀ {v : V} {d : PyData}, Dx H v d → Dx (upd H a o) v d
  | _, _, .non => .non
  | _, _, .bl b => .bl b
  | _, _, .int i => .int i
  | _, _, .str x => .str x
  | _, _, .lst e k => .lst ((upd_ne (fun z => by rw [z, h] at e; cases e)).trans e) (dxs_ins h k)
  | _, _, .tup e k => .tup ((upd_ne (fun z => by rw [z, h] at e; cases e)).trans e) (dxs_ins h k)
theorem dxs_ins {H : Hp} {a C dx : Addr} {fs : List (Str × V)} {o : HO} (h : H a = some (.ins C dx fs)) : ∀ {vs : List V} {ds : List PyData}, DxAll H vs ds → DxAll (upd H a o) vs ds
  | _, _, .nil => .nil
  | _, _, .cons h1 t => .cons (dx_ins h h1) (dxs_ins h t)
end
theorem ans_look {H : Hp} : ∀ (vs : List (Int × V)) (A : List (Int × PyData)), vs.map (·.1) = A.map (·.1) → (∀ (i : Nat) x y, vs[i]? = some x → A[i]? = some y → Tp H x.2 y.2) → ∀ k ∈ A.map (·.1), ∃ v d, valV (vs.map fun x => ((Sum.inl x.1 : Key), x.2)) (Sum.inl k) = some v ∧ A.lookup k = some d ∧ Tp H v d
  | [], [], _, _, k, m => nomatch m
  | [], _ :: _, h, _, _, _ => nomatch h
  | _ :: _, [], h, _, _, _ => nomatch h
  | x :: vs, y :: A, h, ht, k, m => by
    rw [List.map_cons, List.map_cons] at h
    injection h with h1 h2
    by_cases z : k = y.1
    · refine ⟨x.2, y.2, ?_, ?_, ht 0 x y rfl rfl⟩
      · rw [List.map_cons, valV_pos (by rw [h1, z])]
      · rw [List.lookup_cons, beq_iff_eq.mpr z]
    · obtain ⟨v, d, e1, e2, e3⟩ := ans_look vs A h2 (fun i x y hx hy => ht (i + 1) x y (by simpa using hx) (by simpa using hy)) k ((List.mem_cons.mp m).resolve_left z)
      refine ⟨v, d, ?_, ?_, e3⟩
      · rw [List.map_cons, valV_neg (fun w => z (by rw [← h1]; exact (Sum.inl.inj w).symm))]
        exact e1
      · rw [List.lookup_cons, beq_eq_false_iff_ne.mpr z]
        exact e2
/-- the answers of others, as they are told -/
def ansD (A : List (Int × PyData)) : List PyData := (asc (A.map (·.1))).map fun k => .tuple [.int k, (A.lookup k).getD .none]
section
variable {H : Hp} {CW CP tP wa pd ad fi th pi si ar dx : Addr} {ser : Int} {R : List Addr} {E : List Ent} {A : List (Int × PyData)}
/-- nothing is answered any more -/
theorem WAd.ans0 {ad' : Addr} (W : WAd H CW CP tP R wa pd ad fi th pi si ar dx ser E A) (hn : H ad' = some (.dK [])) (nR : ad' ∉ R) :
    WAd (upd H wa (.ins CW dx (wFs pd fi th pi si ar ser ad'))) CW CP tP (ad' :: R) wa pd ad' fi th pi si ar dx ser E [] ∧ Fr [wa] H (upd H wa (.ins CW dx (wFs pd fi th pi si ar ser ad'))) := by
  have f : Fr [wa] H (upd H wa (.ins CW dx (wFs pd fi th pi si ar ser ad'))) := Fr.upd W.obj True.intro (List.mem_singleton.mpr rfl)
  have keep : ∀ {b : Addr} {o : HO}, H b = some o → b ≠ wa → upd H wa (.ins CW dx (wFs pd fi th pi si ar ser ad')) b = some o := fun hb nb => (upd_ne nb).trans hb
  have nw : ∀ {b : Addr} {o : HO}, H b = some o → (∀ C d fs, o ≠ .ins C d fs) → b ≠ wa := fun hb no z => by
    rw [z, W.obj] at hb
    cases hb
    exact no _ _ _ rfl
  have mR : ∀ {b : Addr}, b ∈ R → b ∈ ad' :: R := fun m => List.mem_cons_of_mem _ m
  have ne : ∀ {b : Addr}, b ∈ R → b ≠ ad' := fun m z => nR (by rw [← z]; exact m)
  refine ⟨⟨upd_same, keep W.top (nw W.top (fun _ _ _ z => by cases z)), fun e m => ?_, ⟨[], keep hn (nw hn (fun _ _ _ z => by cases z)), rfl, fun i x y h => by simp at h⟩, fun b mb => ⟨keep (W.em b mb).1 (nw (W.em b mb).1 (fun _ _ _ z => by cases z)), ne (W.em b mb).2.2, mR (W.em b mb).2.2⟩, W.ne, W.keys, (ne W.inR.2.1).symm, ⟨mR W.inR.1, mR W.inR.2.1, List.mem_cons_self⟩, W.cls, fun b m => ?_, tab_fr W.tab.1 f (tab_ne W.tab.1 W.obj (fun _ z => by cases z)), mR W.tab.2⟩, f⟩
  · obtain ⟨d1, v1, c1, g1, s1, k1, k2, k3, k4, k5, k6, k7, k8⟩ := (W.recs e m).is
    exact ⟨⟨d1, v1, c1, g1, s1, keep k1 (W.pne m).1, k2.fr f, keep k3 (nw k3 (fun _ _ _ z => by cases z)), k4, keep k5 (nw k5 (fun _ _ _ z => by cases z)), ne k8, mR k7, mR k8⟩, mR (W.recs e m).inR⟩
  · refine alo_upd ?_
    rcases List.mem_cons.mp m with rfl | m
    · exact ⟨_, hn⟩
    · exact W.alo b m
end
section
variable {K : PySem.W.Frag} {σ : L2.St} {H : Hp} {ta : TE}
/-- tuple(x) of a tuple or a list -/
theorem ep_tup {t : Addr} {xs : List V} (h : Ev ta σ H (.ref t)) (ht : H t = some (.tup xs) ∨ H t = some (.lst xs)) : EvP (tThen ta (kTup K)) σ H (fun v G => ∃ t', v = .ref t' ∧ G t' = some (.tup xs)) := fun H1 e1 Q q =>
  h H1 e1 _ fun H2 e2 => by
    rcases ht with ht | ht
    · exact .inr ⟨t, xs, rfl, st_of ((e1.trans e2) _ _ ht), q _ H2 e2 ⟨t, rfl, (e1.trans e2) _ _ ht⟩⟩
    · exact .inl ⟨t, xs, rfl, sq_of ((e1.trans e2) _ _ ht), fun r nr => q _ _ (e2.trans (Ex.new nr)) ⟨r, rfl, upd_same⟩⟩
end
theorem q_asgC3 {K : PySem.W.Frag} {σ : L2.St} {H : Hp} {t1 t2 t3 : TE} {tz : TS} {D : Ends} {i : Nat} {sp : Sp} {a b : V} {P : V → Hp → Prop} (h1 : Ev t1 σ H a) (h2 : Ev t2 σ H b) (h3 : EvP t3 σ H P) (k : ∀ v H1, Ex H H1 → P v H1 → sp [a, b, v] H1 (fun v H2 => tz D (σ.set i (some v)) H2) E0) :
    tSeq (tAsg (tCall sp [] E0 (tCons t1 (tCons t2 (tCons t3 tNil)))) (gName i)) tz D σ H :=
  h1 H (Ex.refl H) _ fun H1 e1 => h2 H1 e1 _ fun H2 e2 => h3 H2 (e1.trans e2) _ fun v H3 e3 g => k v H3 (e1.trans (e2.trans e3)) g
abbrev sMDo : Stmt := inClass (topS 89) 1
abbrev nMDo : List Str := ["self", "number", "call", "world", "answer", "at", "others"]
theorem scMDo : FnScope nMDo ["self", "number", "call"] (defScope sMDo) := ⟨rfl, rfl, rfl, by decide +kernel, rfl, by decide +kernel, by decide +kernel⟩
abbrev sMNumbers : Stmt := inClass (topS 89) 2
abbrev nMNumbers : List Str := ["self"]
theorem scMNumbers : FnScope nMNumbers ["self"] (defScope sMNumbers) := ⟨rfl, rfl, rfl, by decide +kernel, rfl, by decide +kernel, by decide +kernel⟩
/-- what do does when its process runs -/
def DoQ (H : Hp) (CM CW CP tP : Addr) (R : List Addr) (ma : Addr) (E : List Ent) (n : Int) (c : Cl) (Q : VK) : Prop := ∀ pa p, E.lookup n = some (pa, p) → ∀ x E2 A2 v H' R', SetR (perfE E n p c x).1 [] E2 A2 → (∀ k ∈ turnK (famE E2), readyB (famE E2) k = false) → Fr R H H' → (∀ b ∈ R, b ∈ R') → (∀ b ∈ R', b ∈ R ∨ H b = none) →
  MaAt H' CM CW CP tP R' ma E2 → Dx H' v (.tuple [(perfE E n p c x).2, .list (ansD A2)]) → Q v H'
def spMDo (CM CW CP tP CN : Addr) : Sp := fun vs H Q X => ∃ R ma E n t c, vs = [.ref ma, .int n, .ref t] ∧ (H t = some (.tup (Cl.vals c)) ∨ H t = some (.lst (Cl.vals c))) ∧ MaAt H CM CW CP tP R ma E ∧ E.length < 63 ∧ Ord (famE E) ∧ Liv (famE E) ∧ n.natAbs.log2 < 900 ∧
  ((famE E).runs n = false → ∀ d H2, H d = none → Ex H H2 → H2 d = some (.xd [("number", .int n)]) → X (.ref CN) (some d) H2) ∧ ((famE E).runs n = true → DoQ H CM CW CP tP R ma E n c Q)
def spMNumbers (CM CW CP tP : Addr) : Sp := fun vs H Q _ => ∃ R ma E, vs = [.ref ma] ∧ MaAt H CM CW CP tP R ma E ∧ E.length < 64 ∧ RetL ((famE E).sorted.map V.int) H Q
section
variable {P : Program} {w : World} {K : PySem.W.Frag} {mg : Str → Option Value} {base : Heap} {CM CW CP tP CN f : Addr} {fd : FuncData} {t0 : Tok}
theorem ok_MNumbers (F : Fun K "numbers" "Machine.numbers" sMNumbers f fd) (TM : MT K CM) (TW : WT K CW) (m_sorted : mg "sorted" = none) : FnOk P w K mg base CX0 1 f fd ["self"] (spMNumbers CM CW CP tP) := by
  refine F.ok scMNumbers (fun vs H Q E h => ?_) (fun cdv A outer s H vs Q E hr h => ?_)
  · obtain ⟨R, ma, E, rfl, _⟩ := h
    rfl
  · obtain ⟨R, ma, E, rfl, M, few, q⟩ := h
    obtain ⟨wa, dx, hm, pd, ad, fi, th, pi, si, ar, dx', ser, W⟩ := M.ex
    refine ⟨_, (pss_one (ps_ret (pe_callB (cr_srtD rfl) (by rfl) m_sorted (by decide +kernel) (pa_cons (pe_fld (pe_fld (pv 0) rfl) rfl) pa_nil)))), ?_⟩
    exact s_retL (el_sorted TW W (ev_fld (ev_var rfl) hm TM.cls TM.n1 rfl) few) q
theorem ok_MDo (F : Fun K "do" "Machine.do" sMDo f fd) (TM : MT K CM) (TW : WT K CW) (TP : PT K CP) (X_NotRunning : Ke P w K mg base 2 CN "NotRunning" (spInit CN "number")) (G_Process_runs : Km P w K mg base 1 CP "runs" ["self"] (spRuns CW CP tP)) (G_perform : Kf P w K mg base 8 "perform" ["world", "caller", "call"] (spPerform CW CP tP)) (G_settle : Kf P w K mg base 5 "settle" ["world"] (spSettle CW CP tP)) (m_sorted : mg "sorted" = none) (m_tuple : mg "tuple" = none) : FnOk P w K mg base (L2.CX P w) 9 f fd ["self", "number", "call"] (spMDo CM CW CP tP CN) := by
  refine F.okX scMDo (fun vs H Q E h => ?_) (fun cdv A outer s H vs Q E hr h => ?_)
  · obtain ⟨R, ma, E, n, t, c, rfl, _⟩ := h
    rfl
  · obtain ⟨R, ma, E, n, t, c, rfl, ht, M, few, O, liv, hn9, qe, q⟩ := h
    have nd := scMDo.nd
    have hu := hu_of hr
    refine ⟨_, (pss_cons (ps_set (i := 3) nd rfl (by first | exact .inl rfl | exact .inr rfl) (pe_fld (pv 0) rfl))
      (pss_cons (ps_if (PW.pt (pw_or (pt_cmp (pc_dnotin hu (pv 1) (pe_fld (pv 3) rfl))) (pw_or1 (pt_not (pt_val (pe_mt0 (pe_dget hu (pe_fld (pv 3) rfl) (pv 1) (fun _ _ => rfl)) G_Process_runs (hr.mono (by decide)))))))) (pss_one (ps_raise rfl (takes_of rfl rfl rfl rfl) (pmk_C X_NotRunning (hr.mono (by decide)) (pa_cons (pv 1) pa_nil)))) pss_nil)
      (pss_cons (ps_set (i := 4) nd rfl (by first | exact .inl rfl | exact .inr rfl) (pe_fn G_perform (hr.mono (by decide)) (pa_cons (pv 3) (pa_cons (pe_dget hu (pe_fld (pv 3) rfl) (pv 1) (fun _ _ => rfl)) (pa_cons (pe_tupleOf (by rfl) m_tuple (pv 2)) pa_nil)))))
      (pss_cons (ps_expr (pe_fn G_settle (hr.mono (by decide)) (pa_cons (pv 3) pa_nil)))
      (pss_cons (ps_setLc (i := 6) (own := [("at", 5)]) (g := gName 5) (tt := tYes) (te := tTup (tCons (tVar 5) (tCons (tDGet (tFld K (tVar 3) "answered") (tVar 5)) tNil))) rfl nd rfl rfl (sw_true rfl rfl rfl (by decide +kernel)) (pi_list (pe_callB (cr_srtD rfl) (by rfl) m_sorted (by decide +kernel) (pa_cons (pe_fld (pv 3) rfl) pa_nil))) (blkOk_by (N := nMDo) (sc := defScope sMDo) (by decide +kernel)) (fun _ _ _ _ _ => (pg_name (i := 5) nd rfl (by first | exact .inl rfl | exact .inr rfl))) (fun _ _ _ _ _ => pts_nil) (fun _ _ _ _ _ => (pe_tup (pa_cons (pv 5) (pa_cons (pe_dget hu (pe_fld (pv 3) rfl) (pv 5) (fun _ _ => rfl)) pa_nil)))))
      (pss_cons (ps_fld (pv 3) pe_dnewK rfl)
      (pss_one (ps_ret (pe_tup (pa_cons (pv 4) (pa_cons (pv 6) pa_nil))))))))))), ?_⟩
    obtain ⟨wa, dxm, hm, W0⟩ := M.ex
    have W0' := W0
    obtain ⟨pd, ad, fi, th, pi, si, ar, dx, ser, W⟩ := W0'
    refine q_asg (ev_fld (ev_var rfl) hm TM.cls TM.n1 rfl) fun H1 e1 => ?_
    have W1 := W.ex e1
    have bb : (!decide (n ∈ E.map (·.1)) || !(famE E).runs n) = !(famE E).runs n := by
      by_cases z : n ∈ E.map (·.1)
      · rw [decide_eq_true z]; rfl
      · unfold Fam.runs
        rw [fam_no z, decide_eq_false z]
        rfl
    refine q_when (b := !(famE E).runs n) (et_is (et_or (et_B (ev_pnin TW W1 (ev_var rfl) (ev_var rfl))) fun hb => ?_) bb) (fun hb H2 e2 => ?_) (fun hb H2 e2 => ?_)
    · have z : n ∈ E.map (·.1) := by simpa using hb
      obtain ⟨pa, p, l, _⟩ := look_some z
      obtain ⟨d1, v1, c1, g1, s1, k1, _⟩ := (W1.rec1 l).is
      refine et_not (et_B (ev_meth0 (ev_proc TW W1 (ev_var rfl) (ev_var rfl) l) k1 rfl fun H3 e3 Q q E' => ⟨R, wa, E, [], n, pa, p, rfl, (W0.ex e1).ex e3, l, q⟩))
    · exact s_raise (ev_var rfl) (.inl ⟨n, rfl, hn9⟩) fun d H3 nd' e3 gd => qe (by simpa using hb) d H3 (fresh_back (e1.trans e2) nd') (e1.trans (e2.trans e3)) gd
    have hrun : (famE E).runs n = true := by simpa using hb
    have q := q hrun
    have z : n ∈ E.map (·.1) := by
      by_cases z : n ∈ E.map (·.1)
      · exact z
      · unfold Fam.runs at hrun
        rw [fam_no z] at hrun
        cases hrun
    obtain ⟨pa, p, l, _⟩ := look_some z
    have hcw : p.code = none ∧ p.who = none := by
      unfold Fam.runs at hrun
      rw [fam_in l] at hrun
      have hrun : (p.code.isNone && !p.stp && p.who.isNone) = true := hrun
      simp only [Bool.and_eq_true, Option.isNone_iff_eq_none] at hrun
      exact ⟨hrun.1.1, hrun.2⟩
    have W2 := W1.ex e2
    have q := q pa p l
    have e02 := e1.trans e2
    refine q_asgC3 (K := K) (ev_var rfl) (ev_proc TW W2 (ev_var rfl) (ev_var rfl) l) (ep_tup (ev_var rfl) (ht.imp (e02 _ _) (e02 _ _))) fun v5 H5 e5 hv5 => ?_
    obtain ⟨t', rfl, ht'⟩ := hv5
    have e05 := e02.trans e5
    refine ⟨R, wa, E, [], n, pa, p, t', c, rfl, ht', W0.ex e05, few, l, hcw.1, hcw.2, O, fun x v H6 R6 f6 s6 t6 W6 g6 => ?_⟩
    show tSeq _ _ _ [some (.ref ma), some (.int n), some (.ref t), some (.ref wa), some v, none, none] H6
    have F6 : Fr R H H6 := (Fr.same e05).trans f6
    have T6 : ∀ b ∈ R6, b ∈ R ∨ H b = none := fun b m => (t6 b m).imp id (fresh_back e05)
    have few6 : (perfE E n p c x).1.length < 64 := by have := perf_few (E := E) (n := n) (p := p) (c := c) (x := x); omega
    have liv6 := perf_liv (c := c) (x := x) liv l hcw.1
    have adj6 : Adj (famE (perfE E n p c x).1) [] := fun _ m => nomatch m
    refine q_exC (ea_cons (ev_var rfl) ea_nil) fun H7 e7 => ⟨R6, wa, _, [], rfl, W6.ex e7, few6, ?_, liv6, adj6, fun H8 R8 E8 A8 f8 s8 t8 sr hno W8 => ?_⟩
    · have := wait_le (famE (perfE E n p c x).1)
      have h2 : (famE (perfE E n p c x).1).length = (perfE E n p c x).1.length := List.length_map _
      show 0 + _ < 1000
      omega
    have F8 : Fr R H H8 := (F6.trans (Fr.same e7)).comp f8 T6
    have T8 : ∀ b ∈ R8, b ∈ R ∨ H b = none := fun b m => by
      rcases t8 b m with y | y
      · exact T6 b y
      · exact fr_back (F6.trans (Fr.same e7)) y
    have g8 : Tp H8 v (perfE E n p c x).2 := (g6.ex e7).fr f8
    obtain ⟨kn, _, kl⟩ := setR_keys sr adj6 List.nodup_nil
    have lenA : A8.length < 64 := by
      have := wait_le (famE (perfE E n p c x).1)
      have h2 : (famE (perfE E n p c x).1).length = (perfE E n p c x).1.length := List.length_map _
      have h3 : ([] : List (Int × PyData)).length = 0 := rfl
      omega
    obtain ⟨pd8, ad8, fi8, th8, pi8, si8, ar8, dx8, ser8, W8⟩ := W8
    obtain ⟨vs, a1, a2, a3⟩ := W8.ans
    have key : (vs.map fun x => ((Sum.inl x.1 : Key), x.2)).map (·.1) = (A8.map (·.1)).map Sum.inl := by
      rw [← a2, List.map_map, List.map_map]
      rfl
    have lens : EvL (tCB rSrtD (tCons (tFld K (tVar 3) "answered") tNil)) [some (.ref ma), some (.int n), some (.ref t), some (.ref wa), some v, none, none] H8 ((asc (A8.map (·.1))).map V.int) :=
      el_srtD (ev_fld (ev_var rfl) W8.obj TW.cls TW.n8 rfl) (.inl a1) key kn (by rw [List.length_map]; exact lenA)
    have lc := ex_lcN (K := K) (t := tYes) (te := tTup (tCons (tVar 5) (tCons (tDGet (tFld K (tVar 3) "answered") (tVar 5)) tNil))) (j := 5) (vs := [5]) V.int (fun _ => true) (fun k => .tuple [.int k, (A8.lookup k).getD .none]) lens (by
        have := len_asc (A8.map (·.1))
        rw [List.length_map] at this
        omega) (fun x => rfl) (fun k mk G e => et_yes) (fun k mk _ G e => by
        obtain ⟨u, d, h1, h2, h3⟩ := ans_look vs A8 a2 a3 k (mem_asc.mp mk)
        rw [h2]
        exact em_tup (ea_cons (ev_var rfl) (ea_cons (ev_dget (ev_fld (ev_var rfl) (e _ _ W8.obj) TW.cls TW.n8 rfl) (ev_var rfl) (e _ _ a1) h1) ea_nil)) (.cons (.int _) (.cons (h3.ex e).dx .nil)) (by show 2 ≤ 100000; omega))
    rw [Evl.filter_all] at lc
    refine q_asgX lc fun ov H9 e9 dv => ?_
    show tSeq _ _ _ [some (.ref ma), some (.int n), some (.ref t), some (.ref wa), some v, none, some ov] H9
    refine q_fldD ed_new (ev_var rfl) (e9 _ _ W8.obj) TW.cls TW.n8 (by show 8 < 1000; omega) fun na H10 nna e10 gna => ?_
    have naR : na ∉ R8 := fun m => by
      obtain ⟨o, ho⟩ := W8.alo na m
      rw [e9 _ _ ho] at nna
      cases nna
    obtain ⟨W11, f11⟩ := ((W8.ex e9).ex e10).ans0 gna naR
    have hwa := (e9.trans e10) _ _ W8.obj
    have F11 : Fr R H (upd H10 wa (.ins CW dx8 (wFs pd8 fi8 th8 pi8 si8 ar8 ser8 na))) := (F8.trans (Fr.same (e9.trans e10))).comp f11 fun b m => by rw [List.mem_singleton.mp m]; exact T8 _ W8.inR.1
    have d11 := dx_ins (o := .ins CW dx8 (wFs pd8 fi8 th8 pi8 si8 ar8 ser8 na)) hwa (dv.mono e10)
    have g11 := (g8.ex (e9.trans e10)).fr f11
    show tRet _ _ [some (.ref ma), some (.int n), some (.ref t), some (.ref wa), some v, none, some ov] (upd H10 wa (.ins CW dx8 (wFs pd8 fi8 th8 pi8 si8 ar8 ser8 na)))
    generalize upd H10 wa (.ins CW dx8 (wFs pd8 fi8 th8 pi8 si8 ar8 ser8 na)) = H11 at W11 f11 F11 d11 g11 ⊢
    refine s_retX (em_tup (ea_cons (ev_var rfl) (ea_cons (ev_var rfl) ea_nil)) (.cons g11.dx (.cons d11 .nil)) (by show 2 ≤ 100000; omega)).x fun rv H12 e12 dr => ?_
    have T12 : ∀ b ∈ na :: R8, b ∈ R ∨ H b = none := fun b m => by
      rcases List.mem_cons.mp m with rfl | m
      · exact fr_back (F8.trans (Fr.same e9)) nna
      · exact T8 b m
    have F12 := F11.trans (Fr.same e12)
    refine q x E8 A8 rv H12 (na :: R8) sr hno F12 (fun b m => List.mem_cons_of_mem _ (s8 b (s6 b m))) T12 ⟨⟨wa, dxm, F12 _ _ hm (.inl M.no), pd8, na, fi8, th8, pi8, si8, ar8, dx8, ser8, W11.ex e12⟩, fun m => ?_⟩ dr
    rcases T12 ma m with y | y
    · exact M.no y
    · rw [hm] at y; cases y
end
end K02
set_option Elab.async false
set_option linter.all false
set_option maxRecDepth 100000
set_option maxHeartbeats 4000000
namespace K02
open PySem PySem.Spec PyProof.Rows L2 Evl KB
/-! ### what settling comes to, whatever its order -/
def gone1 (S : Fam) (k : Int) : Option Int := (endedK S k (whoOf S k)).head?
def goneK (S : Fam) (D : List Int) : List Int := D.filterMap (gone1 S)
def clr (D : List Int) (k : Int) (p : Pr) : Pr := if k ∈ D then { p with who := none } else p
def finS (S : Fam) (D : List Int) : Fam := (S.filter fun e => decide (e.1 ∉ goneK S D)).map fun e => (e.1, clr D e.1 e.2)
def ansOf (S : Fam) (k : Int) : PyData := match gone1 S k with
  | some c => toldD (.tuple [.int c, optD (codeOf S c)])
  | none => .none
def rdyB (S : Fam) (k : Int) : Bool := decide (k ∈ turnK S) && readyB S k
theorem look_fm (f : Int → Bool) (g : Int → Pr → Pr) (m : Int) : ∀ S : Fam, ((S.filter fun e => f e.1).map fun e => (e.1, g e.1 e.2)).lookup m = if f m = true then (S.lookup m).map (g m) else none
  | [] => by by_cases z : f m = true <;> simp [z]
  | e :: S => by
    have ih := look_fm f g m S
    rw [List.filter_cons]
    by_cases y : m = e.1
    · subst y
      by_cases z : f e.1 = true
      · rw [if_pos z, if_pos z, List.map_cons, List.lookup_cons, List.lookup_cons]
        simp
      · rw [if_neg z, if_neg z, ih, if_neg z]
    · have b : (m == e.1) = false := beq_eq_false_iff_ne.mpr y
      by_cases z : f e.1 = true
      · rw [if_pos z, List.map_cons, List.lookup_cons, List.lookup_cons, b]
        exact ih
      · rw [if_neg z, ih, List.lookup_cons, b]
theorem fin_at (S : Fam) (D : List Int) (m : Int) : (finS S D).at m = if m ∈ goneK S D then none else (S.at m).map (clr D m) := by
  unfold finS Fam.at
  rw [look_fm (fun k => decide (k ∉ goneK S D)) (clr D) m S]
  by_cases z : m ∈ goneK S D <;> simp [z]
theorem fin_keys (S : Fam) (D : List Int) : (finS S D).keys = S.keys.filter fun k => decide (k ∉ goneK S D) := by
  unfold finS Fam.keys
  rw [List.map_map, List.filter_map]
  rfl
theorem fin_sorted (S : Fam) (D : List Int) : (finS S D).sorted = S.sorted.filter fun k => decide (k ∉ goneK S D) := by
  unfold Fam.sorted
  refine (asc_eq ((asc_asc S.keys).filter _) fun k => ?_).symm
  rw [fin_keys, List.mem_filter, List.mem_filter, mem_asc]
theorem clr_par (D : List Int) (m : Int) (p : Pr) : (clr D m p).par = p.par := by unfold clr; split <;> rfl
theorem clr_code (D : List Int) (m : Int) (p : Pr) : (clr D m p).code = p.code := by unfold clr; split <;> rfl
theorem clr_stp (D : List Int) (m : Int) (p : Pr) : (clr D m p).stp = p.stp := by unfold clr; split <;> rfl
theorem gone_at {S : Fam} {D : List Int} {m : Int} (h : m ∈ goneK S D) : ∃ j ∈ D, gone1 S j = some m ∧ (S.at m).bind (·.par) = some j ∧ aliveB S m = false := by
  obtain ⟨j, mj, hj⟩ := List.mem_filterMap.mp h
  have hm : m ∈ endedK S j (whoOf S j) := by
    unfold gone1 at hj
    exact List.mem_of_head? hj
  obtain ⟨h1, h2⟩ := List.mem_filter.mp hm
  obtain ⟨_, h3⟩ := List.mem_filter.mp h1
  rw [Bool.and_eq_true] at h2
  exact ⟨j, mj, hj, of_decide_eq_true h3, by simpa using h2.1⟩
theorem mem_waitK {S : Fam} (nd : S.keys.Nodup) {k : Int} : k ∈ waitK S ↔ ∃ p, S.at k = some p ∧ p.who.isSome = true := by
  unfold waitK
  constructor
  · intro h
    obtain ⟨e, me, rfl⟩ := List.mem_map.mp h
    obtain ⟨m1, m2⟩ := List.mem_filter.mp me
    obtain ⟨i, hi⟩ := List.getElem?_of_mem m1
    exact ⟨e.2, at_idx nd (n := e.1) (p := e.2) hi, m2⟩
  · rintro ⟨p, h1, h2⟩
    obtain ⟨i, hi⟩ := idx_at h1
    exact List.mem_map.mpr ⟨(k, p), List.mem_filter.mpr ⟨List.mem_of_getElem? hi, h2⟩, rfl⟩
theorem wait_alive {S : Fam} (nd : S.keys.Nodup) (liv : Liv S) {k : Int} (h : k ∈ waitK S) : aliveB S k = true := by
  obtain ⟨p, h1, h2⟩ := (mem_waitK nd).mp h
  obtain ⟨i, hi⟩ := idx_at h1
  have := liv (k, p) (List.mem_of_getElem? hi) h2
  unfold aliveB
  rw [h1]
  show p.code.isNone = true
  have this : p.code = none := this
  rw [this]
  rfl
theorem wait_not_gone {S : Fam} (nd : S.keys.Nodup) (liv : Liv S) {D : List Int} {k : Int} (h : k ∈ waitK S) : k ∉ goneK S D := fun m => by
  obtain ⟨j, _, _, _, ha⟩ := gone_at m
  rw [wait_alive nd liv h] at ha
  cases ha
theorem fin_kids {S : Fam} {D : List Int} {k : Int} (hk : k ∉ D) : (finS S D).kids k = S.kids k := by
  unfold Fam.kids
  rw [fin_sorted, List.filter_filter]
  refine List.filter_congr fun m _ => ?_
  rw [fin_at]
  by_cases z : m ∈ goneK S D
  · obtain ⟨j, mj, _, hp, _⟩ := gone_at z
    have ne : ¬ ((S.at m).bind (·.par) = some k) := fun y => by
      rw [hp] at y
      exact hk (by rw [← Option.some.inj y]; exact mj)
    simp [z, ne]
  · rw [if_neg z]
    have : ((S.at m).map (clr D m)).bind (·.par) = (S.at m).bind (·.par) := by
      cases S.at m with
      | none => rfl
      | some p => exact clr_par D m p
    rw [this]
    simp [z]
theorem fin_alive {S : Fam} {D : List Int} {m : Int} (h : m ∉ goneK S D) : aliveB (finS S D) m = aliveB S m := by
  unfold aliveB
  rw [fin_at, if_neg h]
  cases S.at m with
  | none => rfl
  | some p =>
    show (clr D m p).code.isNone = p.code.isNone
    rw [clr_code]
theorem kid_not_gone {S : Fam} {D : List Int} {k m : Int} (hk : k ∉ D) (h : m ∈ S.kids k) : m ∉ goneK S D := fun z => by
  obtain ⟨j, mj, _, hp, _⟩ := gone_at z
  have h2 := of_decide_eq_true (List.mem_filter.mp h).2
  rw [hp] at h2
  exact hk (by rw [← Option.some.inj h2]; exact mj)
theorem fin_ended {S : Fam} {D : List Int} {k : Int} (hk : k ∉ D) (w : Int) : endedK (finS S D) k w = endedK S k w := by
  unfold endedK
  rw [fin_kids hk]
  refine List.filter_congr fun m mm => ?_
  rw [fin_alive (kid_not_gone hk mm)]
theorem fin_who {S : Fam} {D : List Int} {k : Int} (hk : k ∉ D) (hg : k ∉ goneK S D) : whoOf (finS S D) k = whoOf S k := by
  unfold whoOf
  rw [fin_at, if_neg hg]
  cases S.at k with
  | none => rfl
  | some p =>
    show ((clr D k p).who).getD 0 = (p.who).getD 0
    unfold clr
    rw [if_neg hk]
theorem fin_code {S : Fam} {D : List Int} {k : Int} (hg : k ∉ goneK S D) : codeOf (finS S D) k = codeOf S k := by
  unfold codeOf
  rw [fin_at, if_neg hg]
  cases S.at k with
  | none => rfl
  | some p => exact clr_code D k p
theorem fin_wait {S : Fam} (nd : S.keys.Nodup) (liv : Liv S) {D : List Int} {k : Int} : k ∈ waitK (finS S D) ↔ k ∈ waitK S ∧ k ∉ D := by
  have nd2 : (finS S D).keys.Nodup := by rw [fin_keys]; exact List.Nodup.sublist List.filter_sublist nd
  rw [mem_waitK nd2]
  constructor
  · rintro ⟨p, h1, h2⟩
    rw [fin_at] at h1
    by_cases z : k ∈ goneK S D
    · rw [if_pos z] at h1; cases h1
    · rw [if_neg z] at h1
      obtain ⟨q, hq, rfl⟩ := Option.map_eq_some_iff.mp h1
      unfold clr at h2
      by_cases y : k ∈ D
      · rw [if_pos y] at h2; cases h2
      · rw [if_neg y] at h2
        exact ⟨(mem_waitK nd).mpr ⟨q, hq, h2⟩, y⟩
  · rintro ⟨h1, h2⟩
    obtain ⟨p, h3, h4⟩ := (mem_waitK nd).mp h1
    refine ⟨p, ?_, h4⟩
    rw [fin_at, if_neg (wait_not_gone nd liv h1), h3]
    show some (clr D k p) = some p
    unfold clr
    rw [if_neg h2]
theorem fin_stpB {S : Fam} {D : List Int} {k : Int} (hg : k ∉ goneK S D) : stpB (finS S D) k = stpB S k := by
  unfold stpB
  rw [fin_at, if_neg hg]
  cases S.at k with
  | none => rfl
  | some p => exact clr_stp D k p
theorem fin_turn {S : Fam} (nd : S.keys.Nodup) (liv : Liv S) {D : List Int} {k : Int} : k ∈ turnK (finS S D) ↔ k ∈ turnK S ∧ k ∉ D := by
  unfold turnK
  rw [List.mem_filter, List.mem_filter, fin_wait nd liv]
  constructor
  · rintro ⟨⟨h1, h2⟩, h3⟩
    rw [fin_stpB (wait_not_gone nd liv h1)] at h3
    exact ⟨⟨h1, h3⟩, h2⟩
  · rintro ⟨⟨h1, h3⟩, h2⟩
    rw [fin_stpB (wait_not_gone nd liv h1)]
    exact ⟨⟨h1, h2⟩, h3⟩
theorem fin_nil (S : Fam) : finS S [] = S := by
  unfold finS goneK
  have : (fun e : Int × Pr => (e.1, clr [] e.1 e.2)) = id := by
    funext e
    show (e.1, clr [] e.1 e.2) = e
    unfold clr
    rw [if_neg List.not_mem_nil]
  rw [this]
  simp
theorem fam_clear (E : List Ent) (k : Int) : famE (clearE E k) = (famE E).map fun e => if e.1 = k then (e.1, { e.2 with who := none }) else e := by
  unfold famE clearE
  rw [List.map_map, List.map_map]
  refine List.map_congr_left fun e _ => ?_
  show ((if e.1 = k then (e.1, e.2.1, ({ e.2.2 with who := none } : Pr)) else e).1, (if e.1 = k then (e.1, e.2.1, ({ e.2.2 with who := none } : Pr)) else e).2.2) = if e.1 = k then (e.1, { e.2.2 with who := none }) else (e.1, e.2.2)
  by_cases z : e.1 = k
  · rw [if_pos z, if_pos z]
  · rw [if_neg z, if_neg z]
theorem fin_step {S : Fam} {D : List Int} {k c : Int} (hc : gone1 S k = some c) : ((finS S D).drop c).map (fun e => if e.1 = k then (e.1, { e.2 with who := none }) else e) = finS S (D ++ [k]) := by
  have hg : goneK S (D ++ [k]) = goneK S D ++ [c] := by
    unfold goneK
    rw [List.filterMap_append]
    simp [hc]
  unfold finS Fam.drop
  rw [List.filter_map, List.map_map, List.filter_filter, hg]
  have e1 : (S.filter fun e => ((fun e : Int × Pr => decide (e.1 ≠ c)) ∘ fun e : Int × Pr => (e.1, clr D e.1 e.2)) e && decide (e.1 ∉ goneK S D)) = S.filter fun e => decide (e.1 ∉ goneK S D ++ [c]) := List.filter_congr fun e _ => by
    show (decide (e.1 ≠ c) && decide (e.1 ∉ goneK S D)) = decide (e.1 ∉ goneK S D ++ [c])
    by_cases z : e.1 ∈ goneK S D
    · simp [z]
    · by_cases y : e.1 = c <;> simp [z, y]
  rw [e1]
  refine List.map_congr_left fun e _ => ?_
  show (if e.1 = k then (e.1, ({ (clr D e.1 e.2) with who := none } : Pr)) else (e.1, clr D e.1 e.2)) = (e.1, clr (D ++ [k]) e.1 e.2)
  unfold clr
  by_cases z : e.1 ∈ D
  · rw [if_pos z, if_pos (List.mem_append_left _ z)]
    by_cases y : e.1 = k
    · rw [if_pos y]
    · rw [if_neg y]
  · rw [if_neg z]
    by_cases y : e.1 = k
    · rw [if_pos y, if_pos (List.mem_append_right _ (by rw [y]; exact List.mem_singleton.mpr rfl))]
    · rw [if_neg y, if_neg (fun m => (List.mem_append.mp m).elim z fun m => y (List.mem_singleton.mp m))]
/-- whatever order settling takes -/
theorem setR_fin {E E' : List Ent} {A A' : List (Int × PyData)} (s : SetR E A E' A') (nd : (famE E).keys.Nodup) (liv : Liv (famE E)) :
    ∃ D : List Int, D.Nodup ∧ (∀ k ∈ D, rdyB (famE E) k = true) ∧ famE E' = finS (famE E) D ∧ A' = A ++ D.map fun k => (k, ansOf (famE E) k) := by
  induction s with
  | nil => exact ⟨[], List.nodup_nil, (fun _ m => (nomatch m)), (fin_nil _).symm, (by simp)⟩
  | @step E1 A1 k s hk hr ih =>
    obtain ⟨D, h1, h2, h3, h4⟩ := ih
    have mw := hk
    rw [h3] at mw hr
    obtain ⟨t1, w2⟩ := (fin_turn nd liv).mp mw
    have w1 := (List.mem_filter.mp t1).1
    have ng := wait_not_gone nd liv (D := D) w1
    have en : endedK (famE E1) k (whoOf (famE E1) k) = endedK (famE E) k (whoOf (famE E) k) := by
      rw [h3, fin_who w2 ng, fin_ended w2]
    have rd : readyB (famE E) k = true := by
      unfold readyB at hr ⊢
      rw [fin_who w2 ng, fin_ended w2] at hr
      exact hr
    cases hz : endedK (famE E) k (whoOf (famE E) k) with
    | nil =>
      unfold readyB at rd
      rw [hz] at rd
      cases rd
    | cons c rest =>
      have g1 : gone1 (famE E) k = some c := by unfold gone1; rw [hz]; rfl
      have cng : c ∉ goneK (famE E) D := by
        refine kid_not_gone w2 ?_
        have : c ∈ endedK (famE E) k (whoOf (famE E) k) := by rw [hz]; exact List.mem_cons_self
        exact (List.mem_filter.mp this).1
      refine ⟨D ++ [k], List.nodup_append.mpr ⟨h1, by simp, fun a ma b mb z => w2 ?_⟩, fun j mj => ?_, ?_, ?_⟩
      · have : b = k := by simpa using mb
        rw [← this, ← z]; exact ma
      · rcases List.mem_append.mp mj with m | m
        · exact h2 j m
        · rw [List.mem_singleton.mp m]
          unfold rdyB
          rw [decide_eq_true t1, rd]
          rfl
      · show famE (clearE (waitE E1 k (whoOf (famE E1) k)).1 k) = _
        unfold waitE
        rw [en, hz]
        show famE (clearE (dropE E1 c) k) = _
        rw [fam_clear, fam_drop, h3]
        exact fin_step g1
      · show A1 ++ [(k, (waitE E1 k (whoOf (famE E1) k)).2)] = _
        have ea : (waitE E1 k (whoOf (famE E1) k)).2 = ansOf (famE E) k := by
          unfold waitE ansOf
          rw [en, hz, g1]
          show toldD (.tuple [.int c, optD (codeOf (famE E1) c)]) = toldD (.tuple [.int c, optD (codeOf (famE E) c)])
          rw [h3, fin_code cng]
        rw [h4, ea, List.map_append, List.append_assoc]
        rfl
/-- settled: those who are ready, in the order of numbers -/
def rdyK (S : Fam) : List Int := asc ((turnK S).filter fun k => readyB S k)
theorem mem_rdyK {S : Fam} {k : Int} : k ∈ rdyK S ↔ rdyB S k = true := by
  unfold rdyK rdyB
  rw [mem_asc, List.mem_filter, Bool.and_eq_true, decide_eq_true_iff]
theorem fin_mem {S : Fam} {D D' : List Int} (h : ∀ k, k ∈ D ↔ k ∈ D') : finS S D = finS S D' := by
  have hg : ∀ m, m ∈ goneK S D ↔ m ∈ goneK S D' := fun m => by
    unfold goneK
    rw [List.mem_filterMap, List.mem_filterMap]
    constructor
    · rintro ⟨k, a, b⟩; exact ⟨k, (h k).mp a, b⟩
    · rintro ⟨k, a, b⟩; exact ⟨k, (h k).mpr a, b⟩
  unfold finS
  have e1 : (fun e : Int × Pr => decide (e.1 ∉ goneK S D)) = fun e => decide (e.1 ∉ goneK S D') := by
    funext e
    rw [decide_eq_decide]
    exact not_congr (hg e.1)
  have e2 : (fun e : Int × Pr => (e.1, clr D e.1 e.2)) = fun e => (e.1, clr D' e.1 e.2) := by
    funext e
    unfold clr
    by_cases z : e.1 ∈ D
    · rw [if_pos z, if_pos ((h _).mp z)]
    · rw [if_neg z, if_neg (fun y => z ((h _).mpr y))]
  rw [e1, e2]
theorem ans_lookD (S : Fam) : ∀ (D : List Int) {k : Int}, k ∈ D → (D.map fun k => (k, ansOf S k)).lookup k = some (ansOf S k)
  | [], _, m => nomatch m
  | a :: D, k, m => by
    rw [List.map_cons, List.lookup_cons]
    by_cases z : k = a
    · rw [beq_iff_eq.mpr z, z]
    · rw [beq_eq_false_iff_ne.mpr z]
      exact ans_lookD S D ((List.mem_cons.mp m).resolve_left z)
def settS (S : Fam) : Fam := finS S (rdyK S)
def othD (S : Fam) : List PyData := (rdyK S).map fun k => .tuple [.int k, ansOf S k]
theorem setR_end {E E' : List Ent} {A' : List (Int × PyData)} (s : SetR E [] E' A') (nd : (famE E).keys.Nodup) (liv : Liv (famE E)) (hno : ∀ k ∈ turnK (famE E'), readyB (famE E') k = false) : famE E' = settS (famE E) ∧ ansD A' = othD (famE E) := by
  obtain ⟨D, h1, h2, h3, h4⟩ := setR_fin s nd liv
  have all : ∀ k, k ∈ D ↔ k ∈ rdyK (famE E) := fun k => by
    rw [mem_rdyK]
    refine ⟨h2 k, fun hr => ?_⟩
    unfold rdyB at hr
    rw [Bool.and_eq_true, decide_eq_true_iff] at hr
    by_cases z : k ∈ D
    · exact z
    · exfalso
      have mw : k ∈ turnK (famE E') := by rw [h3]; exact (fin_turn nd liv).mpr ⟨hr.1, z⟩
      have := hno k mw
      unfold readyB at this
      rw [h3, fin_who z (wait_not_gone nd liv (List.mem_filter.mp hr.1).1), fin_ended z] at this
      have h5 := hr.2
      unfold readyB at h5
      rw [h5] at this
      cases this
  refine ⟨by rw [h3]; exact fin_mem all, ?_⟩
  rw [List.nil_append] at h4
  have ek : A'.map (·.1) = D := by rw [h4, List.map_map]; exact List.map_id _
  have er : asc D = rdyK (famE E) := by
    unfold rdyK
    refine asc_eq (asc_asc D) fun k => ?_
    rw [mem_asc, all]
    unfold rdyK
    rw [mem_asc]
  unfold ansD othD
  rw [ek, er]
  refine List.map_congr_left fun k mk => ?_
  rw [h4, ans_lookD _ D ((all k).mpr mk)]
  rfl
end K02
set_option Elab.async false
set_option linter.all false
set_option maxRecDepth 100000
set_option maxHeartbeats 4000000
namespace K02
open PySem PySem.Spec PyProof.Rows L2 Evl KB
/-! ### what calls make of families alone -/
def parS (S : Fam) (ks : List Int) (h : Int) : Fam := S.map fun e => if e.1 ∈ ks then (e.1, { e.2 with par := some h }) else e
def endS (S : Fam) (n : Int) (p : Pr) (code : Int) : Fam := (parS S (S.kids n) (heir S n)).set n (endP p code)
def waitS (S : Fam) (n who : Int) : Fam × PyData := match endedK S n who with
  | [] => (S, .none)
  | k :: _ => (S.drop k, toldD (.tuple [.int k, optD (codeOf S k)]))
def joinS (S : Fam) (n who g : Int) : Fam × PyData := if mayB S n who = false then (S, refD "no child") else match S.at who with
  | none => (S, refD "no child")
  | some q => if q.ses = who then (S, refD "leads") else if peerB S (sesOf S n) g = false then (S, refD "no group") else (S.set who { q with grp := g }, toldD .none)
def beginS (S : Fam) (n : Int) (p : Pr) (who : Int) : Fam × PyData := if endedK S n who ≠ [] then waitS S n who else if n = 1 then (S, refD "first") else (S.set n { p with who := some who }, .tuple [.str "waits"])
def perfP (S : Fam) (n : Int) (p : Pr) (c : Cl) : Fam × PyData := match c with
  | .fork new => if decide (199 < new) || takenB S new then (S, refD "taken") else (S ++ [(new, newP (some n) p.ses p.grp)], toldD (.int new))
  | .lead => if S.kids n ≠ [] then (S, refD "children") else if grpB S n = true then (S, refD "group") else (S.set n { p with ses := n, grp := n }, toldD .none)
  | .adopt => if S.kids n ≠ [] then (S, refD "children") else (S.set n { p with ado := true }, toldD .none)
  | .join who g => joinS S n who g
  | .fin code => if n = 1 then (S, refD "first") else (endS S n p code, toldD .none)
  | .wait who => if S.kids n = [] then (S, refD "no child") else if who ∉ 0 :: S.kids n then (S, refD "no child") else beginS S n p who
  | .about who => (S, aboutD S who)
theorem fam_par (E : List Ent) (ks : List Int) (h : Int) : famE (parE E ks h) = parS (famE E) ks h := by
  unfold famE parE parS
  rw [List.map_map, List.map_map]
  refine List.map_congr_left fun e _ => ?_
  by_cases z : e.1 ∈ ks <;> simp [z]
theorem fam_end (E : List Ent) (n : Int) (p : Pr) (code : Int) : famE (endE E n p code) = endS (famE E) n p code := by
  unfold endE endS
  rw [fam_set, fam_par]
def famR (x : List Ent × PyData) : Fam × PyData := (famE x.1, x.2)
theorem fam_wait (E : List Ent) (n who : Int) : famR (waitE E n who) = waitS (famE E) n who := by
  unfold waitE waitS
  cases endedK (famE E) n who with
  | nil => rfl
  | cons k r =>
    show (famE (dropE E k), _) = _
    rw [fam_drop]
theorem ite_same {α : Type} {b : Prop} [Decidable b] {x y u v : α} (h1 : x = u) (h2 : y = v) : (if b then x else y) = if b then u else v := by rw [h1, h2]
theorem fam_ite (b : Prop) [Decidable b] (x y : List Ent × PyData) : famR (if b then x else y) = if b then famR x else famR y := by
  by_cases z : b
  · rw [if_pos z, if_pos z]
  · rw [if_neg z, if_neg z]
theorem perf_fam {E : List Ent} {n : Int} {p : Pr} {c : Cl} {x : Addr} : famR (perfE E n p c x) = perfP (famE E) n p c := by
  cases c with
  | fork new =>
    show famR (forkE E n p new x) = _
    unfold forkE
    rw [fam_ite]
    refine ite_same rfl ?_
    show (famE (E ++ [_]), _) = _
    unfold famE
    rw [List.map_append]
    rfl
  | lead =>
    show famR (leadE E n p) = _
    unfold leadE
    rw [fam_ite, fam_ite]
    refine ite_same rfl (ite_same rfl ?_)
    show (famE (setE _ _ _), _) = _
    rw [fam_set]
  | adopt =>
    show famR (adoptE E n p) = _
    unfold adoptE
    rw [fam_ite]
    refine ite_same rfl ?_
    show (famE (setE _ _ _), _) = _
    rw [fam_set]
  | join who g =>
    show famR (joinE E n who g) = joinS (famE E) n who g
    unfold joinE joinS
    rw [fam_ite]
    refine ite_same rfl ?_
    rw [fam_at]
    cases E.lookup who with
    | none => rfl
    | some y =>
      show famR (if y.2.ses = who then _ else if peerB (famE E) (sesOf (famE E) n) g = false then _ else _) = if y.2.ses = who then _ else if peerB (famE E) (sesOf (famE E) n) g = false then _ else _
      rw [fam_ite, fam_ite]
      refine ite_same rfl (ite_same rfl ?_)
      show (famE (setE _ _ _), _) = _
      rw [fam_set]
  | fin code =>
    show famR (doEndE E n p code) = _
    unfold doEndE
    rw [fam_ite]
    refine ite_same rfl ?_
    show (famE (endE _ _ _ _), _) = _
    rw [fam_end]
  | wait who =>
    show famR (doWaitE E n p who) = _
    unfold doWaitE
    rw [fam_ite, fam_ite]
    refine ite_same rfl (ite_same rfl ?_)
    unfold beginE beginS
    rw [fam_ite, fam_ite, fam_wait]
    refine ite_same rfl (ite_same rfl ?_)
    show (famE (setE _ _ _), _) = _
    rw [fam_set]
  | about who => rfl
/-! ### lookups -/
def mapS (S : Fam) (f : Int → Pr → Pr) : Fam := S.map fun e => (e.1, f e.1 e.2)
theorem map_at (S : Fam) (f : Int → Pr → Pr) (m : Int) : (mapS S f).at m = (S.at m).map (f m) := by
  have := look_fm (fun _ => true) f m S
  rw [if_pos rfl, show (S.filter fun e => (fun _ : Int => true) e.1) = S from List.filter_eq_self.mpr fun _ _ => rfl] at this
  exact this
theorem map_keys (S : Fam) (f : Int → Pr → Pr) : (mapS S f).keys = S.keys := by
  unfold mapS Fam.keys
  rw [List.map_map]
  rfl
theorem map_sorted (S : Fam) (f : Int → Pr → Pr) : (mapS S f).sorted = S.sorted := by unfold Fam.sorted; rw [map_keys]
theorem set_map (S : Fam) (n : Int) (p : Pr) : S.set n p = mapS S fun k q => if k = n then p else q := by
  unfold Fam.set mapS
  refine List.map_congr_left fun e _ => ?_
  show (if e.1 = n then (e.1, p) else e) = (e.1, if e.1 = n then p else e.2)
  by_cases z : e.1 = n
  · rw [if_pos z, if_pos z]
  · rw [if_neg z, if_neg z]
theorem end_map (S : Fam) (n : Int) (p : Pr) (code : Int) : endS S n p code = mapS S fun k q => if k = n then endP p code else if k ∈ S.kids n then { q with par := some (heir S n) } else q := by
  unfold endS
  rw [set_map]
  unfold mapS parS
  rw [List.map_map]
  refine List.map_congr_left fun e _ => ?_
  show (fun e : Int × Pr => (e.1, if e.1 = n then endP p code else e.2)) (if e.1 ∈ S.kids n then (e.1, { e.2 with par := some (heir S n) }) else e) = (e.1, if e.1 = n then endP p code else if e.1 ∈ S.kids n then { e.2 with par := some (heir S n) } else e.2)
  by_cases z : e.1 ∈ S.kids n
  · rw [if_pos z, if_pos z]
  · rw [if_neg z, if_neg z]
theorem at_mem {S : Fam} {n : Int} {p : Pr} (h : S.at n = some p) : (n, p) ∈ S := by
  obtain ⟨i, hi⟩ := idx_at h
  exact List.mem_of_getElem? hi
theorem mem_at {S : Fam} (nd : S.keys.Nodup) {e : Int × Pr} (m : e ∈ S) : S.at e.1 = some e.2 := by
  obtain ⟨i, hi⟩ := List.getElem?_of_mem m
  exact at_idx nd (n := e.1) (p := e.2) hi
theorem at_key {S : Fam} {n : Int} {p : Pr} (h : S.at n = some p) : n ∈ S.keys := List.mem_map.mpr ⟨_, at_mem h, rfl⟩
theorem at_no {S : Fam} {n : Int} (h : n ∉ S.keys) : S.at n = none := by
  cases z : S.at n with
  | none => rfl
  | some p => exact absurd (at_key z) h
theorem mem_kids {S : Fam} {n k : Int} : k ∈ S.kids n ↔ ∃ q, S.at k = some q ∧ q.par = some n := by
  unfold Fam.kids
  rw [List.mem_filter, decide_eq_true_iff]
  constructor
  · rintro ⟨h1, h2⟩
    obtain ⟨q, hq, hp⟩ := Option.bind_eq_some_iff.mp h2
    exact ⟨q, hq, hp⟩
  · rintro ⟨q, hq, hp⟩
    refine ⟨mem_asc.mpr (at_key hq), by rw [hq]; exact hp⟩
theorem mem_ended {S : Fam} {n who k : Int} (h : k ∈ endedK S n who) : k ∈ S.kids n ∧ aliveB S k = false := by
  obtain ⟨h1, h2⟩ := List.mem_filter.mp h
  rw [Bool.and_eq_true] at h2
  exact ⟨h1, by simpa using h2.1⟩
theorem dead_at {S : Fam} {k : Int} {q : Pr} (h : aliveB S k = false) (hq : S.at k = some q) : q.code.isSome = true := by
  unfold aliveB at h
  rw [hq] at h
  have h : q.code.isNone = false := h
  cases z : q.code with
  | none => rw [z] at h; cases h
  | some _ => rfl
end K02
set_option Elab.async false
set_option linter.all false
set_option maxRecDepth 100000
set_option maxHeartbeats 4000000
namespace K02
open PySem PySem.Spec PyProof.Rows L2 Evl KB
/-! ### order is kept -/
theorem first_at {S : Fam} (O : Ord S) : ∃ p, S.at 1 = some p ∧ S[0]? = some (1, p) ∧ p.par = none ∧ p.ado = true ∧ p.code = none := by
  obtain ⟨p, rest, e, h1, h2, h3⟩ := O.first
  subst e
  exact ⟨p, rfl, rfl, h1, h2, h3⟩
theorem ord_map {S : Fam} (O : Ord S) (f : Int → Pr → Pr) (h0 : ∀ p, S.at 1 = some p → (f 1 p).par = none ∧ (f 1 p).ado = true ∧ (f 1 p).code = none)
    (hp : ∀ (i : Nat) (n : Int) (p : Pr), S[i]? = some (n, p) → i ≠ 0 → ∃ (j : Nat) (m : Int) (q : Pr), j < i ∧ S[j]? = some (m, q) ∧ (f n p).par = some m ∧ (f m q).code = none)
    (hd : ∀ e ∈ S, (f e.1 e.2).code.isSome = true → (f e.1 e.2).ado = false) : Ord (mapS S f) := by
  have look : ∀ (i : Nat), (mapS S f)[i]? = (S[i]?).map fun e => (e.1, f e.1 e.2) := fun i => by unfold mapS; rw [List.getElem?_map]
  refine ⟨by rw [map_keys]; exact O.nd, ?_, fun i n p hi z => ?_, by unfold mapS; rw [List.length_map]; exact O.few, fun e m hc => ?_⟩
  · obtain ⟨p, rest, e, h1, h2, h3⟩ := O.first
    have ha : S.at 1 = some p := by rw [e]; rfl
    obtain ⟨a, b, c⟩ := h0 p ha
    rw [e]
    exact ⟨f 1 p, mapS rest f, rfl, a, b, c⟩
  · rw [look] at hi
    obtain ⟨e, he, h2⟩ := Option.map_eq_some_iff.mp hi
    obtain ⟨h3, h4⟩ := Prod.mk.inj h2
    subst h3 h4
    obtain ⟨j, m, q, hj, hm, a, b⟩ := hp i e.1 e.2 he z
    exact ⟨j, m, f m q, hj, by rw [look, hm]; rfl, a, b⟩
  · obtain ⟨e0, m0, rfl⟩ := List.mem_map.mp m
    exact hd e0 m0 hc
theorem filter_idx {α : Type} (p : α → Bool) : ∀ (S : List α) (i : Nat) (e : α), (S.filter p)[i]? = some e → ∃ j, S[j]? = some e ∧ (i ≠ 0 → j ≠ 0) ∧ ∀ k e', k < j → S[k]? = some e' → p e' = true → ∃ k', k' < i ∧ (S.filter p)[k']? = some e'
  | [], i, e, h => by simp at h
  | x :: S, i, e, h => by
    by_cases z : p x = true
    · rw [List.filter_cons_of_pos z] at h ⊢
      cases i with
      | zero => exact ⟨0, h, fun y => y, fun k e' hk => absurd hk (Nat.not_lt_zero _)⟩
      | succ i =>
        obtain ⟨j, h1, _, h3⟩ := filter_idx p S i e (by simpa using h)
        refine ⟨j + 1, by simpa using h1, fun _ => Nat.succ_ne_zero _, fun k e' hk he hp => ?_⟩
        cases k with
        | zero => exact ⟨0, Nat.succ_pos _, he⟩
        | succ k =>
          obtain ⟨k', a, b⟩ := h3 k e' (by omega) (by simpa using he) hp
          exact ⟨k' + 1, by omega, by simpa using b⟩
    · rw [List.filter_cons_of_neg z] at h ⊢
      obtain ⟨j, h1, _, h3⟩ := filter_idx p S i e h
      refine ⟨j + 1, by simpa using h1, fun _ => Nat.succ_ne_zero _, fun k e' hk he hp => ?_⟩
      cases k with
      | zero =>
        have : x = e' := by simpa using he
        rw [this] at z
        exact absurd hp z
      | succ k => exact h3 k e' (by omega) (by simpa using he) hp
/-- some that have ended are taken out -/
theorem ord_filter {S : Fam} (O : Ord S) (p : Int × Pr → Bool) (hp : ∀ e ∈ S, e.2.code = none → p e = true) : Ord (S.filter p) := by
  refine ⟨List.Nodup.sublist (List.filter_sublist.map _) O.nd, ?_, fun i n q hi z => ?_, Nat.lt_of_le_of_lt (List.length_filter_le _ _) O.few, fun e m => O.dead e (List.mem_filter.mp m).1⟩
  · obtain ⟨q, rest, e, h1, h2, h3⟩ := O.first
    refine ⟨q, rest.filter p, ?_, h1, h2, h3⟩
    rw [e, List.filter_cons_of_pos (hp (1, q) (by rw [e]; exact List.mem_cons_self) h3)]
  · obtain ⟨j, h1, h2, h3⟩ := filter_idx p S i (n, q) hi
    obtain ⟨k, m, q', hk, hm, a, b⟩ := O.par j n q h1 (h2 z)
    obtain ⟨k', c, d⟩ := h3 k (m, q') hk hm (hp _ (List.mem_of_getElem? hm) b)
    exact ⟨k', m, q', c, d, a, b⟩
theorem ord_fork {S : Fam} (O : Ord S) {n new : Int} {p : Pr} (h : S.at n = some p) (hc : p.code = none) (nn : new ∉ S.keys) (few : S.length < 63) (s g : Int) : Ord (S ++ [(new, newP (some n) s g)]) := by
  refine ⟨?_, ?_, fun i m q hi z => ?_, by rw [List.length_append]; show S.length + 1 < 64; omega, fun e m hd => ?_⟩
  · unfold Fam.keys
    rw [List.map_append]
    refine List.nodup_append.mpr ⟨O.nd, by simp, fun a ma b mb y => nn ?_⟩
    have : b = new := by simpa using mb
    rw [← this, ← y]
    exact ma
  · obtain ⟨p, rest, e, h1, h2, h3⟩ := O.first
    rw [e]
    exact ⟨p, rest ++ [_], rfl, h1, h2, h3⟩
  · by_cases y : i < S.length
    · rw [List.getElem?_append_left y] at hi
      obtain ⟨j, m', q', hj, hm, a, b⟩ := O.par i m q hi z
      exact ⟨j, m', q', hj, by rw [List.getElem?_append_left (by omega)]; exact hm, a, b⟩
    · rw [List.getElem?_append_right (by omega)] at hi
      have hi0 : i - S.length = 0 := by
        cases w : i - S.length with
        | zero => rfl
        | succ k => rw [w] at hi; simp at hi
      rw [hi0] at hi
      have hi : (new, newP (some n) s g) = (m, q) := by simpa using hi
      obtain ⟨_, hq⟩ := Prod.mk.inj hi
      obtain ⟨j, hj⟩ := idx_at h
      have lj := (List.getElem?_eq_some_iff.mp hj).1
      exact ⟨j, n, p, by omega, by rw [List.getElem?_append_left lj]; exact hj, by rw [← hq]; rfl, hc⟩
  · rcases List.mem_append.mp m with m | m
    · exact O.dead e m hd
    · rw [List.mem_singleton.mp m] at hd
      cases hd
/-- the heir is above -/
theorem heir_at {S : Fam} (O : Ord S) : ∀ (k i : Nat) (m : Int) (q : Pr), S[i]? = some (m, q) → i < k → ∃ (j : Nat) (h : Int) (q' : Pr), j ≤ i ∧ S[j]? = some (h, q') ∧ adopF S k m = h ∧ q'.ado = true
  | 0, i, _, _, _, hk => absurd hk (Nat.not_lt_zero _)
  | k + 1, i, m, q, hi, hk => by
    have ha := at_idx O.nd hi
    show ∃ (j : Nat) (h : Int) (q' : Pr), j ≤ i ∧ S[j]? = some (h, q') ∧ (match S.at m with | some q => if q.ado = true then m else (match q.par with | some m' => adopF S k m' | none => m) | none => m) = h ∧ q'.ado = true
    rw [ha]
    by_cases z : q.ado = true
    · exact ⟨i, m, q, Nat.le_refl _, hi, if_pos z, z⟩
    · have z0 : i ≠ 0 := fun z0 => by
        obtain ⟨p0, _, e0, _, e2, _⟩ := first_at O
        rw [z0, e0] at hi
        have : p0 = q := congrArg Prod.snd (Option.some.inj hi)
        rw [this] at e2
        exact z e2
      obtain ⟨j, m', q', hj, hm, a, b⟩ := O.par i m q hi z0
      obtain ⟨j2, h, q2, c1, c2, c3, c4⟩ := heir_at O k j m' q' hm (by omega)
      refine ⟨j2, h, q2, by omega, c2, ?_, c4⟩
      show (if q.ado = true then m else (match q.par with | some m' => adopF S k m' | none => m)) = h
      rw [if_neg z, a]
      exact c3
theorem heir_up {S : Fam} (O : Ord S) {n : Int} {p : Pr} {i : Nat} (hi : S[i]? = some (n, p)) (h1 : n ≠ 1) : ∃ (j : Nat) (q : Pr), j < i ∧ S[j]? = some (heir S n, q) ∧ q.ado = true ∧ q.code = none := by
  have z0 : i ≠ 0 := fun z0 => by
    obtain ⟨p0, _, e0, _⟩ := first_at O
    rw [z0, e0] at hi
    exact h1 (congrArg Prod.fst (Option.some.inj hi)).symm
  obtain ⟨j, m, q, hj, hm, a, b⟩ := O.par i n p hi z0
  have lj := (List.getElem?_eq_some_iff.mp hm).1
  have few := O.few
  obtain ⟨j2, h, q2, c1, c2, c3, c4⟩ := heir_at O 64 j m q hm (by omega)
  refine ⟨j2, q2, by omega, ?_, c4, ?_⟩
  · unfold heir
    rw [at_idx O.nd hi]
    show S[j2]? = some (adopF S 64 ((p.par).getD 1), q2)
    rw [a]
    show S[j2]? = some (adopF S 64 m, q2)
    rw [c3]
    exact c2
  · cases z : q2.code with
    | none => rfl
    | some c =>
      have := O.dead _ (List.mem_of_getElem? c2) (by show q2.code.isSome = true; rw [z]; rfl)
      rw [c4] at this
      cases this
theorem idx_uniq {S : Fam} (nd : S.keys.Nodup) {i j : Nat} {n : Int} {p q : Pr} (hi : S[i]? = some (n, p)) (hj : S[j]? = some (n, q)) : i = j := by
  have e1 : S.keys[i]? = some n := by unfold Fam.keys; rw [List.getElem?_map, hi]; rfl
  have e2 : S.keys[j]? = some n := by unfold Fam.keys; rw [List.getElem?_map, hj]; rfl
  have li := (List.getElem?_eq_some_iff.mp e1).1
  exact (List.getElem?_inj li nd).mp (e1.trans e2.symm)
theorem ord_end {S : Fam} (O : Ord S) {n : Int} {p : Pr} (h : S.at n = some p) (h1 : n ≠ 1) (code : Int) : Ord (endS S n p code) := by
  rw [end_map]
  obtain ⟨i0, hi0⟩ := idx_at h
  obtain ⟨j0, q0, hj0, hm0, a0, c0⟩ := heir_up O hi0 h1
  have hn : heir S n ≠ n := fun z => by
    rw [z] at hm0
    have := idx_uniq O.nd hi0 hm0
    omega
  refine ord_map O _ (fun p1 hp1 => ?_) (fun i m q hi z => ?_) (fun e m hd => ?_)
  · rw [if_neg (fun y => h1 y.symm)]
    obtain ⟨p2, e1, _, e3, e4, e5⟩ := first_at O
    rw [hp1] at e1
    have := Option.some.inj e1
    subst this
    have : (1 : Int) ∉ S.kids n := fun m => by
      obtain ⟨q, b1, b2⟩ := mem_kids.mp m
      rw [hp1] at b1
      rw [← Option.some.inj b1, e3] at b2
      cases b2
    rw [if_neg this]
    exact ⟨e3, e4, e5⟩
  · have ha := at_idx O.nd hi
    by_cases y : m = n
    · rw [if_pos y]
      subst y
      have e1 : p = q := Option.some.inj (h.symm.trans ha)
      subst e1
      obtain ⟨j, m', q', hj, hm, a, b⟩ := O.par i m p hi z
      have ne : m' ≠ m := fun w => by
        rw [w] at hm
        have := idx_uniq O.nd hi hm
        omega
      refine ⟨j, m', q', hj, hm, a, ?_⟩
      rw [if_neg ne]
      split <;> exact b
    · rw [if_neg y]
      by_cases w : m ∈ S.kids n
      · rw [if_pos w]
        obtain ⟨q1, b1, b2⟩ := mem_kids.mp w
        have e1 : q1 = q := Option.some.inj (b1.symm.trans ha)
        subst e1
        obtain ⟨j, m', q', hj, hm, a, b⟩ := O.par i m q1 hi z
        have e2 : m' = n := Option.some.inj (a.symm.trans b2)
        subst e2
        have e3 := idx_uniq O.nd hm hi0
        refine ⟨j0, heir S m', q0, by omega, hm0, rfl, ?_⟩
        rw [if_neg hn]
        split <;> exact c0
      · rw [if_neg w]
        obtain ⟨j, m', q', hj, hm, a, b⟩ := O.par i m q hi z
        have ne : m' ≠ n := fun v => w (mem_kids.mpr ⟨q, ha, by rw [← v]; exact a⟩)
        refine ⟨j, m', q', hj, hm, a, ?_⟩
        rw [if_neg ne]
        split <;> exact b
  · by_cases y : e.1 = n
    · rw [if_pos y]; rfl
    · rw [if_neg y] at hd ⊢
      by_cases w : e.1 ∈ S.kids n
      · rw [if_pos w] at hd ⊢
        exact O.dead e m hd
      · rw [if_neg w] at hd ⊢
        exact O.dead e m hd
end K02
set_option Elab.async false
set_option linter.all false
set_option maxRecDepth 100000
set_option maxHeartbeats 4000000
namespace K02
open PySem PySem.Spec PyProof.Rows L2 Evl KB
/-! ### what all families keep -/
structure Inv (S : Fam) : Prop where
  ord : Ord S
  liv : Liv S
  wok : ∀ e ∈ S, ∀ w, e.2.who = some w → ∃ k ∈ S.kids e.1, w = 0 ∨ w = k
  fst : ∀ p, S.at 1 = some p → p.who = none ∧ p.stp = false
  rng : ∀ k ∈ S.keys, 1 ≤ k ∧ k ≤ 199
theorem kids_map {S : Fam} {f : Int → Pr → Pr} {m : Int} (h : ∀ k q, S.at k = some q → (f k q).par = q.par) : (mapS S f).kids m = S.kids m := by
  unfold Fam.kids
  rw [map_sorted]
  refine List.filter_congr fun k _ => ?_
  rw [map_at]
  cases z : S.at k with
  | none => rfl
  | some q =>
    show decide ((f k q).par = some m) = decide (q.par = some m)
    rw [h k q z]
theorem inv_set {S : Fam} (I : Inv S) {n : Int} {p p' : Pr} (h : S.at n = some p) (h1 : p'.par = p.par) (h2 : p'.code = p.code) (h3 : p'.ado = p.ado ∨ p'.ado = true ∧ p.code = none)
    (h4 : ∀ w, p'.who = some w → p.code = none ∧ ∃ k ∈ S.kids n, w = 0 ∨ w = k) (h5 : n = 1 → p'.who = none ∧ p'.stp = false) : Inv (S.set n p') := by
  have nd := I.ord.nd
  have is : ∀ {q : Pr}, S.at n = some q → q = p := fun hq => Option.some.inj (hq.symm.trans h)
  rw [set_map]
  have hpar : ∀ k q, S.at k = some q → (if k = n then p' else q).par = q.par := fun k q hq => by
    by_cases z : k = n
    · rw [if_pos z, h1, is (q := q) (by rw [← z]; exact hq)]
    · rw [if_neg z]
  have hcode : ∀ k q, S.at k = some q → (if k = n then p' else q).code = q.code := fun k q hq => by
    by_cases z : k = n
    · rw [if_pos z, h2, is (q := q) (by rw [← z]; exact hq)]
    · rw [if_neg z]
  refine ⟨ord_map I.ord _ (fun p1 hp1 => ?_) (fun i m q hi z => ?_) (fun e m hd => ?_), fun e m hw => ?_, fun e m w hw => ?_, fun q hq => ?_, by rw [map_keys]; exact I.rng⟩
  · obtain ⟨p2, e1, _, e3, e4, e5⟩ := first_at I.ord
    have e6 : p1 = p2 := Option.some.inj (hp1.symm.trans e1)
    rw [← e6] at e3 e4 e5
    refine ⟨by rw [hpar _ _ hp1]; exact e3, ?_, by rw [hcode _ _ hp1]; exact e5⟩
    by_cases z : (1 : Int) = n
    · rw [if_pos z]
      have e7 := is (q := p1) (by rw [← z]; exact hp1)
      rcases h3 with h3 | h3
      · rw [h3, ← e7]; exact e4
      · exact h3.1
    · rw [if_neg z]; exact e4
  · obtain ⟨j, m', q', hj, hm, a, b⟩ := I.ord.par i m q hi z
    exact ⟨j, m', q', hj, hm, by rw [hpar _ _ (at_idx nd hi)]; exact a, by rw [hcode _ _ (at_idx nd hm)]; exact b⟩
  · have ha := mem_at nd m
    rw [hcode _ _ ha] at hd
    by_cases z : e.1 = n
    · rw [if_pos z]
      have e7 := is (q := e.2) (by rw [← z]; exact ha)
      rcases h3 with h3 | h3
      · rw [h3, ← e7]; exact I.ord.dead e m hd
      · rw [← e7] at h3
        rw [h3.2] at hd
        cases hd
    · rw [if_neg z]
      exact I.ord.dead e m hd
  · obtain ⟨e0, m0, rfl⟩ := List.mem_map.mp m
    have ha := mem_at nd m0
    show (if e0.1 = n then p' else e0.2).code = none
    rw [hcode _ _ ha]
    have hw : (if e0.1 = n then p' else e0.2).who.isSome = true := hw
    by_cases z : e0.1 = n
    · rw [if_pos z] at hw
      obtain ⟨w, hw⟩ := Option.isSome_iff_exists.mp hw
      rw [is (q := e0.2) (by rw [← z]; exact ha)]
      exact (h4 w hw).1
    · rw [if_neg z] at hw
      exact I.liv e0 m0 hw
  · obtain ⟨e0, m0, rfl⟩ := List.mem_map.mp m
    rw [kids_map hpar]
    show ∃ k ∈ S.kids e0.1, w = 0 ∨ w = k
    have hw : (if e0.1 = n then p' else e0.2).who = some w := hw
    by_cases z : e0.1 = n
    · rw [if_pos z] at hw
      rw [z]
      exact (h4 w hw).2
    · rw [if_neg z] at hw
      exact I.wok e0 m0 w hw
  · rw [map_at] at hq
    obtain ⟨q0, h6, h7⟩ := Option.map_eq_some_iff.mp hq
    subst h7
    show (if (1 : Int) = n then p' else q0).who = none ∧ (if (1 : Int) = n then p' else q0).stp = false
    by_cases z : (1 : Int) = n
    · rw [if_pos z]; exact h5 z.symm
    · rw [if_neg z]; exact I.fst q0 h6
theorem app_at {S : Fam} {new : Int} {q : Pr} (nn : new ∉ S.keys) (k : Int) : Fam.at (S ++ [(new, q)]) k = if k = new then some q else S.at k := by
  unfold Fam.at
  rw [List.lookup_append]
  by_cases z : k = new
  · rw [if_pos z, z, show S.lookup new = none from at_no nn]
    simp
  · rw [if_neg z]
    have : (k == new) = false := beq_eq_false_iff_ne.mpr z
    rw [List.lookup_cons, this]
    simp
theorem inv_fork {S : Fam} (I : Inv S) {n new : Int} {p : Pr} (h : S.at n = some p) (hc : p.code = none) (nn : new ∉ S.keys) (few : S.length < 63) (h1 : 1 ≤ new ∧ new ≤ 199) (s g : Int) : Inv (S ++ [(new, newP (some n) s g)]) := by
  refine ⟨ord_fork I.ord h hc nn few s g, fun e m hw => ?_, fun e m w hw => ?_, fun q hq => ?_, fun k m => ?_⟩
  · rcases List.mem_append.mp m with m | m
    · exact I.liv e m hw
    · rw [List.mem_singleton.mp m] at hw
      cases hw
  · rcases List.mem_append.mp m with m | m
    · obtain ⟨k, mk, hk⟩ := I.wok e m w hw
      refine ⟨k, ?_, hk⟩
      obtain ⟨q, b1, b2⟩ := mem_kids.mp mk
      refine mem_kids.mpr ⟨q, ?_, b2⟩
      rw [app_at nn, if_neg (fun z => nn (by rw [← z]; exact at_key b1))]
      exact b1
    · rw [List.mem_singleton.mp m] at hw
      cases hw
  · obtain ⟨p1, e1, _⟩ := first_at I.ord
    rw [app_at nn, if_neg (fun z => nn (by rw [← z]; exact at_key e1))] at hq
    exact I.fst q hq
  · unfold Fam.keys at m
    rw [List.map_append] at m
    rcases List.mem_append.mp m with m | m
    · exact I.rng k m
    · have : k = new := by simpa using m
      rw [this]; exact h1
theorem inv_end {S : Fam} (I : Inv S) {n : Int} {p : Pr} (h : S.at n = some p) (h1 : n ≠ 1) (code : Int) : Inv (endS S n p code) := by
  have O := ord_end I.ord h h1 code
  rw [end_map] at O ⊢
  refine ⟨O, fun e m hw => ?_, fun e m w hw => ?_, fun q hq => ?_, by rw [map_keys]; exact I.rng⟩
  · obtain ⟨e0, m0, rfl⟩ := List.mem_map.mp m
    dsimp only at hw ⊢
    by_cases z : e0.1 = n
    · rw [if_pos z] at hw; cases hw
    · rw [if_neg z] at hw ⊢
      by_cases y : e0.1 ∈ S.kids n
      · rw [if_pos y] at hw ⊢; exact I.liv e0 m0 hw
      · rw [if_neg y] at hw ⊢; exact I.liv e0 m0 hw
  · obtain ⟨e0, m0, rfl⟩ := List.mem_map.mp m
    dsimp only at hw ⊢
    have z : e0.1 ≠ n := fun z => by rw [if_pos z] at hw; cases hw
    rw [if_neg z] at hw
    have hw0 : e0.2.who = some w := by
      by_cases y : e0.1 ∈ S.kids n
      · rw [if_pos y] at hw; exact hw
      · rw [if_neg y] at hw; exact hw
    obtain ⟨k, mk, hk⟩ := I.wok e0 m0 w hw0
    refine ⟨k, ?_, hk⟩
    obtain ⟨q, b1, b2⟩ := mem_kids.mp mk
    refine mem_kids.mpr ⟨_, by rw [map_at, b1]; rfl, ?_⟩
    show (if k = n then endP p code else if k ∈ S.kids n then { q with par := some (heir S n) } else q).par = some e0.1
    by_cases y : k = n
    · rw [if_pos y]
      rw [y, h] at b1
      have e1 : p = q := Option.some.inj b1
      show p.par = _
      rw [e1]; exact b2
    · rw [if_neg y]
      have : k ∉ S.kids n := fun mk2 => by
        obtain ⟨q2, c1, c2⟩ := mem_kids.mp mk2
        rw [b1] at c1
        rw [← Option.some.inj c1, b2] at c2
        exact z (Option.some.inj c2)
      rw [if_neg this]; exact b2
  · rw [map_at] at hq
    obtain ⟨q0, h6, h7⟩ := Option.map_eq_some_iff.mp hq
    subst h7
    rw [if_neg (fun y => h1 y.symm)]
    have i1 := I.fst q0 h6
    by_cases y : (1 : Int) ∈ S.kids n
    · rw [if_pos y]; exact i1
    · rw [if_neg y]; exact i1
theorem drop_at (S : Fam) (k m : Int) : (S.drop k).at m = if m = k then none else S.at m := by
  have := look_fm (fun j => decide (j ≠ k)) (fun _ q => q) m S
  have e : (List.map (fun e : Int × Pr => (e.1, e.2)) (S.filter fun e => decide (e.1 ≠ k))) = S.drop k := by
    unfold Fam.drop
    exact List.map_id _
  rw [e] at this
  show (S.drop k).lookup m = _
  rw [this]
  by_cases z : m = k
  · rw [if_pos z, if_neg (by simp [z])]
  · rw [if_neg z, if_pos (by simp [z])]
    show (S.lookup m).map (fun q => q) = S.lookup m
    exact Option.map_id'
theorem inv_drop {S : Fam} (I : Inv S) {n who k : Int} {p : Pr} (h : S.at n = some p) (hw : p.who = none) (hk : k ∈ endedK S n who) : Inv (S.drop k) := by
  obtain ⟨k1, k2⟩ := mem_ended hk
  obtain ⟨qk, b1, b2⟩ := mem_kids.mp k1
  have hd := dead_at k2 b1
  have nd := I.ord.nd
  refine ⟨ord_filter I.ord _ fun e m hc => ?_, fun e m hw => I.liv e (List.mem_filter.mp m).1 hw, fun e m w hw' => ?_, fun q hq => ?_, fun j m => ?_⟩
  · refine decide_eq_true fun z => ?_
    have := mem_at nd m
    rw [z, b1] at this
    rw [Option.some.inj this, hc] at hd
    cases hd
  · have m0 := (List.mem_filter.mp m).1
    obtain ⟨j, mj, hj⟩ := I.wok e m0 w hw'
    refine ⟨j, ?_, hj⟩
    obtain ⟨q, c1, c2⟩ := mem_kids.mp mj
    refine mem_kids.mpr ⟨q, ?_, c2⟩
    rw [drop_at, if_neg fun z => ?_]
    · exact c1
    · rw [z, b1] at c1
      rw [← Option.some.inj c1, b2] at c2
      have e1 := mem_at nd m0
      rw [← Option.some.inj c2, h] at e1
      rw [← Option.some.inj e1, hw] at hw'
      cases hw'
  · rw [drop_at] at hq
    by_cases z : (1 : Int) = k
    · rw [if_pos z] at hq; cases hq
    · rw [if_neg z] at hq; exact I.fst q hq
  · obtain ⟨e, me, rfl⟩ := List.mem_map.mp m
    exact I.rng _ (List.mem_map.mpr ⟨e, (List.mem_filter.mp me).1, rfl⟩)
theorem inv_fin {S : Fam} (I : Inv S) (D : List Int) : Inv (finS S D) := by
  have nd := I.ord.nd
  have kept : ∀ e ∈ S, e.2.code = none → decide (e.1 ∉ goneK S D) = true := fun e m hc => decide_eq_true fun z => by
    obtain ⟨j, _, _, _, ha⟩ := gone_at z
    have := dead_at ha (mem_at nd m)
    rw [hc] at this
    cases this
  have O1 := ord_filter I.ord (fun e => decide (e.1 ∉ goneK S D)) kept
  have O : Ord (finS S D) := by
    refine ord_map O1 (clr D) (fun p hp => ?_) (fun i n p hi z => ?_) (fun e m hd => ?_)
    · obtain ⟨p2, e1, _, e3, e4, e5⟩ := first_at O1
      have e6 : p = p2 := Option.some.inj (hp.symm.trans e1)
      rw [← e6] at e3 e4 e5
      refine ⟨by rw [clr_par]; exact e3, ?_, by rw [clr_code]; exact e5⟩
      unfold clr
      split <;> exact e4
    · obtain ⟨j, m, q, hj, hm, a, b⟩ := O1.par i n p hi z
      exact ⟨j, m, q, hj, hm, by rw [clr_par]; exact a, by rw [clr_code]; exact b⟩
    · rw [clr_code] at hd
      have := O1.dead e m hd
      unfold clr
      split <;> exact this
  refine ⟨O, fun e m hw => ?_, fun e m w hw => ?_, fun q hq => ?_, fun k m => ?_⟩
  · obtain ⟨e0, m0, rfl⟩ := List.mem_map.mp m
    show (clr D e0.1 e0.2).code = none
    rw [clr_code]
    refine I.liv e0 (List.mem_filter.mp m0).1 ?_
    have hw : (clr D e0.1 e0.2).who.isSome = true := hw
    unfold clr at hw
    split at hw
    · cases hw
    · exact hw
  · obtain ⟨e0, m0, rfl⟩ := List.mem_map.mp m
    have hw : (clr D e0.1 e0.2).who = some w := hw
    unfold clr at hw
    by_cases z : e0.1 ∈ D
    · rw [if_pos z] at hw; cases hw
    · rw [if_neg z] at hw
      rw [fin_kids z]
      exact I.wok e0 (List.mem_filter.mp m0).1 w hw
  · rw [fin_at] at hq
    split at hq
    · cases hq
    · obtain ⟨q0, h6, h7⟩ := Option.map_eq_some_iff.mp hq
      subst h7
      have := I.fst q0 h6
      unfold clr
      split
      · exact ⟨rfl, this.2⟩
      · exact this
  · rw [fin_keys] at m
    exact I.rng k (List.mem_filter.mp m).1
theorem inv_sett {S : Fam} (I : Inv S) : Inv (settS S) := inv_fin I _
theorem taken_not {S : Fam} {new : Int} (h : takenB S new = false) : new ∉ S.keys := fun m => by
  obtain ⟨e, me, rfl⟩ := List.mem_map.mp m
  have : takenB S e.1 = true := List.any_eq_true.mpr ⟨e, me, by simp⟩
  rw [h] at this
  cases this
/-- a call of a process that runs -/
theorem inv_perf {S : Fam} (I : Inv S) {n : Int} {p : Pr} (h : S.at n = some p) (hr : S.runs n = true) (c : Cl) (hf : ∀ new, c = .fork new → 1 ≤ new ∧ S.length < 63) : Inv (perfP S n p c).1 := by
  have hcw : p.code = none ∧ p.stp = false ∧ p.who = none := by
    unfold Fam.runs at hr
    rw [h] at hr
    have hr : (p.code.isNone && !p.stp && p.who.isNone) = true := hr
    simp only [Bool.and_eq_true, Option.isNone_iff_eq_none] at hr
    exact ⟨hr.1.1, by simpa using hr.1.2, hr.2⟩
  have f1 : n = 1 → p.who = none ∧ p.stp = false := fun z => I.fst p (by rw [← z]; exact h)
  have wn : ∀ {q : Pr} {m : Int}, S.at m = some q → ∀ w, q.who = some w → q.code = none ∧ ∃ k ∈ S.kids m, w = 0 ∨ w = k := fun {q m} hq w hw =>
    ⟨I.liv (m, q) (at_mem hq) (by show q.who.isSome = true; rw [hw]; rfl), I.wok (m, q) (at_mem hq) w hw⟩
  cases c with
  | fork new =>
    show Inv (if decide (199 < new) || takenB S new then (S, refD "taken") else (S ++ [(new, newP (some n) p.ses p.grp)], toldD (.int new))).1
    by_cases z : (decide (199 < new) || takenB S new) = true
    · rw [if_pos z]; exact I
    · rw [if_neg z]
      have z : (decide (199 < new) || takenB S new) = false := by simpa using z
      rw [Bool.or_eq_false_iff] at z
      obtain ⟨f1, f2⟩ := hf new rfl
      have z1 := of_decide_eq_false z.1
      exact inv_fork I h hcw.1 (taken_not z.2) f2 ⟨f1, by omega⟩ _ _
  | lead =>
    show Inv (if S.kids n ≠ [] then (S, refD "children") else if grpB S n = true then (S, refD "group") else (S.set n { p with ses := n, grp := n }, toldD .none)).1
    split
    · exact I
    · split
      · exact I
      · exact inv_set I h rfl rfl (.inl rfl) (wn (q := p) h) f1
  | adopt =>
    show Inv (if S.kids n ≠ [] then (S, refD "children") else (S.set n { p with ado := true }, toldD .none)).1
    split
    · exact I
    · exact inv_set I h rfl rfl (.inr ⟨rfl, hcw.1⟩) (wn (q := p) h) f1
  | join who g =>
    show Inv (joinS S n who g).1
    unfold joinS
    split
    · exact I
    · split
      · exact I
      · rename_i q hq
        split
        · exact I
        · split
          · exact I
          · exact inv_set I hq rfl rfl (.inl rfl) (wn (q := q) hq) fun z => I.fst q (by rw [← z]; exact hq)
  | fin code =>
    show Inv (if n = 1 then (S, refD "first") else (endS S n p code, toldD .none)).1
    split
    · exact I
    · rename_i z
      exact inv_end I h z code
  | wait who =>
    show Inv (if S.kids n = [] then (S, refD "no child") else if who ∉ 0 :: S.kids n then (S, refD "no child") else beginS S n p who).1
    split
    · exact I
    · rename_i z1
      split
      · exact I
      · rename_i z2
        unfold beginS
        split
        · unfold waitS
          cases z : endedK S n who with
          | nil => exact I
          | cons k r => exact inv_drop I h hcw.2.2 (k := k) (who := who) (by rw [z]; exact List.mem_cons_self)
        · split
          · exact I
          · rename_i z3
            refine inv_set I h rfl rfl (.inl rfl) (fun w hw => ⟨hcw.1, ?_⟩) fun z => absurd z z3
            have hw : w = who := (Option.some.inj hw).symm
            subst hw
            rcases List.mem_cons.mp (Classical.not_not.mp z2) with y | y
            · cases e : S.kids n with
              | nil => exact absurd e z1
              | cons k r => exact ⟨k, List.mem_cons_self, .inl y⟩
            · exact ⟨w, y, .inr rfl⟩
  | about who => exact I
theorem sett_len (S : Fam) : (settS S).length ≤ S.length := by
  unfold settS finS
  rw [List.length_map]
  exact List.length_filter_le _ _
theorem perf_len (S : Fam) (n : Int) (p : Pr) (c : Cl) : (perfP S n p c).1.length ≤ S.length + 1 ∧ ((∀ new, c ≠ .fork new) → (perfP S n p c).1.length ≤ S.length) := by
  have sl : ∀ (S : Fam) (n : Int) (p : Pr), (S.set n p).length = S.length := fun S n p => by unfold Fam.set; rw [List.length_map]
  have key : (∀ new, c ≠ .fork new) → (perfP S n p c).1.length ≤ S.length := by
    intro hc
    cases c with
    | fork new => exact absurd rfl (hc new)
    | lead =>
      show (if S.kids n ≠ [] then (S, refD "children") else if grpB S n = true then (S, refD "group") else (S.set n { p with ses := n, grp := n }, toldD .none)).1.length ≤ _
      split
      · exact Nat.le_refl _
      · split
        · exact Nat.le_refl _
        · exact Nat.le_of_eq (sl _ _ _)
    | adopt =>
      show (if S.kids n ≠ [] then (S, refD "children") else (S.set n { p with ado := true }, toldD .none)).1.length ≤ _
      split
      · exact Nat.le_refl _
      · exact Nat.le_of_eq (sl _ _ _)
    | join who g =>
      show (joinS S n who g).1.length ≤ _
      unfold joinS
      split
      · exact Nat.le_refl _
      · split
        · exact Nat.le_refl _
        · split
          · exact Nat.le_refl _
          · split
            · exact Nat.le_refl _
            · exact Nat.le_of_eq (sl _ _ _)
    | fin code =>
      show (if n = 1 then (S, refD "first") else (endS S n p code, toldD .none)).1.length ≤ _
      split
      · exact Nat.le_refl _
      · show (endS S n p code).length ≤ _
        rw [end_map]
        unfold mapS
        rw [List.length_map]
        exact Nat.le_refl _
    | wait who =>
      show (if S.kids n = [] then (S, refD "no child") else if who ∉ 0 :: S.kids n then (S, refD "no child") else beginS S n p who).1.length ≤ _
      split
      · exact Nat.le_refl _
      · split
        · exact Nat.le_refl _
        · unfold beginS
          split
          · unfold waitS
            cases endedK S n who with
            | nil => exact Nat.le_refl _
            | cons k r => exact List.length_filter_le _ _
          · split
            · exact Nat.le_refl _
            · exact Nat.le_of_eq (sl _ _ _)
    | about who => exact Nat.le_refl _
  refine ⟨?_, key⟩
  cases c with
  | fork new =>
    show (if decide (199 < new) || takenB S new then (S, refD "taken") else (S ++ [(new, newP (some n) p.ses p.grp)], toldD (.int new))).1.length ≤ _
    split
    · exact Nat.le_succ _
    · show (S ++ [_]).length ≤ _
      rw [List.length_append]
      exact Nat.le_refl _
  | _ => exact Nat.le_trans (key (fun new => by intro z; cases z)) (Nat.le_succ _)
end K02
set_option Elab.async false
set_option linter.all false
set_option maxRecDepth 100000
set_option maxHeartbeats 4000000
namespace K02
open PySem PySem.Spec PyProof.Rows L2 Evl KB
theorem perfA_cases (S : Fam) (c : Cs) : perfA S c = [] ∨ ∃ who q, c = .send .wake who ∧ S.at who = some q ∧ q.who.isSome = true ∧ q.code = none ∧ who ≠ 1 ∧ perfA S c = [(who, wokenD)] := by
  cases c with
  | fam c => exact .inl rfl
  | send k who =>
    show sendA S k who = [] ∨ ∃ who' q, Cs.send k who = .send .wake who' ∧ S.at who' = some q ∧ q.who.isSome = true ∧ q.code = none ∧ who' ≠ 1 ∧ sendA S k who = [(who', wokenD)]
    cases z : S.at who with
    | none => exact .inl (by unfold sendA; rw [z])
    | some q =>
      have hs : sendA S k who = if q.code.isSome = true then [] else if who = 1 then [] else delA who q k := by unfold sendA; rw [z]
      rw [hs]
      by_cases h1 : q.code.isSome = true
      · exact .inl (if_pos h1)
      · by_cases h2 : who = 1
        · rw [if_neg h1]
          exact .inl (if_pos h2)
        · rw [if_neg h1, if_neg h2]
          cases k with
          | wake =>
            by_cases h3 : q.who.isSome = true
            · refine .inr ⟨who, q, rfl, z, h3, ?_, h2, ?_⟩
              · cases y : q.code with
                | none => rfl
                | some _ => rw [y] at h1; exact absurd rfl h1
              · show (if q.who.isSome = true then [(who, wokenD)] else []) = _
                rw [if_pos h3]
            · exact .inl (show (if q.who.isSome = true then [(who, wokenD)] else []) = [] from if_neg h3)
          | _ => exact .inl rfl
theorem perfA_len (S : Fam) (c : Cs) : (perfA S c).length ≤ 1 := by
  rcases perfA_cases S c with h | ⟨_, _, _, _, _, _, _, h⟩
  · rw [h]; exact Nat.zero_le _
  · rw [h]; exact Nat.le_refl _
theorem perfA_nodup (S : Fam) (c : Cs) : ((perfA S c).map (·.1)).Nodup := by
  rcases perfA_cases S c with h | ⟨_, _, _, _, _, _, _, h⟩
  · rw [h]; exact List.nodup_nil
  · rw [h]; simp
theorem sete_len (E : List Ent) (n : Int) (p : Pr) : (setE E n p).length = E.length := by unfold setE; rw [List.length_map]
theorem ende_len (E : List Ent) (n : Int) (p : Pr) (code : Int) : (endE E n p code).length = E.length := by
  unfold endE
  rw [sete_len]
  unfold parE
  rw [List.length_map]
theorem sende_len (E : List Ent) (k : Kd) (who : Int) : (sendE E k who).1.length = E.length := by
  unfold sendE
  cases E.lookup who with
  | none => rfl
  | some x =>
    obtain ⟨pa, q⟩ := x
    show (if q.code.isSome = true then (E, refD "no process") else if who = 1 then (E, refD "first") else (delE E who q k, toldD .none)).1.length = _
    split
    · rfl
    · split
      · rfl
      · cases k with
        | fin => exact ende_len E who q (-1)
        | _ => exact sete_len _ _ _
theorem perfs_few {E : List Ent} {n : Int} {p : Pr} {c : Cs} {x : Addr} : (perfES E n p c x).1.length ≤ E.length + 1 := by
  cases c with
  | fam c => exact perf_few
  | send k who =>
    show (sendE E k who).1.length ≤ _
    rw [sende_len]
    omega
theorem perfs_both {E : List Ent} {n : Int} {p : Pr} {c : Cs} {x : Addr} : (perfA (famE E) c).length + (perfES E n p c x).1.length ≤ E.length + 1 := by
  cases c with
  | fam c =>
    have := perf_few (E := E) (n := n) (p := p) (c := c) (x := x)
    show 0 + (perfE E n p c x).1.length ≤ _
    omega
  | send k who =>
    have h1 := perfA_len (famE E) (.send k who)
    have h2 : (perfES E n p (.send k who) x).1.length = E.length := sende_len E k who
    omega
theorem perfs_liv {E : List Ent} {n : Int} {pa : Addr} {p : Pr} {c : Cs} {x : Addr} (h : Liv (famE E)) (l : E.lookup n = some (pa, p)) (hc : p.code = none) : Liv (famE (perfES E n p c x).1) := by
  cases c with
  | fam c => exact perf_liv h l hc
  | send k who =>
    show Liv (famE (sendE E k who).1)
    unfold sendE
    cases z : E.lookup who with
    | none => exact h
    | some y =>
      obtain ⟨qa, q⟩ := y
      show Liv (famE (if q.code.isSome = true then (E, refD "no process") else if who = 1 then (E, refD "first") else (delE E who q k, toldD .none)).1)
      have hq := liv_at h z
      split
      · exact h
      · split
        · exact h
        · cases k with
          | fin => exact set_liv (par_liv h) fun z => nomatch z
          | wake => exact set_liv h fun z => nomatch z
          | stop => exact set_liv h hq
          | go => exact set_liv h hq
theorem perfs_adj {E : List Ent} {n : Int} {pa : Addr} {p : Pr} {c : Cs} {x : Addr} (I : Inv (famE E)) (l : E.lookup n = some (pa, p)) : Adj (famE (perfES E n p c x).1) (perfA (famE E) c) := by
  rcases perfA_cases (famE E) c with h | ⟨who, q, rfl, h1, h2, h3, h4, h5⟩
  · rw [h]
    exact fun _ m => nomatch m
  · rw [h5]
    intro x m
    rw [List.mem_singleton.mp m]
    show who ∉ waitK (famE (sendE E .wake who).1)
    have nd : (E.map (·.1)).Nodup := by rw [← fam_keys]; exact I.ord.nd
    obtain ⟨qa, l2⟩ : ∃ qa, E.lookup who = some (qa, q) := by
      rw [fam_at] at h1
      obtain ⟨y, e1, e2⟩ := Option.map_eq_some_iff.mp h1
      exact ⟨y.1, by rw [e1, ← e2]⟩
    have hs := (send_live (k := .wake) l2 h3).1
    rw [if_neg h4] at hs
    rw [hs]
    show who ∉ waitK (famE (setE E who { q with who := none }))
    intro mw
    obtain ⟨q2, a1, a2⟩ := (mem_waitK (by rw [fam_keys, set_keys]; exact nd)).mp mw
    rw [fam_in (look_set l2)] at a1
    rw [← Option.some.inj a1] at a2
    cases a2
/-- what do does when its process runs -/
def DoQS (H : Hp) (CM CW CP tP : Addr) (R : List Addr) (ma : Addr) (E : List Ent) (n : Int) (c : Cs) (Q : VK) : Prop := ∀ pa p, E.lookup n = some (pa, p) → ∀ x E2 A2 v H' R', SetR (perfES E n p c x).1 (perfA (famE E) c) E2 A2 → (∀ k ∈ turnK (famE E2), readyB (famE E2) k = false) → Fr R H H' → (∀ b ∈ R, b ∈ R') → (∀ b ∈ R', b ∈ R ∨ H b = none) →
  MaAt H' CM CW CP tP R' ma E2 → Dx H' v (.tuple [(perfES E n p c x).2, .list (ansD A2)]) → Q v H'
def spMDoS (CM CW CP tP CN : Addr) : Sp := fun vs H Q X => ∃ R ma E n t c, vs = [.ref ma, .int n, .ref t] ∧ (H t = some (.tup (Cs.vals c)) ∨ H t = some (.lst (Cs.vals c))) ∧ MaAt H CM CW CP tP R ma E ∧ E.length < 63 ∧ Inv (famE E) ∧ n.natAbs.log2 < 900 ∧
  ((famE E).runs n = false → ∀ d H2, H d = none → Ex H H2 → H2 d = some (.xd [("number", .int n)]) → X (.ref CN) (some d) H2) ∧ ((famE E).runs n = true → DoQS H CM CW CP tP R ma E n c Q)
section
variable {P : Program} {w : World} {K : PySem.W.Frag} {mg : Str → Option Value} {base : Heap} {CM CW CP tP CN f : Addr} {fd : FuncData} {t0 : Tok}
theorem ok_MDoS (F : Fun K "do" "Machine.do" sMDo f fd) (TM : MT K CM) (TW : WT K CW) (TP : PT K CP) (X_NotRunning : Ke P w K mg base 2 CN "NotRunning" (spInit CN "number")) (G_Process_runs : Km P w K mg base 1 CP "runs" ["self"] (spRuns CW CP tP)) (G_perform : Kf P w K mg base 9 "perform" ["world", "caller", "call"] (spPerformS CW CP tP)) (G_settle : Kf P w K mg base 5 "settle" ["world"] (spSettle CW CP tP)) (m_sorted : mg "sorted" = none) (m_tuple : mg "tuple" = none) : FnOk P w K mg base (L2.CX P w) 10 f fd ["self", "number", "call"] (spMDoS CM CW CP tP CN) := by
  refine F.okX scMDo (fun vs H Q E h => ?_) (fun cdv A outer s H vs Q E hr h => ?_)
  · obtain ⟨R, ma, E, n, t, c, rfl, _⟩ := h
    rfl
  · obtain ⟨R, ma, E, n, t, c, rfl, ht, M, few, I, hn9, qe, q⟩ := h
    have nd := scMDo.nd
    have hu := hu_of hr
    refine ⟨_, (pss_cons (ps_set (i := 3) nd rfl (by first | exact .inl rfl | exact .inr rfl) (pe_fld (pv 0) rfl))
      (pss_cons (ps_if (PW.pt (pw_or (pt_cmp (pc_dnotin hu (pv 1) (pe_fld (pv 3) rfl))) (pw_or1 (pt_not (pt_val (pe_mt0 (pe_dget hu (pe_fld (pv 3) rfl) (pv 1) (fun _ _ => rfl)) G_Process_runs (hr.mono (by decide)))))))) (pss_one (ps_raise rfl (takes_of rfl rfl rfl rfl) (pmk_C X_NotRunning (hr.mono (by decide)) (pa_cons (pv 1) pa_nil)))) pss_nil)
      (pss_cons (ps_set (i := 4) nd rfl (by first | exact .inl rfl | exact .inr rfl) (pe_fn G_perform (hr.mono (by decide)) (pa_cons (pv 3) (pa_cons (pe_dget hu (pe_fld (pv 3) rfl) (pv 1) (fun _ _ => rfl)) (pa_cons (pe_tupleOf (by rfl) m_tuple (pv 2)) pa_nil)))))
      (pss_cons (ps_expr (pe_fn G_settle (hr.mono (by decide)) (pa_cons (pv 3) pa_nil)))
      (pss_cons (ps_setLc (i := 6) (own := [("at", 5)]) (g := gName 5) (tt := tYes) (te := tTup (tCons (tVar 5) (tCons (tDGet (tFld K (tVar 3) "answered") (tVar 5)) tNil))) rfl nd rfl rfl (sw_true rfl rfl rfl (by decide +kernel)) (pi_list (pe_callB (cr_srtD rfl) (by rfl) m_sorted (by decide +kernel) (pa_cons (pe_fld (pv 3) rfl) pa_nil))) (blkOk_by (N := nMDo) (sc := defScope sMDo) (by decide +kernel)) (fun _ _ _ _ _ => (pg_name (i := 5) nd rfl (by first | exact .inl rfl | exact .inr rfl))) (fun _ _ _ _ _ => pts_nil) (fun _ _ _ _ _ => (pe_tup (pa_cons (pv 5) (pa_cons (pe_dget hu (pe_fld (pv 3) rfl) (pv 5) (fun _ _ => rfl)) pa_nil)))))
      (pss_cons (ps_fld (pv 3) pe_dnewK rfl)
      (pss_one (ps_ret (pe_tup (pa_cons (pv 4) (pa_cons (pv 6) pa_nil))))))))))), ?_⟩
    obtain ⟨wa, dxm, hm, W0⟩ := M.ex
    have W0' := W0
    obtain ⟨pd, ad, fi, th, pi, si, ar, dx, ser, W⟩ := W0'
    refine q_asg (ev_fld (ev_var rfl) hm TM.cls TM.n1 rfl) fun H1 e1 => ?_
    have W1 := W.ex e1
    have bb : (!decide (n ∈ E.map (·.1)) || !(famE E).runs n) = !(famE E).runs n := by
      by_cases z : n ∈ E.map (·.1)
      · rw [decide_eq_true z]; rfl
      · unfold Fam.runs
        rw [fam_no z, decide_eq_false z]
        rfl
    refine q_when (b := !(famE E).runs n) (et_is (et_or (et_B (ev_pnin TW W1 (ev_var rfl) (ev_var rfl))) fun hb => ?_) bb) (fun hb H2 e2 => ?_) (fun hb H2 e2 => ?_)
    · have z : n ∈ E.map (·.1) := by simpa using hb
      obtain ⟨pa, p, l, _⟩ := look_some z
      obtain ⟨d1, v1, c1, g1, s1, k1, _⟩ := (W1.rec1 l).is
      refine et_not (et_B (ev_meth0 (ev_proc TW W1 (ev_var rfl) (ev_var rfl) l) k1 rfl fun H3 e3 Q q E' => ⟨R, wa, E, [], n, pa, p, rfl, (W0.ex e1).ex e3, l, q⟩))
    · exact s_raise (ev_var rfl) (.inl ⟨n, rfl, hn9⟩) fun d H3 nd' e3 gd => qe (by simpa using hb) d H3 (fresh_back (e1.trans e2) nd') (e1.trans (e2.trans e3)) gd
    have hrun : (famE E).runs n = true := by simpa using hb
    have q := q hrun
    have z : n ∈ E.map (·.1) := by
      by_cases z : n ∈ E.map (·.1)
      · exact z
      · unfold Fam.runs at hrun
        rw [fam_no z] at hrun
        cases hrun
    obtain ⟨pa, p, l, _⟩ := look_some z
    have hcw : p.code = none ∧ p.who = none := by
      unfold Fam.runs at hrun
      rw [fam_in l] at hrun
      have hrun : (p.code.isNone && !p.stp && p.who.isNone) = true := hrun
      simp only [Bool.and_eq_true, Option.isNone_iff_eq_none] at hrun
      exact ⟨hrun.1.1, hrun.2⟩
    have W2 := W1.ex e2
    have q := q pa p l
    have e02 := e1.trans e2
    refine q_asgC3 (K := K) (ev_var rfl) (ev_proc TW W2 (ev_var rfl) (ev_var rfl) l) (ep_tup (ev_var rfl) (ht.imp (e02 _ _) (e02 _ _))) fun v5 H5 e5 hv5 => ?_
    obtain ⟨t', rfl, ht'⟩ := hv5
    have e05 := e02.trans e5
    refine ⟨R, wa, E, n, pa, p, t', c, rfl, ht', W0.ex e05, few, l, hcw.1, hcw.2, I.ord, fun x v H6 R6 f6 s6 t6 W6 g6 => ?_⟩
    show tSeq _ _ _ [some (.ref ma), some (.int n), some (.ref t), some (.ref wa), some v, none, none] H6
    have F6 : Fr R H H6 := (Fr.same e05).trans f6
    have T6 : ∀ b ∈ R6, b ∈ R ∨ H b = none := fun b m => (t6 b m).imp id (fresh_back e05)
    have few6 : (perfES E n p c x).1.length < 64 := by have := perfs_few (E := E) (n := n) (p := p) (c := c) (x := x); omega
    have liv6 := perfs_liv (c := c) (x := x) I.liv l hcw.1
    have adj6 : Adj (famE (perfES E n p c x).1) (perfA (famE E) c) := perfs_adj I l
    refine q_exC (ea_cons (ev_var rfl) ea_nil) fun H7 e7 => ⟨R6, wa, _, _, rfl, W6.ex e7, few6, ?_, liv6, adj6, fun H8 R8 E8 A8 f8 s8 t8 sr hno W8 => ?_⟩
    · have l1 := perfA_len (famE E) c
      have := wait_le (famE (perfES E n p c x).1)
      have h2 : (famE (perfES E n p c x).1).length = (perfES E n p c x).1.length := List.length_map _
      omega
    have F8 : Fr R H H8 := (F6.trans (Fr.same e7)).comp f8 T6
    have T8 : ∀ b ∈ R8, b ∈ R ∨ H b = none := fun b m => by
      rcases t8 b m with y | y
      · exact T6 b y
      · exact fr_back (F6.trans (Fr.same e7)) y
    have g8 : Tp H8 v (perfES E n p c x).2 := (g6.ex e7).fr f8
    obtain ⟨kn, _, kl⟩ := setR_keys sr adj6 (perfA_nodup (famE E) c)
    have lenA : A8.length < 64 := by
      have := wait_le (famE (perfES E n p c x).1)
      have h2 : (famE (perfES E n p c x).1).length = (perfES E n p c x).1.length := List.length_map _
      have h3 := perfs_both (E := E) (n := n) (p := p) (c := c) (x := x)
      omega
    obtain ⟨pd8, ad8, fi8, th8, pi8, si8, ar8, dx8, ser8, W8⟩ := W8
    obtain ⟨vs, a1, a2, a3⟩ := W8.ans
    have key : (vs.map fun x => ((Sum.inl x.1 : Key), x.2)).map (·.1) = (A8.map (·.1)).map Sum.inl := by
      rw [← a2, List.map_map, List.map_map]
      rfl
    have lens : EvL (tCB rSrtD (tCons (tFld K (tVar 3) "answered") tNil)) [some (.ref ma), some (.int n), some (.ref t), some (.ref wa), some v, none, none] H8 ((asc (A8.map (·.1))).map V.int) :=
      el_srtD (ev_fld (ev_var rfl) W8.obj TW.cls TW.n8 rfl) (.inl a1) key kn (by rw [List.length_map]; exact lenA)
    have lc := ex_lcN (K := K) (t := tYes) (te := tTup (tCons (tVar 5) (tCons (tDGet (tFld K (tVar 3) "answered") (tVar 5)) tNil))) (j := 5) (vs := [5]) V.int (fun _ => true) (fun k => .tuple [.int k, (A8.lookup k).getD .none]) lens (by
        have := len_asc (A8.map (·.1))
        rw [List.length_map] at this
        omega) (fun x => rfl) (fun k mk G e => et_yes) (fun k mk _ G e => by
        obtain ⟨u, d, h1, h2, h3⟩ := ans_look vs A8 a2 a3 k (mem_asc.mp mk)
        rw [h2]
        exact em_tup (ea_cons (ev_var rfl) (ea_cons (ev_dget (ev_fld (ev_var rfl) (e _ _ W8.obj) TW.cls TW.n8 rfl) (ev_var rfl) (e _ _ a1) h1) ea_nil)) (.cons (.int _) (.cons (h3.ex e).dx .nil)) (by show 2 ≤ 100000; omega))
    rw [Evl.filter_all] at lc
    refine q_asgX lc fun ov H9 e9 dv => ?_
    show tSeq _ _ _ [some (.ref ma), some (.int n), some (.ref t), some (.ref wa), some v, none, some ov] H9
    refine q_fldD ed_new (ev_var rfl) (e9 _ _ W8.obj) TW.cls TW.n8 (by show 8 < 1000; omega) fun na H10 nna e10 gna => ?_
    have naR : na ∉ R8 := fun m => by
      obtain ⟨o, ho⟩ := W8.alo na m
      rw [e9 _ _ ho] at nna
      cases nna
    obtain ⟨W11, f11⟩ := ((W8.ex e9).ex e10).ans0 gna naR
    have hwa := (e9.trans e10) _ _ W8.obj
    have F11 : Fr R H (upd H10 wa (.ins CW dx8 (wFs pd8 fi8 th8 pi8 si8 ar8 ser8 na))) := (F8.trans (Fr.same (e9.trans e10))).comp f11 fun b m => by rw [List.mem_singleton.mp m]; exact T8 _ W8.inR.1
    have d11 := dx_ins (o := .ins CW dx8 (wFs pd8 fi8 th8 pi8 si8 ar8 ser8 na)) hwa (dv.mono e10)
    have g11 := (g8.ex (e9.trans e10)).fr f11
    show tRet _ _ [some (.ref ma), some (.int n), some (.ref t), some (.ref wa), some v, none, some ov] (upd H10 wa (.ins CW dx8 (wFs pd8 fi8 th8 pi8 si8 ar8 ser8 na)))
    generalize upd H10 wa (.ins CW dx8 (wFs pd8 fi8 th8 pi8 si8 ar8 ser8 na)) = H11 at W11 f11 F11 d11 g11 ⊢
    refine s_retX (em_tup (ea_cons (ev_var rfl) (ea_cons (ev_var rfl) ea_nil)) (.cons g11.dx (.cons d11 .nil)) (by show 2 ≤ 100000; omega)).x fun rv H12 e12 dr => ?_
    have T12 : ∀ b ∈ na :: R8, b ∈ R ∨ H b = none := fun b m => by
      rcases List.mem_cons.mp m with rfl | m
      · exact fr_back (F8.trans (Fr.same e9)) nna
      · exact T8 b m
    have F12 := F11.trans (Fr.same e12)
    refine q x E8 A8 rv H12 (na :: R8) sr hno F12 (fun b m => List.mem_cons_of_mem _ (s8 b (s6 b m))) T12 ⟨⟨wa, dxm, F12 _ _ hm (.inl M.no), pd8, na, fi8, th8, pi8, si8, ar8, dx8, ser8, W11.ex e12⟩, fun m => ?_⟩ dr
    rcases T12 ma m with y | y
    · exact M.no y
    · rw [hm] at y; cases y
end
end K02
set_option Elab.async false
set_option linter.all false
set_option maxRecDepth 100000
set_option maxHeartbeats 4000000
namespace K02
open PySem PySem.Spec PyProof.Rows L2 Evl KB
/-! ### sends and families alone -/
def delS (S : Fam) (n : Int) (p : Pr) : Kd → Fam
  | .stop => S.set n { p with stp := true }
  | .go => S.set n { p with stp := false }
  | .fin => endS S n p (-1)
  | .wake => S.set n { p with who := none }
def sendS (S : Fam) (k : Kd) (who : Int) : Fam × PyData := match S.at who with
  | none => (S, refD "no process")
  | some q => if q.code.isSome = true then (S, refD "no process") else if who = 1 then (S, refD "first") else (delS S who q k, toldD .none)
def perfPS (S : Fam) (n : Int) (p : Pr) (c : Cs) : Fam × PyData := match c with
  | .fam c => perfP S n p c
  | .send k who => sendS S k who
theorem del_fam (E : List Ent) (n : Int) (p : Pr) (k : Kd) : famE (delE E n p k) = delS (famE E) n p k := by
  cases k with
  | fin => exact fam_end E n p (-1)
  | _ => exact fam_set _ _ _
theorem perfs_fam {E : List Ent} {n : Int} {p : Pr} {c : Cs} {x : Addr} : famR (perfES E n p c x) = perfPS (famE E) n p c := by
  cases c with
  | fam c => exact perf_fam
  | send k who =>
    show famR (sendE E k who) = sendS (famE E) k who
    unfold sendE sendS
    rw [fam_at]
    cases E.lookup who with
    | none => rfl
    | some y =>
      obtain ⟨qa, q⟩ := y
      show famR (if q.code.isSome = true then (E, refD "no process") else if who = 1 then (E, refD "first") else (delE E who q k, toldD .none)) = if q.code.isSome = true then (famE E, refD "no process") else if who = 1 then (famE E, refD "first") else (delS (famE E) who q k, toldD .none)
      rw [fam_ite, fam_ite]
      refine ite_same rfl (ite_same rfl ?_)
      show (famE (delE _ _ _ _), _) = _
      rw [del_fam]
theorem inv_del {S : Fam} (I : Inv S) {n : Int} {p : Pr} (h : S.at n = some p) (h1 : n ≠ 1) (hc : p.code = none) (k : Kd) : Inv (delS S n p k) := by
  have wn : ∀ w, p.who = some w → p.code = none ∧ ∃ k ∈ S.kids n, w = 0 ∨ w = k := fun w hw =>
    ⟨hc, I.wok (n, p) (at_mem h) w hw⟩
  cases k with
  | stop => exact inv_set I h rfl rfl (.inl rfl) wn fun z => absurd z h1
  | go => exact inv_set I h rfl rfl (.inl rfl) wn fun z => absurd z h1
  | wake => exact inv_set I h rfl rfl (.inl rfl) (fun w hw => nomatch hw) fun z => absurd z h1
  | fin => exact inv_end I h h1 (-1)
theorem inv_perfS {S : Fam} (I : Inv S) {n : Int} {p : Pr} (h : S.at n = some p) (hr : S.runs n = true) (c : Cs) (hf : ∀ new, c = .fam (.fork new) → 1 ≤ new ∧ S.length < 63) : Inv (perfPS S n p c).1 := by
  cases c with
  | fam c => exact inv_perf I h hr c fun new hc => hf new (by rw [hc])
  | send k who =>
    show Inv (sendS S k who).1
    unfold sendS
    cases z : S.at who with
    | none => exact I
    | some q =>
      show Inv (if q.code.isSome = true then (S, refD "no process") else if who = 1 then (S, refD "first") else (delS S who q k, toldD .none)).1
      split
      · exact I
      · rename_i h1
        split
        · exact I
        · rename_i h2
          refine inv_del I z h2 ?_ k
          cases y : q.code with
          | none => rfl
          | some _ => rw [y] at h1; exact absurd rfl h1
theorem del_len (S : Fam) (n : Int) (p : Pr) (k : Kd) : (delS S n p k).length = S.length := by
  have sl : ∀ (S : Fam) (n : Int) (p : Pr), (S.set n p).length = S.length := fun S n p => by unfold Fam.set; rw [List.length_map]
  cases k with
  | fin =>
    show (endS S n p (-1)).length = _
    rw [end_map]
    unfold mapS
    rw [List.length_map]
  | _ => exact sl _ _ _
theorem send_len (S : Fam) (k : Kd) (who : Int) : (sendS S k who).1.length = S.length := by
  unfold sendS
  cases S.at who with
  | none => rfl
  | some q =>
    show (if q.code.isSome = true then (S, refD "no process") else if who = 1 then (S, refD "first") else (delS S who q k, toldD .none)).1.length = _
    split
    · rfl
    · split
      · rfl
      · exact del_len _ _ _ _
theorem perfs_len (S : Fam) (n : Int) (p : Pr) (c : Cs) : (perfPS S n p c).1.length ≤ S.length + 1 ∧ ((∀ new, c ≠ .fam (.fork new)) → (perfPS S n p c).1.length ≤ S.length) := by
  cases c with
  | fam c =>
    obtain ⟨a, b⟩ := perf_len S n p c
    exact ⟨a, fun h => b fun new hc => h new (by rw [hc])⟩
  | send k who =>
    have e := send_len S k who
    exact ⟨by show (sendS S k who).1.length ≤ _; omega, fun _ => by show (sendS S k who).1.length ≤ _; omega⟩
/-- what settling tells -/
def ansA (S : Fam) : List (Int × PyData) := (rdyK S).map fun k => (k, ansOf S k)
theorem ansD_mem {A : List (Int × PyData)} {g : Int → PyData} {D D' : List Int} (h : ∀ k, k ∈ D ↔ k ∈ D') : ansD (A ++ D.map fun k => (k, g k)) = ansD (A ++ D'.map fun k => (k, g k)) := by
  have keys : ∀ D : List Int, (A ++ D.map fun k => (k, g k)).map (·.1) = A.map (·.1) ++ D := fun D => by
    rw [List.map_append, List.map_map]
    congr 1
    exact List.map_id _
  have look : ∀ (D : List Int) (k : Int), (D.map fun k => (k, g k)).lookup k = if k ∈ D then some (g k) else none := fun D k => by
    induction D with
    | nil => rfl
    | cons a D ih =>
      rw [List.map_cons, List.lookup_cons, ih]
      by_cases z : k = a
      · subst z
        rw [beq_self_eq_true, if_pos (List.mem_cons_self (a := k) (l := D))]
      · rw [beq_eq_false_iff_ne.mpr z]
        by_cases y : k ∈ D
        · rw [if_pos y, if_pos (List.mem_cons_of_mem _ y)]
        · rw [if_neg y, if_neg (fun m => (List.mem_cons.mp m).elim z y)]
  unfold ansD
  rw [keys, keys]
  have e : asc (A.map (·.1) ++ D) = asc (A.map (·.1) ++ D') := (asc_eq (asc_asc _) fun k => by rw [mem_asc, List.mem_append, List.mem_append, h])
  rw [e]
  refine List.map_congr_left fun k _ => ?_
  have e2 : (A ++ D.map fun k => (k, g k)).lookup k = (A ++ D'.map fun k => (k, g k)).lookup k := by
    rw [List.lookup_append, List.lookup_append, look, look]
    by_cases y : k ∈ D
    · rw [if_pos y, if_pos ((h k).mp y)]
    · rw [if_neg y, if_neg (fun m => y ((h k).mpr m))]
  rw [e2]
theorem setR_endA {E E' : List Ent} {A A' : List (Int × PyData)} (s : SetR E A E' A') (nd : (famE E).keys.Nodup) (liv : Liv (famE E)) (hno : ∀ k ∈ turnK (famE E'), readyB (famE E') k = false) : famE E' = settS (famE E) ∧ ansD A' = ansD (A ++ ansA (famE E)) := by
  obtain ⟨D, h1, h2, h3, h4⟩ := setR_fin s nd liv
  have all : ∀ k, k ∈ D ↔ k ∈ rdyK (famE E) := fun k => by
    rw [mem_rdyK]
    refine ⟨h2 k, fun hr => ?_⟩
    unfold rdyB at hr
    rw [Bool.and_eq_true, decide_eq_true_iff] at hr
    by_cases z : k ∈ D
    · exact z
    · exfalso
      have mw : k ∈ turnK (famE E') := by rw [h3]; exact (fin_turn nd liv).mpr ⟨hr.1, z⟩
      have := hno k mw
      unfold readyB at this
      rw [h3, fin_who z (wait_not_gone nd liv (List.mem_filter.mp hr.1).1), fin_ended z] at this
      have h5 := hr.2
      unfold readyB at h5
      rw [h5] at this
      cases this
  refine ⟨by rw [h3]; exact fin_mem all, ?_⟩
  rw [h4]
  exact ansD_mem all
/-- who is woken is not told otherwise -/
theorem perfA_new {S : Fam} (nd : S.keys.Nodup) {n : Int} {p : Pr} (c : Cs) : ((perfA S c ++ ansA (perfPS S n p c).1).map (·.1)).Nodup := by
  have ka : (ansA (perfPS S n p c).1).map (·.1) = rdyK (perfPS S n p c).1 := by
    unfold ansA
    rw [List.map_map]
    exact List.map_id _
  have nr : ∀ T : Fam, (rdyK T).Nodup := fun T => (asc_asc _).imp fun h => Int.ne_of_lt h
  rw [List.map_append, ka]
  rcases perfA_cases S c with h | ⟨who, q, rfl, h1, h2, h3, h4, h5⟩
  · rw [h]
    exact nr _
  · rw [h5]
    refine List.nodup_append.mpr ⟨by simp, nr _, fun a ma b mb z => ?_⟩
    have ea : a = who := by simpa using ma
    rw [← z, ea] at mb
    have hs : (perfPS S n p (.send .wake who)).1 = S.set who { q with who := none } := by
      show (sendS S .wake who).1 = _
      unfold sendS
      rw [h1]
      show (if q.code.isSome = true then (S, refD "no process") else if who = 1 then (S, refD "first") else (delS S who q .wake, toldD .none)).1 = _
      rw [if_neg (by rw [h3]; simp), if_neg h4]
      rfl
    rw [hs, mem_rdyK] at mb
    unfold rdyB at mb
    rw [Bool.and_eq_true, decide_eq_true_iff] at mb
    have hk : (S.set who { q with who := none }).keys = S.keys := by rw [set_map, map_keys]
    obtain ⟨q2, a1, a2⟩ := (mem_waitK (by rw [hk]; exact nd)).mp (List.mem_filter.mp mb.1).1
    rw [set_map, map_at, h1] at a1
    have a1 : some (if who = who then { q with who := none } else q) = some q2 := a1
    rw [if_pos rfl] at a1
    rw [← Option.some.inj a1] at a2
    cases a2
end K02
set_option Elab.async false
set_option linter.all false
set_option maxRecDepth 100000
set_option maxHeartbeats 4000000
namespace L2
open PySem PySem.Spec PyProof.Rows
section
variable {X : Cx}
/-- d.update(e): new keys all -/
def rUpdate : V → List V → Hp → VK → Prop := fun x xs H Q => ∃ (a b : Addr) (kvs more : List (Key × V)), x = .ref a ∧ xs = [.ref b] ∧ a ≠ b ∧ H a = some (.dK kvs) ∧ H b = some (.dK more) ∧ kvs.length + more.length ≤ sizeLine ∧
  ((kvs ++ more).map (·.1)).Nodup ∧ Q .non (upd H a (.dK (kvs ++ more)))
theorem kv_keys {κ : Type} : ∀ {xs : List (κ × V)} {ys : List (κ × Value)}, KV xs ys → xs.map (·.1) = ys.map (·.1) := fun {xs ys} h => by
  unfold KV at h
  induction h with
  | nil => rfl
  | cons h _ ih => rw [List.map_cons, List.map_cons, h.1, ih]
theorem kv_app {κ : Type} {xs zs : List (κ × V)} {ys ws : List (κ × Value)} (h : KV xs ys) (k : KV zs ws) : KV (xs ++ zs) (ys ++ ws) := by
  unfold KV at h k ⊢
  induction h with
  | nil => exact k
  | cons h _ ih => exact .cons h ih
theorem mt_update : MtR X "dict.update" rUpdate := by
  intro pins s σ H x xs v us Q I rx rxs h
  obtain ⟨a, b, kvs, more, rfl, rfl, ne, ea, eb, sz, nd, q⟩ := h
  obtain rfl : v = Value.ref a := rx
  obtain ⟨u, rfl, ru⟩ := vals1 rxs
  obtain rfl : u = Value.ref b := ru
  obtain ⟨z1, d1, vs, r1, m1⟩ := dk_of I.hok ea
  obtain ⟨z2, d2, ws, r2, m2⟩ := dk_of I.hok eb
  have l1 : kvs.length = vs.length := Paired.length r1
  have l2 : more.length = ws.length := Paired.length r2
  refine call_meetsIn PySem.F.slot_dict_update m1.typeIs PySem.F.entry_dict_update (PySem.F.args_dict_update_2 _ _) (meets_dict_update (mixKind X.prog X.w) a b ne d2) ⟨vs, ws, m1, m2, by omega, fun h' n1 n2 sb => ?_⟩
  have em : merged vs ws = vs ++ ws := merged_append_of_fresh vs ws (by rw [List.map_append, ← kv_keys r1, ← kv_keys r2, ← List.map_append]; exact nd)
  rw [em] at n1
  have he : ∃ o, h'.get? a = some o := by
    obtain ⟨o, _, _, ho, _⟩ := n1
    exact ⟨o, ho⟩
  exact ⟨.non, _, d_write (t' := s.toks) I (by rw [ea]; exact True.intro) sb he (dk_new (by rw [List.length_append]; exact sz) d1 (kv_app r1 r2) n1), rfl, q⟩
end
end L2
namespace Evl
open PySem L2
section
variable {K : PySem.W.Frag} {σ : L2.St} {H H' : Hp} {ta tb te : TE} {v : V}
theorem ev_dgetR {d : Addr} {kvs : List (Key × V)} {i : Int} (hd : Ev ta σ H (.ref d)) (hk : Ev tb σ H (.int i)) (e0 : Rd H d (.dK kvs)) (h : valV kvs (Sum.inl i) = some v) : Ev (tDGet ta tb) σ H v := fun H1 e Q q =>
  hd H1 e _ fun H2 e2 => hk H2 (e.trans e2) _ fun H3 e3 => ⟨d, v, rfl, .inl ⟨kvs, Sum.inl i, ex_rd ((e.trans e2).trans e3) e0, rfl, h.symm⟩, q H3 (e2.trans e3)⟩
theorem ev_dinR {d : Addr} {kvs : List (Key × V)} {i : Int} (hk : Ev tb σ H (.int i)) (hd : Ev ta σ H (.ref d)) (e0 : Rd H d (.dK kvs)) : Ev (tDIn tb ta) σ H (.bl (valV kvs (Sum.inl i)).isSome) := fun H1 e Q q =>
  hk H1 e _ fun H2 e2 => hd H2 (e.trans e2) _ fun H3 e3 => ⟨d, _, rfl, .inl ⟨kvs, Sum.inl i, ex_rd ((e.trans e2).trans e3) e0, rfl, rfl⟩, q H3 (e2.trans e3)⟩
theorem lay_ints : ∀ (ns : List Int), PyData.canLayAll0 (ns.map PyData.int) = true ∧ PyData.depthAll (ns.map PyData.int) ≤ 1
  | [] => ⟨rfl, by simp [PyData.depthAll]⟩
  | n :: ns => by
    obtain ⟨a, b⟩ := lay_ints ns
    exact ⟨by simp [PyData.canLayAll0, PyData.canLay0, a], by simp [PyData.depthAll, PyData.depth, b]⟩
theorem shaped_ints (ns : List Int) : SeqAt.shaped (.list (ns.map PyData.int)) = true := by
  obtain ⟨a, b⟩ := lay_ints ns
  show ((PyData.list (ns.map PyData.int)).canLay0 && decide ((PyData.list (ns.map PyData.int)).depth ≤ 64)) = true
  have h1 : (PyData.list (ns.map PyData.int)).canLay0 = true := by simp only [PyData.canLay0]; exact a
  have h2 : (PyData.list (ns.map PyData.int)).depth ≤ 64 := by simp only [PyData.depth]; omega
  rw [h1, decide_eq_true h2]
  rfl
theorem dp_ints {H : Hp} : ∀ (ns : List Int), DpAll K H (ns.map V.int) (ns.map PyData.int)
  | [] => .nil
  | n :: ns => .cons (.int n) (dp_ints ns)
theorem eqv_nil (ns : List Int) : PyData.eqv (.list (ns.map PyData.int)) (.list []) = ns.isEmpty := by cases ns <;> simp [PyData.eqv, PyData.eqvAll]
/-- xs == [] of a list of ints that stands, of a new one -/
theorem ev_nilI {a : Addr} {ns : List Int} (h : Ev ta σ H (.ref a)) (g : H a = some (.lst (ns.map V.int))) : Ev (tOp (rEqD K) ta (tLst tNil)) σ H (.bl ns.isEmpty) := fun H1 e Q q =>
  h H1 e _ fun H2 e2 => ⟨by show 0 ≤ sizeLine; decide, fun p np => by
    refine ⟨.list (ns.map PyData.int), .list [], .lst (sq_of ((Ex.new np) _ _ ((e.trans e2) _ _ g))) (Evl.dp_ints ns), .lst (sq_of upd_same) .nil, shaped_ints ns, rfl, ?_⟩
    rw [eqv_nil]
    exact q _ (e2.trans (Ex.new np))⟩
theorem ev_neI {a : Addr} {ns : List Int} (h : Ev ta σ H (.ref a)) (g : H a = some (.lst (ns.map V.int))) : Ev (tOp (rNeD K) ta (tLst tNil)) σ H (.bl (!ns.isEmpty)) := fun H1 e Q q =>
  h H1 e _ fun H2 e2 => ⟨by show 0 ≤ sizeLine; decide, fun p np => by
    refine ⟨.list (ns.map PyData.int), .list [], .lst (sq_of ((Ex.new np) _ _ ((e.trans e2) _ _ g))) (Evl.dp_ints ns), .lst (sq_of upd_same) .nil, shaped_ints ns, rfl, ?_⟩
    rw [eqv_nil]
    exact q _ (e2.trans (Ex.new np))⟩
theorem ev_nilL {ns : List Int} (h : EvL ta σ H (ns.map V.int)) : Ev (tOp (rEqD K) ta (tLst tNil)) σ H (.bl ns.isEmpty) := fun H1 e Q q =>
  h H1 e _ fun a H2 na e2 ga => ⟨by show 0 ≤ sizeLine; decide, fun p np => by
    refine ⟨.list (ns.map PyData.int), .list [], .lst (sq_of ((Ex.new np) _ _ ga)) (Evl.dp_ints ns), .lst (sq_of upd_same) .nil, shaped_ints ns, rfl, ?_⟩
    rw [eqv_nil]
    exact q _ (e2.trans (Ex.new np))⟩
theorem ev_neL {ns : List Int} (h : EvL ta σ H (ns.map V.int)) : Ev (tOp (rNeD K) ta (tLst tNil)) σ H (.bl (!ns.isEmpty)) := fun H1 e Q q =>
  h H1 e _ fun a H2 na e2 ga => ⟨by show 0 ≤ sizeLine; decide, fun p np => by
    refine ⟨.list (ns.map PyData.int), .list [], .lst (sq_of ((Ex.new np) _ _ ga)) (Evl.dp_ints ns), .lst (sq_of upd_same) .nil, shaped_ints ns, rfl, ?_⟩
    rw [eqv_nil]
    exact q _ (e2.trans (Ex.new np))⟩
end
end Evl
namespace K02
open PySem PySem.Spec PyProof.Rows L2 Evl KB
/-! ### the law's own world: what is read of it, locked or not -/
structure LWr (H : Hp) (lw : Addr) (E : List Ent) : Prop where
  top : Rd H lw (.dK (topK E))
  recs : ∀ e ∈ E, ∃ vc, H e.2.1 = some (.dK (recKV e.2.2 vc)) ∧ CallV H vc e.2.2.who
structure LF (te : TE) (σ : L2.St) (H : Hp) (p : Pr) : Prop where
  par : Ev (tDGet te (tC (.str "parent"))) σ H (optV p.par)
  ses : Ev (tDGet te (tC (.str "session"))) σ H (.int p.ses)
  grp : Ev (tDGet te (tC (.str "group"))) σ H (.int p.grp)
  ado : Ev (tDGet te (tC (.str "adopts"))) σ H (.bl p.ado)
  code : Ev (tDGet te (tC (.str "code"))) σ H (optV p.code)
  stp : Ev (tDGet te (tC (.str "stopped"))) σ H (.bl p.stp)
  call : ∃ vc, Ev (tDGet te (tC (.str "call"))) σ H vc ∧ CallV H vc p.who
section
variable {K : PySem.W.Frag} {σ : L2.St} {H H' : Hp} {lw r : Addr} {E : List Ent} {n : Int} {p : Pr} {ta tb te : TE} {v : V}
theorem LW.rd (w : LW H lw E) : LWr H lw E := ⟨.inl w.top, w.recs⟩
theorem LW.ex (w : LW H lw E) (e : Ex H H') : LW H' lw E := w.fr (F := []) (Fr.same e) fun _ _ => List.not_mem_nil
theorem lf_of {vc : V} (h : Ev te σ H (.ref r)) (hr : H r = some (.dK (recKV p vc))) (c : CallV H vc p.who) : LF te σ H p :=
  ⟨ev_dgetS h ev_c hr rfl, ev_dgetS h ev_c hr rfl, ev_dgetS h ev_c hr rfl, ev_dgetS h ev_c hr rfl, ev_dgetS h ev_c hr rfl, ev_dgetS h ev_c hr rfl, vc, ev_dgetS h ev_c hr rfl, c⟩
theorem ev_lrec (w : LWr H lw E) (h : Ev ta σ H (.ref lw)) (hn : Ev tb σ H (.int n)) (l : E.lookup n = some (r, p)) : Ev (tDGet ta tb) σ H (.ref r) := ev_dgetR h hn w.top (by rw [top_at, l]; rfl)
theorem lf_at (w : LWr H lw E) (h : Ev ta σ H (.ref lw)) (hn : Ev tb σ H (.int n)) (l : E.lookup n = some (r, p)) : LF (tDGet ta tb) σ H p := by
  obtain ⟨vc, h1, h2⟩ := w.recs _ (look_in l)
  exact lf_of (ev_lrec w h hn l) h1 h2
theorem top_isSome (E : List Ent) (n : Int) : (valV (topK E) (Sum.inl n)).isSome = decide (n ∈ E.map (·.1)) := by
  rw [top_at]
  by_cases z : n ∈ E.map (·.1)
  · obtain ⟨pa, p, h, _⟩ := look_some z
    rw [h, decide_eq_true z]
    rfl
  · rw [look_none z, decide_eq_false z]
    rfl
theorem ev_lin (w : LWr H lw E) (h : Ev ta σ H (.ref lw)) (hn : Ev tb σ H (.int n)) : Ev (tDIn tb ta) σ H (.bl (decide (n ∈ E.map (·.1)))) := by
  rw [← top_isSome]
  exact ev_dinR hn h w.top
theorem ev_lnin (w : LWr H lw E) (h : Ev ta σ H (.ref lw)) (hn : Ev tb σ H (.int n)) : Ev (tDNotIn tb ta) σ H (.bl (!decide (n ∈ E.map (·.1)))) := by
  rw [← top_isSome]
  exact fun H1 e Q q => hn H1 e _ fun H2 e2 => h H2 (e.trans e2) _ fun H3 e3 => ⟨lw, _, rfl, .inl ⟨topK E, Sum.inl n, ex_rd ((e.trans e2).trans e3) w.top, rfl, rfl⟩, q H3 (e2.trans e3)⟩
theorem el_lsorted (w : LWr H lw E) (nd : (E.map (·.1)).Nodup) (h : Ev ta σ H (.ref lw)) (few : E.length < 64) : EvL (tCB rSrtD (tCons ta tNil)) σ H (((famE E).sorted).map V.int) := by
  unfold Fam.sorted
  rw [fam_keys]
  exact el_srtD h w.top (top_keys E) nd (by rw [List.length_map]; exact few)
theorem sorted_len (E : List Ent) (few : E.length < 64) : ((famE E).sorted).length ≤ 40000 := by
  unfold Fam.sorted
  rw [fam_keys]
  have := len_asc (E.map (·.1))
  rw [List.length_map] at this
  omega
/-- [e for k in world if t], world being read -/
theorem el_lockW {t : TT} {j i0 : Nat} {vs : List Nat} (W : LW H lw E) (few : E.length ≤ 1000) (hi : σ[i0]? = some (some (.ref lw))) (p : Ent → Bool) (g : Ent → V) (hw : ∀ x, wipe ((wipe σ vs).set j (some x)) vs = wipe σ vs)
    (ht : ∀ e ∈ E, ∀ G, LWr G lw E → EvT t ((wipe σ vs).set j (some (.int e.1))) G (p e)) (he : ∀ e ∈ E, p e = true → ∀ G, LWr G lw E → Ev te ((wipe σ vs).set j (some (.int e.1))) G (g e)) :
    EvL (tLockE (tLc (iKeys (tVar i0)) (gName j) t te vs)) σ H ((E.filter p).map g) := fun H1 e1 Q q => by
  have W1 := W.ex e1
  refine ⟨lw, .dK (topK E), W1.top, True.intro, fun od => ?_⟩
  have gk : upd H1 lw (.frz od (.dK (topK E))) lw = some (.frz od (.dK (topK E))) := upd_same
  have st : ∀ {b : Addr} {o : HO}, b ≠ lw → H1 b = some o → upd H1 lw (.frz od (.dK (topK E))) b = some o := fun n h => (upd_ne n).trans h
  have Nf : LWr (upd H1 lw (.frz od (.dK (topK E)))) lw E := by
    refine ⟨.inr ⟨od, gk⟩, fun x m => ?_⟩
    obtain ⟨vc, h1, h2⟩ := W1.recs x m
    have ne : x.2.1 ≠ lw := fun z => (List.nodup_cons.mp W1.nd).1 (by rw [← z]; exact List.mem_map_of_mem (f := fun e : Ent => e.2.1) m)
    refine ⟨vc, st ne h1, ?_⟩
    revert h2
    cases x.2.2.who with
    | none => exact id
    | some k =>
      rintro ⟨a, rfl, ha⟩
      exact ⟨a, rfl, st (fun z => by rw [z, W1.top] at ha; cases ha) ha⟩
  have fr : ∀ {b : Addr}, upd H1 lw (.frz od (.dK (topK E))) b = none → H1 b = none := fun {b} h => by
    by_cases z : b = lw
    · rw [z, gk] at h; cases h
    · rw [upd_ne z] at h; exact h
  generalize upd H1 lw (.frz od (.dK (topK E))) = Hf at gk st Nf fr ⊢
  refine ⟨_, hi, lw, od, rfl, .inl ⟨topK E, gk, fun Dl hD => lc_it (walk_keys (d := lw) (o := od) (kvs := topK E)) (Made Hf E p g Dl) ⟨hD, Ex.new hD, upd_same⟩ (fun i G _ m => m.2.1 _ _ gk) ?_ fun G m => ?_⟩⟩
  · rintro i x G _ hi m ⟨rfl, k, v, ek, rfl⟩
    unfold topK at ek
    rw [List.getElem?_map] at ek
    obtain ⟨e, ee, e2⟩ := Option.map_eq_some_iff.mp ek
    obtain ⟨rfl, rfl⟩ := Prod.mk.inj e2
    have mn := List.mem_of_getElem? ee
    exact ⟨hw _, made_turn m (by omega) ee (ht _ mn Hf Nf) (fun hp => he _ mn hp Hf Nf)⟩
  · obtain ⟨nD, eG, gD⟩ := m
    have len : (topK E).length = E.length := List.length_map _
    rw [len, List.take_length] at gD
    have nk : Dl ≠ lw := fun z => by rw [z, gk] at nD; cases nD
    refine ⟨eG _ _ gk, q Dl _ (fr nD) (fun b o h => ?_) ((upd_ne nk).trans gD)⟩
    by_cases z : b = lw
    · rw [z, upd_same, ← W1.top, ← z, h]
    · rw [upd_ne z]
      exact eG _ _ (st z h)
end
mutual
/-- what is no list and no tuple is changed -/
theorem dx_upd {H : Hp} {a : Addr} {o : HO} (h1 : ∀ xs, H a ≠ some (.lst xs)) (h2 : ∀ xs, H a ≠ some (.tup xs)) : ∀ {v : V} {d : PyData}, Dx H v d → Dx (upd H a o) v d
  | _, _, .non => .non
  | _, _, .bl b => .bl b
  | _, _, .int i => .int i
  | _, _, .str x => .str x
  | _, _, .lst e k => .lst ((upd_ne (fun z => by rw [z] at e; exact h1 _ e)).trans e) (dxs_upd h1 h2 k)
  | _, _, .tup e k => .tup ((upd_ne (fun z => by rw [z] at e; exact h2 _ e)).trans e) (dxs_upd h1 h2 k)
theorem dxs_upd {H : Hp} {a : Addr} {o : HO} (h1 : ∀ xs, H a ≠ some (.lst xs)) (h2 : ∀ xs, H a ≠ some (.tup xs)) : ∀ {vs : List V} {ds : List PyData}, DxAll H vs ds → DxAll (upd H a o) vs ds
  | _, _, .nil => .nil
  | _, _, .cons x t => .cons (dx_upd h1 h2 x) (dxs_upd h1 h2 t)
end
section
variable {K : PySem.W.Frag} {σ : L2.St} {H H' : Hp} {lw r : Addr} {E : List Ent} {n : Int} {p : Pr} {ta tb te : TE} {v : V}
/-- the same where the items are data -/
theorem ex_lockW {t : TT} {j i0 : Nat} {vs : List Nat} (W : LW H lw E) (few : E.length ≤ 1000) (hi : σ[i0]? = some (some (.ref lw))) (p : Ent → Bool) (g : Ent → PyData) (hw : ∀ x, wipe ((wipe σ vs).set j (some x)) vs = wipe σ vs)
    (ht : ∀ e ∈ E, ∀ G, LWr G lw E → EvT t ((wipe σ vs).set j (some (.int e.1))) G (p e)) (he : ∀ e ∈ E, p e = true → ∀ G, LWr G lw E → EvM te ((wipe σ vs).set j (some (.int e.1))) G (g e)) :
    EvX (tLockE (tLc (iKeys (tVar i0)) (gName j) t te vs)) σ H (.list ((E.filter p).map g)) := fun H1 e1 Q q => by
  have W1 := W.ex e1
  refine ⟨lw, .dK (topK E), W1.top, True.intro, fun od => ?_⟩
  have gk : upd H1 lw (.frz od (.dK (topK E))) lw = some (.frz od (.dK (topK E))) := upd_same
  have st : ∀ {b : Addr} {o : HO}, b ≠ lw → H1 b = some o → upd H1 lw (.frz od (.dK (topK E))) b = some o := fun n h => (upd_ne n).trans h
  have Nf : LWr (upd H1 lw (.frz od (.dK (topK E)))) lw E := by
    refine ⟨.inr ⟨od, gk⟩, fun x m => ?_⟩
    obtain ⟨vc, h1, h2⟩ := W1.recs x m
    have ne : x.2.1 ≠ lw := fun z => (List.nodup_cons.mp W1.nd).1 (by rw [← z]; exact List.mem_map_of_mem (f := fun e : Ent => e.2.1) m)
    refine ⟨vc, st ne h1, ?_⟩
    revert h2
    cases x.2.2.who with
    | none => exact id
    | some k =>
      rintro ⟨a, rfl, ha⟩
      exact ⟨a, rfl, st (fun z => by rw [z, W1.top] at ha; cases ha) ha⟩
  generalize upd H1 lw (.frz od (.dK (topK E))) = Hf at gk st Nf ⊢
  refine ⟨_, hi, lw, od, rfl, .inl ⟨topK E, gk, fun Dl hD => lc_it (walk_keys (d := lw) (o := od) (kvs := topK E)) (MadeX Hf E p g Dl) ⟨hD, Ex.new hD, [], upd_same, .nil⟩ (fun i G _ m => m.2.1 _ _ gk) ?_ fun G m => ?_⟩⟩
  · rintro i x G _ hi m ⟨rfl, k, v, ek, rfl⟩
    unfold topK at ek
    rw [List.getElem?_map] at ek
    obtain ⟨e, ee, e2⟩ := Option.map_eq_some_iff.mp ek
    obtain ⟨rfl, rfl⟩ := Prod.mk.inj e2
    have mn := List.mem_of_getElem? ee
    exact ⟨hw _, madeX_turn m (by omega) ee (ht _ mn Hf Nf) (fun hp => he _ mn hp Hf Nf)⟩
  · have eG := m.2.1
    have len : (topK E).length = E.length := List.length_map _
    rw [len] at m
    have g2 := madeX_end m
    have gl := eG _ _ gk
    refine ⟨gl, q _ _ (fun b o h => ?_) (dx_upd (fun xs z => by rw [gl] at z; cases z) (fun xs z => by rw [gl] at z; cases z) g2)⟩
    by_cases z : b = lw
    · rw [z, upd_same, ← W1.top, ← z, h]
    · rw [upd_ne z]
      exact eG _ _ (st z h)
end
/-- the law's answers -/
def RetLW (H : Hp) (lw : Addr) (E E' : List Ent) (d : PyData) (Q : VK) : Prop := ∀ v H', Fr (footL lw E) H H' → (∀ b ∈ footL lw E', b ∈ footL lw E ∨ H b = none) → LW H' lw E' → Tp H' v d → Q v H'
section
variable {K : PySem.W.Frag} {σ : L2.St} {H H' : Hp} {lw r : Addr} {E E' : List Ent} {n : Int} {p p' : Pr} {ta td te : TE} {v : V} {D : Ends} {tz : TS} {d : PyData} {Q : VK}
theorem RetLW.of (q : RetLW H lw E E d Q) (W : LW H lw E) {G : Hp} (e : Ex H G) (g : Tp G v d) : Q v G := q v G (Fr.same e) (fun b m => .inl m) (W.ex e) g
theorem RetLW.pre (q : RetLW H lw E E' d Q) (e : Ex H H') : RetLW H' lw E E' d Q := fun v G f s w g => q v G ((Fr.same e).trans f) (fun b m => (s b m).imp id (fresh_back e)) w g
theorem set_foot (lw : Addr) (E : List Ent) (n : Int) (p : Pr) : footL lw (setE E n p) = footL lw E := by unfold footL; rw [set_adr]
/-- a field of a record is written -/
theorem s_lset {f : Str} (w : LW H lw E) (l : E.lookup n = some (r, p)) (hv : Ev te σ H v) (hd : Ev td σ H (.ref r)) (hput : ∀ vc, putK (recKV p vc) (Sum.inr f) v = recKV p' vc) (hwho : p'.who = p.who)
    (k : ∀ H1, Fr (footL lw E) H H1 → LW H1 lw (setE E n p') → D.nx σ H1) : sDPut td (tC (.str f)) te D σ H := by
  obtain ⟨vc, h1, h2⟩ := w.rec1 l
  refine s_dput (kvs := recKV p vc) (ky := Sum.inr f) (by show 7 < 100000; omega) hv hd ev_c h1 fun H1 e1 => ?_
  rw [hput]
  obtain ⟨w2, f2⟩ := (w.ex e1).set (p' := p') (vc := vc) l (by rw [hwho]; exact h2.fr (F := []) (Fr.same e1))
  exact k _ ((Fr.same e1).trans (f2.more fun x m => by rw [List.mem_singleton.mp m]; exact LW.foot l)) w2
theorem q_lset {f : Str} (w : LW H lw E) (l : E.lookup n = some (r, p)) (hv : Ev te σ H v) (hd : Ev td σ H (.ref r)) (hput : ∀ vc, putK (recKV p vc) (Sum.inr f) v = recKV p' vc) (hwho : p'.who = p.who)
    (k : ∀ H1, Fr (footL lw E) H H1 → LW H1 lw (setE E n p') → tz D σ H1) : tSeq (sDPut td (tC (.str f)) te) tz D σ H := s_lset (D := { D with nx := tz D }) w l hv hd hput hwho k
end
section
variable {σ : L2.St} {H : Hp} {ta tb te : TE} {tx : TA} {Q : VK} {QA : List V → Hp → Prop} {D : Ends} {v : V} {i : Nat} {r : R2} {sp : Sp} {E : XK}
theorem st_ret (h : te σ H D.rt) : tRet te D σ H := h
theorem st_op (h : ta σ H fun x H1 => tb σ H1 fun y H2 => r x y H2 Q) : tOp r ta tb σ H Q := h
theorem st_cons (h : ta σ H fun x H1 => tx σ H1 fun xs H2 => QA (x :: xs) H2) : tCons ta tx σ H QA := h
theorem st_nil (h : QA [] H) : tNil σ H QA := h
theorem st_var (h : σ[i]? = some (some v)) (q : Q v H) : tVar i σ H Q := ⟨v, h, q⟩
theorem st_c (q : Q v H) : tC v σ H Q := q
theorem st_call (h : tx σ H fun vs H1 => sp (vs ++ []) H1 Q E) : tCall sp [] E tx σ H Q := h
theorem st_lst (h : tx σ H fun xs H1 => xs.length ≤ sizeLine ∧ ∀ p, H1 p = none → Q (.ref p) (upd H1 p (.lst xs))) : tLst tx σ H Q := h
theorem st_tup (h : tx σ H fun xs H1 => xs.length ≤ sizeLine ∧ ∀ p, H1 p = none → Q (.ref p) (upd H1 p (.tup xs))) : tTup tx σ H Q := h
theorem st_ev (h : Ev te σ H v) (k : ∀ H1, Ex H H1 → Q v H1) : te σ H Q := h H (Ex.refl H) _ k
theorem st_evL {xs : List V} (h : EvL te σ H xs) (k : ∀ p H1, H p = none → Ex H H1 → H1 p = some (.lst xs) → Q (.ref p) H1) : te σ H Q := h H (Ex.refl H) _ k
end
section
variable {σ : L2.St} {H : Hp} {ta tb te : TE} {tx : TA} {Q : VK} {QB : Bool → Hp → Prop} {D : Ends} {v : V} {i j : Nat} {r : R2} {sp : Sp} {E : XK} {t u : TT} {tz : TS}
theorem st_if (h : t σ H fun c H1 => if c = true then ta σ H1 Q else tb σ H1 Q) : tIf t ta tb σ H Q := h
theorem st_tt (h : te σ H fun x H1 => ∃ c, x = .bl c ∧ QB c H1) : tTest te σ H QB := h
theorem st_and (h : t σ H fun c H1 => if c = true then u σ H1 QB else QB false H1) : tAnd t u σ H QB := h
theorem st_par (h : tx σ H fun vs H1 => ∃ v w, vs = [v, w] ∧ tz D ((σ.set i (some v)).set j (some w)) H1) : tSeq (tPar i j tx) tz D σ H := h
theorem el_catS {xs ys : List V} {b : Addr} (ha : EvL ta σ H xs) (hb : Ev tb σ H (.ref b)) (gb : H b = some (.lst ys)) (hz : xs.length + ys.length ≤ 100000) : EvL (tOp rCat ta tb) σ H (xs ++ ys) := fun H1 e Q q =>
  ha H1 e _ fun p H2 np e2 gp => hb H2 (e.trans e2) _ fun H3 e3 => ⟨p, b, xs, ys, rfl, rfl, e3 _ _ gp, ((e.trans e2).trans e3) _ _ gb, sz_of hz, fun l nl => q l _ (fresh_back (e2.trans e3) nl) ((e2.trans e3).trans (Ex.new nl)) upd_same⟩
end
section
variable {K : PySem.W.Frag} {σ : L2.St} {H H' : Hp} {ta tb te tl : TE} {t : TT} {QB : Bool → Hp → Prop} {tu tw : TS} {D : Ends}
theorem st_ifS (h : t σ H fun b H1 => if b = true then tu D σ H1 else tw D σ H1) : tIfS t tu tw D σ H := h
theorem st_not (h : t σ H fun c H1 => QB (!c) H1) : tNot t σ H QB := h
theorem st_B (h : te σ H fun x H1 => ∃ c, x = .bl c ∧ QB c H1) : tB te σ H QB := h
/-- a new list of new data, the list being new -/
theorem en_lcN {α : Type} {xs : List α} {j : Nat} {vs : List Nat} (emb : α → V) (p : α → Bool) (g : α → PyData) (h : EvL tl σ H (xs.map emb)) (hz : xs.length ≤ 40000) (hw : ∀ x, wipe ((wipe σ vs).set j (some x)) vs = wipe σ vs)
    (ht : ∀ b ∈ xs, ∀ H1, Ex H H1 → EvT t ((wipe σ vs).set j (some (emb b))) H1 (p b)) (he : ∀ b ∈ xs, p b = true → ∀ H1, Ex H H1 → EvM te ((wipe σ vs).set j (some (emb b))) H1 (g b)) :
    EvN (tLc (iList K tl) (gName j) t te vs) σ H (.list ((xs.filter p).map g)) := fun H0 e0 Q q => by
  have len : (xs.map emb).length = xs.length := List.length_map _
  refine h H0 e0 _ fun a H1 na e1 ga => ⟨a, rfl, ⟨_, sq_of ga⟩, fun Dl hD => lc_it (walk_list (K := K) (a := a) (xs := xs.map emb)) (MadeX H1 xs p g Dl) ⟨hD, Ex.new hD, [], upd_same, .nil⟩ (fun i G _ m => sq_of (m.2.1 _ _ ga)) ?_ fun G m => ?_⟩
  · rintro i x G _ hi m ⟨rfl, ex⟩
    rw [List.getElem?_map] at ex
    obtain ⟨b, eb, rfl⟩ := Option.map_eq_some_iff.mp ex
    have mb := List.mem_of_getElem? eb
    exact ⟨hw _, madeX_turn m hz eb (ht b mb H1 (e0.trans e1)) (fun hp => he b mb hp H1 (e0.trans e1))⟩
  · rw [len] at m
    exact q _ G (fresh_back e1 hD) (e1.trans m.2.1) (madeX_end m)
end
end K02
set_option Elab.async false
set_option linter.all false
set_option maxRecDepth 100000
set_option maxHeartbeats 4000000
namespace K02
open PySem PySem.Spec PyProof.Rows L2 Evl KB
/-! ### _law_alive, _law_kids, _law_runs, _law_above -/
abbrev sLAlive : Stmt := topS 96
abbrev nLAlive : List Str := ["_law_world", "_law_n"]
theorem scLAlive : FnScope nLAlive ["_law_world"] (defScope sLAlive) := ⟨rfl, rfl, rfl, by decide +kernel, rfl, by decide +kernel, by decide +kernel⟩
abbrev sLKids : Stmt := topS 97
abbrev nLKids : List Str := ["_law_world", "_law_n", "_law_k"]
theorem scLKids : FnScope nLKids ["_law_world", "_law_n"] (defScope sLKids) := ⟨rfl, rfl, rfl, by decide +kernel, rfl, by decide +kernel, by decide +kernel⟩
abbrev sLRuns : Stmt := topS 98
abbrev nLRuns : List Str := ["_law_world", "_law_n"]
theorem scLRuns : FnScope nLRuns ["_law_world", "_law_n"] (defScope sLRuns) := ⟨rfl, rfl, rfl, by decide +kernel, rfl, by decide +kernel, by decide +kernel⟩
abbrev sLAbove : Stmt := topS 99
abbrev nLAbove : List Str := ["_law_world", "_law_n", "_law_up"]
theorem scLAbove : FnScope nLAbove ["_law_world", "_law_n"] (defScope sLAbove) := ⟨rfl, rfl, rfl, by decide +kernel, rfl, by decide +kernel, by decide +kernel⟩
def spLAlive : Sp := fun vs H Q _ => ∃ lw E, vs = [.ref lw] ∧ LW H lw E ∧ E.length < 64 ∧ RetL ((famE E).alive.map V.int) H Q
def spLKids : Sp := fun vs H Q _ => ∃ lw E n, vs = [.ref lw, .int n] ∧ LW H lw E ∧ E.length < 64 ∧ RetL (((famE E).kids n).map V.int) H Q
def spLRuns : Sp := fun vs H Q _ => ∃ lw E n, vs = [.ref lw, .int n] ∧ LW H lw E ∧ RetV (.bl ((famE E).runs n)) H Q
def spLAbove : Sp := fun vs H Q _ => ∃ lw E n r p, vs = [.ref lw, .int n] ∧ LW H lw E ∧ E.lookup n = some (r, p) ∧ n ≠ 1 ∧ Ord (famE E) ∧ RetV (.int (heir (famE E) n)) H Q
section
variable {P : Program} {w : World} {K : PySem.W.Frag} {mg : Str → Option Value} {base : Heap} {f : Addr} {fd : FuncData}
theorem ok_LAlive (F : Fun K "_law_alive" "_law_alive" sLAlive f fd) (m_sorted : mg "sorted" = none) : FnOk P w K mg base CX0 1 f fd ["_law_world"] spLAlive := by
  refine F.ok scLAlive (fun vs H Q E h => ?_) (fun cdv A outer s H vs Q E hr h => ?_)
  · obtain ⟨lw, E, rfl, _⟩ := h
    rfl
  · obtain ⟨lw, E, rfl, W, few, q⟩ := h
    have nd := scLAlive.nd
    have hu := hu_of hr
    refine ⟨_, (pss_one (ps_ret (pe_lc (own := [("_law_n", 1)]) (g := gName 1) (tt := _) (te := tVar 1) rfl nd (pi_list (pe_callB (cr_srtD rfl) (by rfl) m_sorted (by decide +kernel) (pa_cons (pv 0) pa_nil))) (blkOk_by (N := nLAlive) (sc := defScope sLAlive) (by decide +kernel)) (fun _ _ _ _ _ => (pg_name (i := 1) nd rfl (by first | exact .inl rfl | exact .inr rfl))) (fun _ _ _ _ _ => (pts_one (pt_cmp (pc_isN (pe_dget hu (pe_dget hu (pv 0) (pv 1) (fun _ _ => rfl)) pe_str (fun _ _ => rfl)))))) (fun _ _ _ _ _ => (pv 1))))), ?_⟩
    exact s_retL (el_lcGN (K := K) (te := tVar 1) (σ := start nLAlive [.ref lw]) (H := H) (j := 1) (vs := [1]) V.int (fun k => aliveB (famE E) k) V.int (el_lsorted W.rd W.keys (ev_var (i := 0) rfl) few) (sorted_len E few) (fun x => rfl) (fun k mk G e => by
        obtain ⟨r, p, l, m⟩ := look_some (mem_sorted.mp mk)
        have W1 := (W.ex e).rd
        have lf := lf_at (σ := wipe (start nLAlive [.ref lw]) [1] |>.set 1 (some (.int k))) W1 (ev_var (i := 0) rfl) (ev_var (i := 1) rfl) l
        unfold aliveB
        rw [fam_in l]
        exact et_is (et_B (ev_isN lf.code)) (opt_non _)) (fun k _ _ G e => ev_var rfl)) q
theorem ok_LKids (F : Fun K "_law_kids" "_law_kids" sLKids f fd) (m_sorted : mg "sorted" = none) : FnOk P w K mg base CX0 1 f fd ["_law_world", "_law_n"] spLKids := by
  refine F.ok scLKids (fun vs H Q E h => ?_) (fun cdv A outer s H vs Q E hr h => ?_)
  · obtain ⟨lw, E, n, rfl, _⟩ := h
    rfl
  · obtain ⟨lw, E, n, rfl, W, few, q⟩ := h
    have nd := scLKids.nd
    have hu := hu_of hr
    refine ⟨_, (pss_one (ps_ret (pe_lc (own := [("_law_k", 2)]) (g := gName 2) (tt := _) (te := tVar 2) rfl nd (pi_list (pe_callB (cr_srtD rfl) (by rfl) m_sorted (by decide +kernel) (pa_cons (pv 0) pa_nil))) (blkOk_by (N := nLKids) (sc := defScope sLKids) (by decide +kernel)) (fun _ _ _ _ _ => (pg_name (i := 2) nd rfl (by first | exact .inl rfl | exact .inr rfl))) (fun _ _ _ _ _ => (pts_one (pt_cmpR op_eq (pe_dget hu (pe_dget hu (pv 0) (pv 2) (fun _ _ => rfl)) pe_str (fun _ _ => rfl)) (pv 1) (nomark _)))) (fun _ _ _ _ _ => (pv 2))))), ?_⟩
    exact s_retL (el_lcGN (K := K) (te := tVar 2) (σ := start nLKids [.ref lw, .int n]) (H := H) (j := 2) (vs := [2]) V.int (fun k => decide (((famE E).at k).bind (·.par) = some n)) V.int (el_lsorted W.rd W.keys (ev_var (i := 0) rfl) few) (sorted_len E few) (fun x => rfl) (fun k mk G e => by
        obtain ⟨r, p, l, m⟩ := look_some (mem_sorted.mp mk)
        have W1 := (W.ex e).rd
        have lf := lf_at (σ := wipe (start nLKids [.ref lw, .int n]) [2] |>.set 2 (some (.int k))) W1 (ev_var (i := 0) rfl) (ev_var (i := 2) rfl) l
        rw [fam_in l]
        exact et_is (et_test (ev_op lf.par (ev_var rfl) (rv_eq (opt_eq _ _).1))) (opt_eq _ _).2) (fun k _ _ G e => ev_var rfl)) q
theorem ok_LRuns (F : Fun K "_law_runs" "_law_runs" sLRuns f fd) : FnOk P w K mg base CX0 1 f fd ["_law_world", "_law_n"] spLRuns := by
  refine F.ok scLRuns (fun vs H Q E h => ?_) (fun cdv A outer s H vs Q E hr h => ?_)
  · obtain ⟨lw, E, n, rfl, _⟩ := h
    rfl
  · obtain ⟨lw, E, n, rfl, W, q⟩ := h
    have nd := scLRuns.nd
    have hu := hu_of hr
    refine ⟨_, (pss_one (ps_ret (pe_and (pe_cmp (pc_din hu (pv 1) (pv 0)) rfl) (pe_and (pe_cmp (pc_isN (pe_dget hu (pe_dget hu (pv 0) (pv 1) (fun _ _ => rfl)) pe_str (fun _ _ => rfl))) rfl) (pe_and (pe_not (pe_dget hu (pe_dget hu (pv 0) (pv 1) (fun _ _ => rfl)) pe_str (fun _ _ => rfl))) (pe_one (pe_cmp (pc_isN (pe_dget hu (pe_dget hu (pv 0) (pv 1) (fun _ _ => rfl)) pe_str (fun _ _ => rfl))) rfl))))))), ?_⟩
    by_cases z : n ∈ E.map (·.1)
    · obtain ⟨r, p, l, m⟩ := look_some z
      have lf := lf_at (σ := start nLRuns [.ref lw, .int n]) W.rd (ev_var (i := 0) rfl) (ev_var (i := 1) rfl) l
      obtain ⟨vc, ev, cv⟩ := lf.call
      refine s_ret (ev_is (ev_andV (ev_lin W.rd (ev_var rfl) (ev_var rfl)) fun _ => ev_andV (ev_isN lf.code) fun _ => ev_andV (ev_notV lf.stp) fun _ => ev_isN ev) ?_) q
      unfold Fam.runs
      rw [fam_in l, opt_non, call_non cv, decide_eq_true z]
      show V.bl (true && (p.code.isNone && (!p.stp && p.who.isNone))) = V.bl (p.code.isNone && !p.stp && p.who.isNone)
      cases p.code.isNone <;> cases p.who.isNone <;> cases p.stp <;> rfl
    · refine s_ret (ev_is (ev_andV (b := false) (ev_lin W.rd (ev_var rfl) (ev_var rfl)) fun h => absurd (of_decide_eq_true h) z) ?_) q
      unfold Fam.runs
      rw [fam_no z, decide_eq_false z]
      rfl
theorem ok_LAbove (F : Fun K "_law_above" "_law_above" sLAbove f fd) : FnOk P w K mg base CX0 1 f fd ["_law_world", "_law_n"] spLAbove := by
  refine F.ok scLAbove (fun vs H Q E h => ?_) (fun cdv A outer s H vs Q E hr h => ?_)
  · obtain ⟨lw, E, n, r, p, rfl, _⟩ := h
    rfl
  · obtain ⟨lw, E, n, r, p, rfl, W, l, hn, O, q⟩ := h
    have nd := scLAbove.nd
    have hu := hu_of hr
    refine ⟨_, (pss_cons (ps_set (i := 2) nd rfl (by first | exact .inl rfl | exact .inr rfl) (pe_dget hu (pe_dget hu (pv 0) (pv 1) (fun _ _ => rfl)) pe_str (fun _ _ => rfl)))
      (pss_cons (ps_while PassesOwn.never (PW.pt (pw_or (pt_not (pt_val (pe_dget hu (pe_dget hu (pv 0) (pv 2) (fun _ _ => rfl)) pe_str (fun _ _ => rfl)))) (pw_or1 (pt_cmp (pc_notN (pe_dget hu (pe_dget hu (pv 0) (pv 2) (fun _ _ => rfl)) pe_str (fun _ _ => rfl))))))) (pss_one (ps_set (i := 2) nd rfl (by first | exact .inl rfl | exact .inr rfl) (pe_dget hu (pe_dget hu (pv 0) (pv 2) (fun _ _ => rfl)) pe_str (fun _ _ => rfl)))))
      (pss_one (ps_ret (pv 2))))), ?_⟩
    obtain ⟨i0, j0, m0, q0, hi0, hj0, hm0, hp0, ha0, _⟩ := parent_of O (fam_in l) hn
    obtain ⟨pa0, l0⟩ := at_look ha0
    have lf := lf_at (σ := start nLAbove [.ref lw, .int n]) W.rd (ev_var (i := 0) rfl) (ev_var (i := 1) rfl) l
    have ep : Ev (tDGet (tDGet (tVar 0) (tVar 1)) (tC (.str "parent"))) (start nLAbove [.ref lw, .int n]) H (.int m0) := by
      have h := lf.par
      rw [hp0] at h
      exact h
    have hh : heir (famE E) n = adopF (famE E) 64 m0 := by
      unfold heir
      rw [fam_in l]
      show adopF _ 64 ((p.par).getD 1) = _
      rw [hp0]
      rfl
    refine q_asg ep fun H1 e1 => ?_
    refine q_while (fun m σ G => ∃ (cur : Int) (ca : Addr) (cq : Pr), σ = [some (.ref lw), some (.int n), some (.int cur)] ∧ Ex H G ∧ E.lookup cur = some (ca, cq) ∧ (famE E)[m]? = some (cur, cq) ∧ adopF (famE E) 64 cur = heir (famE E) n) j0 ⟨m0, pa0, q0, rfl, e1, l0, hm0, hh.symm⟩ ?_
    rintro m σ G ⟨cur, ca, cq, rfl, eG, lc, hm, hc⟩
    have WG := W.ex eG
    have lfc := lf_at (σ := [some (.ref lw), some (.int n), some (.int cur)]) WG.rd (ev_var (i := 0) rfl) (ev_var (i := 2) rfl) lc
    have bb : (!cq.ado || !decide (optV cq.code = .non)) = !cq.ado := by
      rw [opt_non]
      cases z : cq.code with
      | none => cases cq.ado <;> rfl
      | some c =>
        have : cq.ado = false := O.dead _ (List.mem_of_getElem? hm) (by show cq.code.isSome = true; rw [z]; rfl)
        rw [this]
        rfl
    refine ⟨!cq.ado, et_is (et_or (et_not (et_B lfc.ado)) fun _ => et_B (ev_notN lfc.code)) bb, fun hb G1 eg1 => ?_, fun hb G1 eg1 => ?_⟩
    · have ha : cq.ado = false := by simpa using hb
      have hcur : cur ≠ 1 := fun z => by
        obtain ⟨p1, rest, es, _, h2, _⟩ := O.first
        have h1 : (famE E).at 1 = some p1 := at_idx O.nd (i := 0) (by rw [es]; rfl)
        rw [← z, fam_in lc] at h1
        rw [Option.some.inj h1, h2] at ha
        cases ha
      obtain ⟨i1, j1, m1, q1, hi1, hj1, hm1, hp1, ha1, _⟩ := parent_of O (fam_in lc) hcur
      obtain ⟨pa1, l1⟩ := at_look ha1
      have im : i1 = m := idx_uniq O.nd hi1 hm
      refine ⟨fun σ2 H2 => ∃ m', m' < m ∧ ∃ (cur : Int) (ca : Addr) (cq : Pr), σ2 = [some (.ref lw), some (.int n), some (.int cur)] ∧ Ex H H2 ∧ E.lookup cur = some (ca, cq) ∧ (famE E)[m']? = some (cur, cq) ∧ adopF (famE E) 64 cur = heir (famE E) n, fun σ2 H2 h => h, ?_⟩
      have W1 := WG.ex eg1
      have lf1 := lf_at (σ := [some (.ref lw), some (.int n), some (.int cur)]) W1.rd (ev_var (i := 0) rfl) (ev_var (i := 2) rfl) lc
      have ep1 : Ev (tDGet (tDGet (tVar 0) (tVar 2)) (tC (.str "parent"))) [some (.ref lw), some (.int n), some (.int cur)] G1 (.int m1) := by
        have h := lf1.par
        rw [hp1] at h
        exact h
      refine s_asg ep1 fun G2 eg2 => ⟨j1, by omega, m1, pa1, q1, rfl, eG.trans (eg1.trans eg2), l1, hm1, ?_⟩
      rw [← adop_no O (fam_in lc) ha hp1 ha1]
      exact hc
    · have ha : cq.ado = true := by simpa using hb
      refine s_ret (ev_is (ev_var rfl) ?_) fun H2 e2 => q H2 (eG.trans (eg1.trans e2))
      rw [← hc, adop_yes (fam_in lc) ha]
end
end K02
set_option Elab.async false
set_option linter.all false
set_option maxRecDepth 100000
set_option maxHeartbeats 4000000
namespace K02
open PySem PySem.Spec PyProof.Rows L2 Evl KB
/-! ### _law_proc, _law_waited, _law_about -/
abbrev sLProc : Stmt := topS 95
abbrev nLProc : List Str := ["_law_parent", "_law_session", "_law_group", "_law_found"]
theorem scLProc : FnScope nLProc ["_law_parent", "_law_session", "_law_group"] (defScope sLProc) := ⟨rfl, rfl, rfl, by decide +kernel, rfl, by decide +kernel, by decide +kernel⟩
abbrev sLWaited : Stmt := topS 103
abbrev nLWaited : List Str := ["_law_world", "_law_n", "_law_who", "_law_k", "_law_kids_here", "_law_gone"]
theorem scLWaited : FnScope nLWaited ["_law_world", "_law_n", "_law_who"] (defScope sLWaited) := ⟨rfl, rfl, rfl, by decide +kernel, rfl, by decide +kernel, by decide +kernel⟩
abbrev sLAbout : Stmt := topS 104
abbrev nLAbout : List Str := ["_law_world", "_law_who", "_law_proc_here", "_law_word", "_law_place"]
theorem scLAbout : FnScope nLAbout ["_law_world", "_law_who"] (defScope sLAbout) := ⟨rfl, rfl, rfl, by decide +kernel, rfl, by decide +kernel, by decide +kernel⟩
def freshPr (q : Option Int) (s g : Int) : Pr := ⟨q, s, g, q.isNone, false, none, none⟩
def kidsW (S : Fam) (n who : Int) : List Int := (S.kids n).filter fun k => decide (who ∈ [0, k])
theorem kidsW_ended (S : Fam) (n who : Int) : (kidsW S n who).filter (fun k => !aliveB S k) = endedK S n who := by
  unfold kidsW endedK
  rw [List.filter_filter]
def spLProc : Sp := fun vs H Q _ => ∃ (q : Option Int) (s g : Int), vs = [optV q, .int s, .int g] ∧ ∀ r H', H r = none → Ex H H' → H' r = some (.dK (recKV (freshPr q s g) .non)) → Q (.ref r) H'
def spLWaited : Sp := fun vs H Q _ => ∃ lw E n who, vs = [.ref lw, .int n, .int who] ∧ LW H lw E ∧ E.length < 64 ∧ (kidsW (famE E) n who = [] → RetT (refD "no child") H Q) ∧
  (kidsW (famE E) n who ≠ [] → endedK (famE E) n who = [] → RetV .non H Q) ∧ (endedK (famE E) n who ≠ [] → RetLW H lw E (waitE E n who).1 (waitE E n who).2 Q)
def spLAbout : Sp := fun vs H Q _ => ∃ lw E who, vs = [.ref lw, .int who] ∧ LW H lw E ∧ RetT (aboutD (famE E) who) H Q
section
variable {P : Program} {w : World} {K : PySem.W.Frag} {mg : Str → Option Value} {base : Heap} {f : Addr} {fd : FuncData}
theorem ok_LProc (F : Fun K "_law_proc" "_law_proc" sLProc f fd) : FnOk P w K mg base CX0 1 f fd ["_law_parent", "_law_session", "_law_group"] spLProc := by
  refine F.ok scLProc (fun vs H Q E h => ?_) (fun cdv A outer s H vs Q E hr h => ?_)
  · obtain ⟨q, a, b, rfl, _⟩ := h
    rfl
  · obtain ⟨o, a, b, rfl, q⟩ := h
    refine ⟨_, pss_cons (ps_set (i := 3) scLProc.nd rfl (.inl rfl) (pe_disp (pps_cons pe_str (pv 0) (pps_cons pe_str (pv 1) (pps_cons pe_str (pv 2) (pps_cons pe_str (pe_cmp (pc_isN (pv 0)) rfl) (pps_cons pe_str pe_non pps_nil))))) rfl rfl (by simp) (by decide)))
      (pss_cons (ps_expr (pe_bm PySem.F.plainAttrs_dict PySem.F.slot_dict_update PySem.F.type_dict_update mt_update (pv 3) (pa_cons (pe_disp (pps_cons pe_str pe_bl (pps_cons pe_str pe_non pps_nil)) rfl rfl (by simp) (by decide)) pa_nil)))
      (pss_one (ps_ret (pv 3)))), ?_⟩
    intro p np
    let k0 : List (Key × V) := [(Sum.inr "parent", optV o), (Sum.inr "session", .int a), (Sum.inr "group", .int b), (Sum.inr "adopts", .bl (decide (optV o = .non))), (Sum.inr "code", .non)]
    refine ⟨_, rfl, _, rfl, _, rfl, _, rfl, upd_same, k0, rfl, by show 5 ≤ 15; decide, ?_⟩
    have m0 : mergeK [] k0 = k0 := rfl
    rw [m0]
    have g0 : upd (upd H p (.dK [])) p (.dK k0) p = _ := upd_same
    have s0 : Same H (upd (upd H p (.dK [])) p (.dK k0)) := same_mut (same_new np) np
    generalize upd (upd H p (.dK [])) p (.dK k0) = H0 at g0 s0 ⊢
    refine ⟨_, rfl, .inr (.inr (.inl ⟨rfl, .inl ⟨_, g0⟩⟩)), ?_⟩
    intro p1 n1
    let k1 : List (Key × V) := [(Sum.inr "stopped", .bl false), (Sum.inr "call", .non)]
    refine ⟨upd_same, k1, rfl, by show 2 ≤ 15; decide, ?_⟩
    have m1 : mergeK [] k1 = k1 := rfl
    rw [m1]
    have f1 : upd (upd H0 p1 (.dK [])) p1 (.dK k1) p1 = _ := upd_same
    have t1 : Same H0 (upd (upd H0 p1 (.dK [])) p1 (.dK k1)) := same_mut (same_new n1) n1
    generalize upd (upd H0 p1 (.dK [])) p1 (.dK k1) = G1 at f1 t1 ⊢
    have e1 : p ≠ p1 := fun z => by
      rw [← z, g0] at n1
      cases n1
    refine ⟨p, p1, _, _, rfl, rfl, e1, t1 _ _ g0, f1, by show 5 + 2 ≤ sizeLine; decide, by show ([Sum.inr "parent", Sum.inr "session", Sum.inr "group", Sum.inr "adopts", Sum.inr "code", Sum.inr "stopped", Sum.inr "call"] : List Key).Nodup; decide +kernel, ?_⟩
    refine ⟨_, rfl, q p _ np (same_mut (s0.trans t1) np) ?_⟩
    rw [upd_same]
    show some (HO.dK (k0 ++ k1)) = some (HO.dK (recKV (freshPr o a b) .non))
    have ea : decide (optV o = .non) = o.isNone := opt_non o
    show some (HO.dK [(Sum.inr "parent", optV o), (Sum.inr "session", .int a), (Sum.inr "group", .int b), (Sum.inr "adopts", .bl (decide (optV o = .non))), (Sum.inr "code", .non), (Sum.inr "stopped", .bl false), (Sum.inr "call", .non)]) = _
    rw [ea]
    rfl
theorem ok_LWaited (F : Fun K "_law_waited" "_law_waited" sLWaited f fd) (G__law_kids : Kf P w K mg base 1 "_law_kids" ["_law_world", "_law_n"] spLKids) : FnOk P w K mg base CX0 2 f fd ["_law_world", "_law_n", "_law_who"] spLWaited := by
  refine F.ok scLWaited (fun vs H Q E h => ?_) (fun cdv A outer s H vs Q E hr h => ?_)
  · obtain ⟨lw, E, n, who, rfl, _⟩ := h
    rfl
  · obtain ⟨lw, E, n, who, rfl, W, few, q1, q2, q3⟩ := h
    have nd := scLWaited.nd
    have hu := hu_of hr
    refine ⟨_, (pss_cons (ps_setLc (i := 4) (own := [("_law_k", 3)]) (g := gName 3) (tt := tTest (tOp (rIn K false) (tVar 2) (tTup (tCons (tC (.int 0)) (tCons (tVar 3) tNil))))) (te := tVar 3) rfl nd rfl rfl (sw_true rfl rfl rfl (by decide +kernel)) (pi_list (pe_fn G__law_kids (hr.mono (by decide)) (pa_cons (pv 0) (pa_cons (pv 1) pa_nil)))) (blkOk_by (N := nLWaited) (sc := defScope sLWaited) (by decide +kernel)) (fun _ _ _ _ _ => (pg_name (i := 3) nd rfl (by first | exact .inl rfl | exact .inr rfl))) (fun _ _ _ _ _ => (pts_one (pt_cmpR op_in_seq (pv 2) (pe_tup (pa_cons pe_int (pa_cons (pv 3) pa_nil))) (by rfl)))) (fun _ _ _ _ _ => (pv 3)))
      (pss_cons (ps_if (pt_cmpR (op_eqD hr.units) (pv 4) (pe_lst pa_nil) (nomark _)) (pss_one (ps_ret (pe_tup (pa_cons pe_str (pa_cons pe_str pa_nil))))) pss_nil)
      (pss_cons (ps_setLc (i := 5) (own := [("_law_k", 3)]) (g := gName 3) (tt := _) (te := tVar 3) rfl nd rfl rfl (sw_true rfl rfl rfl (by decide +kernel)) (pi_list (pv 4)) (blkOk_by (N := nLWaited) (sc := defScope sLWaited) (by decide +kernel)) (fun _ _ _ _ _ => (pg_name (i := 3) nd rfl (by first | exact .inl rfl | exact .inr rfl))) (fun _ _ _ _ _ => (pts_one (pt_cmp (pc_notN (pe_dget hu (pe_dget hu (pv 0) (pv 3) (fun _ _ => rfl)) pe_str (fun _ _ => rfl)))))) (fun _ _ _ _ _ => (pv 3)))
      (pss_one (ps_ret (pe_ifExp (pt_cmpR (op_neD hr.units) (pv 5) (pe_lst pa_nil) (nomark _)) (pe_tup (pa_cons pe_str (pa_cons (pe_tup (pa_cons (pe_ix ix_seq (pv 5) pe_int (fun _ _ => rfl)) (pa_cons (pe_dget hu (pe_dpop1 (pv 0) (pe_ix ix_seq (pv 5) pe_int (fun _ _ => rfl)) ⟨rfl, rfl, rfl, rfl⟩) pe_str (fun _ _ => rfl)) pa_nil))) pa_nil))) pe_non)))))), ?_⟩
    have c1 : SpL spLKids ([.ref lw, .int n] ++ []) H (((famE E).kids n).map V.int) := fun H2 e2 Q q E' => ⟨lw, E, n, rfl, W.ex e2, few, q⟩
    have klen : ((famE E).kids n).length ≤ 40000 := Nat.le_trans (List.length_filter_le _ _) (sorted_len E few)
    refine q_asgL (el_lcGN (K := K) (te := tVar 3) (σ := start nLWaited [.ref lw, .int n, .int who]) (H := H) (j := 3) (vs := [3]) V.int (fun k => decide (who ∈ [0, k])) V.int (el_call (ea_cons (ev_var rfl) (ea_cons (ev_var rfl) ea_nil)) c1) klen (fun x => rfl) (fun k mk G e => et_test (ev_opU (ev_var rfl) (eu_tup (ea_cons ev_c (ea_cons (ev_var rfl) ea_nil)) (by show 2 ≤ 100000; omega)) fun p H1 hp e1 => rv_inTI (xs := [0, k]) (st_of hp))) (fun k _ _ G e => ev_var rfl)) fun p4 H1 n4 e1 g4 => ?_
    show tSeq _ _ _ [some (.ref lw), some (.int n), some (.int who), none, some (.ref p4), none] H1
    have g4 : H1 p4 = some (.lst ((kidsW (famE E) n who).map V.int)) := g4
    refine q_when (et_test (ev_nilI (ev_var rfl) g4)) (fun hb H2 e2 => ?_) (fun hb H2 e2 => ?_)
    · have hk : kidsW (famE E) n who = [] := List.isEmpty_iff.mp hb
      exact s_retG eg_ref fun v H3 e3 g => q1 hk v H3 (e1.trans (e2.trans e3)) g
    have hk : kidsW (famE E) n who ≠ [] := fun z => by rw [z] at hb; cases hb
    have W2 := W.ex (e1.trans e2)
    refine q_asgL (el_lcG (K := K) (te := tVar 3) (σ := [some (.ref lw), some (.int n), some (.int who), none, some (.ref p4), none]) (H := H2) (j := 3) (vs := [3]) V.int (fun k => !aliveB (famE E) k) V.int (ev_var rfl) (sq_of (e2 _ _ g4)) (Nat.le_trans (List.length_filter_le _ _) klen) (fun x => rfl) (fun k mk G e => by
        have mk := (List.mem_filter.mp (List.mem_filter.mp mk).1).1
        obtain ⟨r, p, l, m⟩ := look_some (mem_sorted.mp mk)
        have lf := lf_at (σ := wipe [some (.ref lw), some (.int n), some (.int who), none, some (.ref p4), none] [3] |>.set 3 (some (.int k))) (W2.ex e).rd (ev_var (i := 0) rfl) (ev_var (i := 3) rfl) l
        unfold aliveB
        rw [fam_in l]
        exact et_is (et_B (ev_notN lf.code)) (by rw [opt_non]; rfl)) (fun k _ _ G e => ev_var rfl)) fun p5 H3 n5 e3 g5 => ?_
    rw [kidsW_ended] at g5
    show tRet _ _ [some (.ref lw), some (.int n), some (.int who), none, some (.ref p4), some (.ref p5)] H3
    refine (et_test (ev_neI (ev_var rfl) g5)) H3 (Ex.refl H3) _ fun H4 e4 => ?_
    have e04 := e1.trans (e2.trans (e3.trans e4))
    cases hz : endedK (famE E) n who with
    | nil =>
      rw [hz] at g5
      exact iteF (q2 hk hz H4 e04)
    | cons k rest =>
      rw [hz] at g5
      rw [if_pos (show (!(k :: rest).isEmpty) = true from rfl)]
      have mk : k ∈ endedK (famE E) n who := by rw [hz]; exact List.mem_cons_self
      obtain ⟨r, p, l, m⟩ := look_some (mem_sorted.mp ((List.mem_filter.mp ((List.mem_filter.mp mk).1)).1))
      have W4 := W.ex e04
      have ix : ∀ G, Ex H4 G → Ev (tOp (rIx K) (tVar 5) (tC (.int 0))) [some (.ref lw), some (.int n), some (.int who), none, some (.ref p4), some (.ref p5)] G (.int k) := fun G e => ev_op (ev_var rfl) ev_c (rv_ixq (i := 0) (.inl (e _ _ (e4 _ _ g5))) rfl)
      refine ix H4 (Ex.refl H4) H4 (Ex.refl H4) _ fun H5 e5 => ?_
      refine ⟨_, rfl, lw, rfl, .inl ⟨_, .inl (W4.ex e5).top⟩, ix H5 e5 H5 (Ex.refl H5) _ fun H6 e6 => ?_⟩
      have e06 := e04.trans (e5.trans e6)
      have W6 := W.ex e06
      refine ⟨topK E, Sum.inl k, .ref r, W6.top, rfl, by rw [top_at, l]; rfl, ?_⟩
      obtain ⟨w7, f7⟩ := W6.drop k
      obtain ⟨vc, hr6, hc6⟩ := W6.rec1 l
      have hr7 : upd H6 lw (.dK (dropK (topK E) (Sum.inl k))) r = some (.dK (recKV p vc)) := (upd_ne (W6.ne l).symm).trans hr6
      have F7 : Fr (footL lw E) H (upd H6 lw (.dK (dropK (topK E) (Sum.inl k)))) := (Fr.same e06).trans (f7.more fun x m => by rw [List.mem_singleton.mp m]; exact List.mem_cons_self)
      have w7 : LW (upd H6 lw (.dK (dropK (topK E) (Sum.inl k)))) lw (dropE E k) := w7
      generalize upd H6 lw (.dK (dropK (topK E) (Sum.inl k))) = H7 at w7 hr7 F7 ⊢
      refine ⟨r, optV p.code, rfl, .inl ⟨_, Sum.inr "code", .inl hr7, rfl, rfl⟩, by show 2 ≤ sizeLine; decide, fun t1 nt1 => ⟨by show 2 ≤ sizeLine; decide, fun t2 nt2 => ?_⟩⟩
      have hw : (waitE E n who) = (dropE E k, toldD (.tuple [.int k, optD (codeOf (famE E) k)])) := by unfold waitE; rw [hz]
      have q3 := q3 (by rw [hz]; exact List.cons_ne_nil _ _)
      rw [hw] at q3
      have hcode : codeOf (famE E) k = p.code := by unfold codeOf; rw [fam_in l]; rfl
      rw [hcode] at q3
      have x1 : Ex H7 (upd H7 t1 (.tup [.int k, optV p.code])) := Ex.new nt1
      have x2 := x1.trans (Ex.new (o := .tup [.str "told", .ref t1]) nt2)
      exact q3 _ _ (F7.trans (Fr.same x2)) (fun b mb => by
        rcases List.mem_cons.mp mb with z | mb
        · exact .inl (by rw [z]; exact List.mem_cons_self)
        · obtain ⟨e, me, rfl⟩ := List.mem_map.mp mb
          exact .inl (List.mem_cons_of_mem _ (List.mem_map_of_mem (f := fun e : Ent => e.2.1) (List.mem_filter.mp me).1))) (w7.ex x2) (.t2 upd_same (.str _) (.t2 ((Ex.new nt2) _ _ upd_same) (.int _) (tp_opt _)))
theorem ok_LAbout (F : Fun K "_law_about" "_law_about" sLAbout f fd) : FnOk P w K mg base CX0 1 f fd ["_law_world", "_law_who"] spLAbout := by
  refine F.ok scLAbout (fun vs H Q E h => ?_) (fun cdv A outer s H vs Q E hr h => ?_)
  · obtain ⟨lw, E, who, rfl, _⟩ := h
    rfl
  · obtain ⟨lw, E, who, rfl, W, q⟩ := h
    have nd := scLAbout.nd
    have hu := hu_of hr
    refine ⟨_, (pss_cons (ps_if (pt_cmp (pc_dnotin hu (pv 1) (pv 0))) (pss_one (ps_ret (pe_tup (pa_cons pe_str (pa_cons pe_str pa_nil))))) pss_nil)
      (pss_cons (ps_set (i := 2) nd rfl (by first | exact .inl rfl | exact .inr rfl) (pe_dget hu (pv 0) (pv 1) (fun _ _ => rfl)))
      (pss_cons (ps_set (i := 3) nd rfl (by first | exact .inl rfl | exact .inr rfl) (pe_ifExp (pt_val (pe_dget hu (pv 2) pe_str (fun _ _ => rfl))) pe_str (pe_ifExp (pt_cmp (pc_isN (pe_dget hu (pv 2) pe_str (fun _ _ => rfl)))) pe_str pe_str)))
      (pss_cons (ps_set (i := 4) nd rfl (by first | exact .inl rfl | exact .inr rfl) (pe_ifExp (pt_cmp (pc_isN (pe_dget hu (pv 2) pe_str (fun _ _ => rfl)))) pe_non pe_int))
      (pss_cons (ps_set (i := 3) nd rfl (by first | exact .inl rfl | exact .inr rfl) (pe_ifExp (pt_cmp (pc_isN (pe_dget hu (pv 2) pe_str (fun _ _ => rfl)))) (pv 3) pe_str))
      (pss_one (ps_ret (pe_tup (pa_cons pe_str (pa_cons (pe_tup (pa_cons (pe_dget hu (pv 2) pe_str (fun _ _ => rfl)) (pa_cons (pe_dget hu (pv 2) pe_str (fun _ _ => rfl)) (pa_cons (pv 3) (pa_cons (pv 4) (pa_cons (pe_dget hu (pv 2) pe_str (fun _ _ => rfl)) pa_nil)))))) pa_nil)))))))))), ?_⟩
    refine q_when (et_B (ev_lnin W.rd (ev_var rfl) (ev_var rfl))) (fun hb H1 e1 => ?_) (fun hb H1 e1 => ?_)
    · have z : who ∉ E.map (·.1) := by simpa using hb
      have ea : aboutD (famE E) who = refD "no process" := by unfold aboutD; rw [fam_no z]
      rw [ea] at q
      exact s_retG eg_ref fun v H2 e2 g => q v H2 (e1.trans e2) g
    have z : who ∈ E.map (·.1) := by simpa using hb
    obtain ⟨r, p, l, m⟩ := look_some z
    have ea : aboutD (famE E) who = toldD (aboutP p) := by unfold aboutD; rw [fam_in l]
    rw [ea] at q
    have W1 := W.ex e1
    refine q_asg (ev_lrec W1.rd (ev_var rfl) (ev_var rfl) l) fun H2 e2 => ?_
    have W2 := W1.ex e2
    obtain ⟨vc, hr2, hc2⟩ := W2.rec1 l
    have lf : ∀ (y3 y4 : Option V) G, Ex H2 G → LF (tVar 2) [some (.ref lw), some (.int who), some (.ref r), y3, y4] G p := fun y3 y4 G e => lf_of (ev_var rfl) (e _ _ hr2) (hc2.fr (F := []) (Fr.same e))
    have lc : ∀ (y3 y4 : Option V) G, Ex H2 G → Ev (tDGet (tVar 2) (tC (.str "call"))) [some (.ref lw), some (.int who), some (.ref r), y3, y4] G vc := fun y3 y4 G e => ev_dgetS (ev_var rfl) ev_c (e _ _ hr2) rfl
    show tSeq _ _ _ [some (.ref lw), some (.int who), some (.ref r), none, none] H2
    refine q_asg (v := .str (if p.stp = true then "stopped" else if p.who.isNone = true then "runs" else "waits")) (ev_if (et_B (lf none none H2 (Ex.refl _)).stp) (fun h => by rw [if_pos h]; exact ev_c) (fun h => by
      rw [if_neg (by rw [h]; decide)]
      exact ev_if (et_is (et_B (ev_isN (lc none none H2 (Ex.refl _)))) (call_non hc2)) (fun h => ev_is ev_c (by rw [if_pos h])) (fun h => ev_is ev_c (by rw [if_neg (by rw [h]; decide)])))) fun H3 e3 => ?_
    refine q_asg (v := if p.who.isNone = true then .non else .int 0) (ev_if (et_is (et_B (ev_isN (lc _ none H3 e3))) (call_non hc2)) (fun h => ev_is ev_c (by rw [if_pos h])) (fun h => ev_is ev_c (by rw [if_neg (by rw [h]; decide)]))) fun H4 e4 => ?_
    have e24 := e3.trans e4
    refine q_asg (v := .str (wordP p)) (ev_if (et_is (et_B (ev_isN (lf _ _ H4 e24).code)) (opt_non _)) (fun h => by
        refine ev_is (ev_var rfl) ?_
        unfold wordP
        have : p.code.isSome = false := by cases hc : p.code with | none => rfl | some _ => rw [hc] at h; cases h
        rw [if_neg (show ¬ p.code.isSome = true by rw [this]; decide)]) (fun h => by
        refine ev_is ev_c ?_
        unfold wordP
        have : p.code.isSome = true := by cases hc : p.code with | none => rw [hc] at h; cases h | some _ => rfl
        rw [if_pos this])) fun H5 e5 => ?_
    have e25 := e24.trans e5
    have lf5 := lf (some (.str (wordP p))) (some (if p.who.isNone = true then .non else .int 0)) H5 e25
    have hpl : Tp H5 (if p.who.isNone = true then V.non else V.int 0) (placeD p.who) := by
      unfold placeD
      split
      · exact .non
      · exact .int 0
    exact s_retG (eg_told (eg_t5 (eg_v lf5.ses (.int _)) (eg_v lf5.grp (.int _)) (eg_v (ev_var rfl) (.str _)) (eg_v (ev_var rfl) hpl) (eg_v (lc _ _ H5 e25) (hc2.fr (F := []) (Fr.same e25)).tp))) fun v H6 e6 g => q v H6 (e1.trans (e2.trans (e25.trans e6))) g
end
end K02
set_option Elab.async false
set_option linter.all false
set_option maxRecDepth 100000
set_option maxHeartbeats 4000000
namespace K02
open PySem PySem.Spec PyProof.Rows L2 Evl KB
theorem filter_empty {α : Type} (q : α → Bool) : ∀ E : List α, (E.filter q).isEmpty = !(E.any q)
  | [] => rfl
  | e :: E => by
    rw [List.filter_cons, List.any_cons]
    by_cases z : q e = true
    · rw [if_pos z, z]; rfl
    · rw [if_neg z, filter_empty q E, Bool.eq_false_iff.mpr z]; rfl
theorem not_own_kid {S : Fam} (O : Ord S) {n : Int} : n ∉ S.kids n := fun m => by
  obtain ⟨q, b1, b2⟩ := mem_kids.mp m
  obtain ⟨i, hi⟩ := idx_at b1
  by_cases z : i = 0
  · obtain ⟨p0, _, e0, e1, _⟩ := first_at O
    rw [z, e0] at hi
    have e2 : p0 = q := congrArg Prod.snd (Option.some.inj hi)
    rw [← e2, e1] at b2
    cases b2
  · obtain ⟨j, m', q', hj, hm, a, _⟩ := O.par i n q hi z
    have : m' = n := Option.some.inj (a.symm.trans b2)
    subst this
    have := idx_uniq O.nd hi hm
    omega
section
variable {K : PySem.W.Frag} {σ : L2.St} {H H' : Hp} {lw r : Addr} {E E' : List Ent} {n : Int} {p p' : Pr} {ta tb td te t1 t2 : TE} {v a b : V} {D : Ends} {tz : TS} {d : PyData}
theorem q_parV {i j : Nat} (h1 : Ev ta σ H a) (h2 : Ev tb σ H b) (k : ∀ H1, Ex H H1 → tz D ((σ.set i (some a)).set j (some b)) H1) : tSeq (tPar i j (tCons ta (tCons tb tNil))) tz D σ H :=
  h1 H (Ex.refl H) _ fun H1 e1 => h2 H1 e1 _ fun H2 e2 => ⟨a, b, rfl, k H2 (e1.trans e2)⟩
/-- a, b = x, y by a tuple -/
theorem q_tup2 {g1 g2 : TG} (h1 : Ev ta σ H a) (h2 : Ev tb σ H b) (k : ∀ H1, Ex H H1 → g1 a σ H1 fun σ1 H2 => g2 b σ1 H2 (tz D)) : tSeq (tAsg (tTup (tCons ta (tCons tb tNil))) (gTup K 2 (gCons g1 (gCons g2 gNil)))) tz D σ H :=
  h1 H (Ex.refl H) _ fun H1 e1 => h2 H1 e1 _ fun H2 e2 => ⟨by show 2 ≤ sizeLine; decide, fun t nt => by
    refine ⟨t, [a, b], rfl, SqT.of upd_same, rfl, a, [b], rfl, ?_⟩
    have q := k _ ((e1.trans e2).trans (Ex.new (o := .tup [a, b]) nt))
    refine cast ?_ q
    congr 1
    funext σ1 H3
    exact propext ⟨fun z => ⟨b, [], rfl, cast (by congr 1; funext σ2 H4; exact propext ⟨fun y => ⟨rfl, y⟩, fun y => y.2⟩) z⟩, fun ⟨b', r', e, z⟩ => by
      injection e with e1 e2
      subst e1 e2
      exact cast (by congr 1; funext σ2 H4; exact propext ⟨fun y => y.2, fun y => ⟨rfl, y⟩⟩) z⟩⟩
theorem s_tup2 {g1 g2 : TG} (h1 : Ev ta σ H a) (h2 : Ev tb σ H b) (k : ∀ H1, Ex H H1 → g1 a σ H1 fun σ1 H2 => g2 b σ1 H2 D.nx) : tAsg (tTup (tCons ta (tCons tb tNil))) (gTup K 2 (gCons g1 (gCons g2 gNil))) D σ H := q_tup2 (tz := fun D σ H => D.nx σ H) h1 h2 k
/-- record[f] = v among others -/
theorem g_lset {f : Str} {Q : L2.St → Hp → Prop} (vcf : V → V) (w : LW H lw E) (l : E.lookup n = some (r, p)) (hd : Ev td σ H (.ref r)) (hput : ∀ vc, putK (recKV p vc) (Sum.inr f) v = recKV p' (vcf vc)) (hc : ∀ vc G, CallV G vc p.who → CallV G (vcf vc) p'.who)
    (k : ∀ H1, Fr (footL lw E) H H1 → LW H1 lw (setE E n p') → Q σ H1) : gSub td (tC (.str f)) rSetD v σ H Q :=
  hd H (Ex.refl H) _ fun H1 e1 => by
    obtain ⟨vc, h1, h2⟩ := (w.ex e1).rec1 l
    refine (show ∃ a H', V.ref r = .ref a ∧ DPut H1 a (.str f) v H' ∧ Q σ H' from ⟨r, _, rfl, DPut.k (k := Sum.inr f) h1 (sz_lt (by show 7 < 100000; omega)), ?_⟩)
    rw [hput]
    obtain ⟨w2, f2⟩ := (w.ex e1).set (p' := p') (vc := vcf vc) l (hc vc H1 h2)
    exact k _ ((Fr.same e1).trans (f2.more fun x m => by rw [List.mem_singleton.mp m]; exact LW.foot l)) w2
theorem ev_lget (w : LWr H lw E) (h : Ev ta σ H (.ref lw)) (hn : Ev tb σ H (.int n)) : Ev (tDGet1 ta tb) σ H (((E.lookup n).map fun x => V.ref x.1).getD .non) := fun H1 e Q q =>
  h H1 e _ fun H2 e2 => ⟨lw, rfl, .inl ⟨_, ex_rd (e.trans e2) w.top⟩, hn H2 (e.trans e2) _ fun H3 e3 => ⟨_, .inl ⟨topK E, Sum.inl n, ex_rd ((e.trans e2).trans e3) w.top, rfl, (top_at E n).symm⟩, q H3 (e2.trans e3)⟩⟩
end
/-! ### _law_joined, _law_ended -/
abbrev sLJoined : Stmt := topS 101
abbrev nLJoined : List Str := ["_law_world", "_law_n", "_law_who", "_law_group", "_law_its", "_law_session", "_law_k"]
theorem scLJoined : FnScope nLJoined ["_law_world", "_law_n", "_law_who", "_law_group"] (defScope sLJoined) := ⟨rfl, rfl, rfl, by decide +kernel, rfl, by decide +kernel, by decide +kernel⟩
abbrev sLEnded : Stmt := topS 100
abbrev nLEnded : List Str := ["_law_world", "_law_n", "_law_code", "_law_up", "_law_proc_here", "_law_k", "_law_kid"]
theorem scLEnded : FnScope nLEnded ["_law_world", "_law_n", "_law_code"] (defScope sLEnded) := ⟨rfl, rfl, rfl, by decide +kernel, rfl, by decide +kernel, by decide +kernel⟩
def spLJoined : Sp := fun vs H Q _ => ∃ lw E n who g r p, vs = [.ref lw, .int n, .int who, .int g] ∧ LW H lw E ∧ E.length < 64 ∧ E.lookup n = some (r, p) ∧ p.code = none ∧ RetLW H lw E (joinE E n who g).1 (joinE E n who g).2 Q
def spLEnded : Sp := fun vs H Q _ => ∃ lw E n code r p, vs = [.ref lw, .int n, .int code] ∧ LW H lw E ∧ E.length < 64 ∧ E.lookup n = some (r, p) ∧ n ≠ 1 ∧ Ord (famE E) ∧ ∀ H', Fr (footL lw E) H H' → LW H' lw (endE E n p code) → Q .non H'
theorem par_foot (lw : Addr) (E : List Ent) (ks : List Int) (h : Int) : footL lw (parE E ks h) = footL lw E := by
  unfold footL parE
  rw [List.map_map]
  congr 1
  refine List.map_congr_left fun e _ => ?_
  by_cases z : e.1 ∈ ks <;> simp [z]
section
variable {P : Program} {w : World} {K : PySem.W.Frag} {mg : Str → Option Value} {base : Heap} {f : Addr} {fd : FuncData}
theorem ok_LJoined (F : Fun K "_law_joined" "_law_joined" sLJoined f fd) : FnOk P w K mg base CX0 1 f fd ["_law_world", "_law_n", "_law_who", "_law_group"] spLJoined := by
  refine F.ok scLJoined (fun vs H Q E h => ?_) (fun cdv A outer s H vs Q E hr h => ?_)
  · obtain ⟨lw, E, n, who, g, r, p, rfl, _⟩ := h
    rfl
  · obtain ⟨lw, E, n, who, g, r, p, rfl, W, few, l, hcode, q⟩ := h
    have nd := scLJoined.nd
    have hu := hu_of hr
    refine ⟨_, (pss_cons (ps_asg (pe_tup (pa_cons (pe_dget1 hu (pv 0) (pv 2) ⟨rfl, rfl, rfl, rfl⟩) (pa_cons (pe_dget hu (pe_dget hu (pv 0) (pv 1) (fun _ _ => rfl)) pe_str (fun _ _ => rfl)) pa_nil))) (pg_tup (by rfl) (pgs_cons (pg_name (i := 4) nd rfl (by first | exact .inl rfl | exact .inr rfl)) (pgs_cons (pg_name (i := 5) nd rfl (by first | exact .inl rfl | exact .inr rfl)) pgs_nil))))
      (pss_cons (ps_if (PW.pt (pw_or (pt_cmp (pc_isN (pv 4))) (pw_or (pt_cmp (pc_notN (pe_dget hu (pv 4) pe_str (fun _ _ => rfl)))) (pw_or (PW.pt (pw_and (pt_cmpR op_ne (pv 2) (pv 1) (nomark _)) (pw_and1 (pt_cmpR op_ne (pe_dget hu (pv 4) pe_str (fun _ _ => rfl)) (pv 1) (nomark _))))) (pw_or1 (pt_cmpR op_ne (pe_dget hu (pv 4) pe_str (fun _ _ => rfl)) (pv 5) (nomark _))))))) (pss_one (ps_ret (pe_tup (pa_cons pe_str (pa_cons pe_str pa_nil))))) pss_nil)
      (pss_cons (ps_if (pt_cmpR op_eq (pe_dget hu (pv 4) pe_str (fun _ _ => rfl)) (pv 2) (nomark _)) (pss_one (ps_ret (pe_tup (pa_cons pe_str (pa_cons pe_str pa_nil))))) pss_nil)
      (pss_cons (ps_if (pt_cmpR (op_eqD hr.units) (pe_lock (pe_lc (own := [("_law_k", 6)]) (g := gName 6) (tt := tAnd (tTest (tOp rEq (tDGet (tDGet (tVar 0) (tVar 6)) (tC (.str "session"))) (tVar 5))) (tTest (tOp (rIn K false) (tVar 3) (tTup (tCons (tVar 6) (tCons (tDGet (tDGet (tVar 0) (tVar 6)) (tC (.str "group"))) tNil)))))) (te := tVar 6) rfl nd (pi_keys (pv 0)) (blkOk_by (N := nLJoined) (sc := defScope sLJoined) (by decide +kernel)) (fun _ _ _ _ _ => (pg_name (i := 6) nd rfl (by first | exact .inl rfl | exact .inr rfl))) (fun _ _ _ _ _ => (pts_one (PW.pt (pw_and (pt_cmpR op_eq (pe_dget hu (pe_dget hu (pv 0) (pv 6) (fun _ _ => rfl)) pe_str (fun _ _ => rfl)) (pv 5) (nomark _)) (pw_and1 (pt_cmpR op_in_seq (pv 3) (pe_tup (pa_cons (pv 6) (pa_cons (pe_dget hu (pe_dget hu (pv 0) (pv 6) (fun _ _ => rfl)) pe_str (fun _ _ => rfl)) pa_nil))) (by rfl))))))) (fun _ _ _ _ _ => (pv 6)))) (pe_lst pa_nil) (nomark _)) (pss_one (ps_ret (pe_tup (pa_cons pe_str (pa_cons pe_str pa_nil))))) pss_nil)
      (pss_cons (ps_dput hu (pv 4) pe_str (pv 3) rfl)
      (pss_one (ps_ret (pe_tup (pa_cons pe_str (pa_cons pe_non pa_nil)))))))))), ?_⟩
    have lf := lf_at (σ := start nLJoined [.ref lw, .int n, .int who, .int g]) W.rd (ev_var (i := 0) rfl) (ev_var (i := 1) rfl) l
    refine q_tup2 (ev_lget W.rd (ev_var rfl) (ev_var rfl)) lf.ses fun H1 e1 => ?_
    have W1 := W.ex e1
    cases hl : E.lookup who with
    | none =>
      show tSeq _ _ _ [some (.ref lw), some (.int n), some (.int who), some (.int g), some .non, some (.int p.ses), none] H1
      refine q_when (b := true) (et_is (et_or (et_B (ev_isN (x := .non) (ev_var rfl))) (b := false) (fun h => absurd h (by simp))) (by simp)) (fun _ H2 e2 => ?_) (fun hb => nomatch hb)
      have hj : joinE E n who g = (E, refD "no child") := by
        unfold joinE
        rw [hl]
        split <;> rfl
      rw [hj] at q
      exact s_retG eg_ref fun v H3 e3 gg => q.of W (e1.trans (e2.trans e3)) gg
    | some y =>
      obtain ⟨r', x⟩ := y
      show tSeq _ _ _ [some (.ref lw), some (.int n), some (.int who), some (.int g), some (.ref r'), some (.int p.ses), none] H1
      obtain ⟨vc, hr1, hc1⟩ := W1.rec1 hl
      have lfx : LF (tVar 4) [some (.ref lw), some (.int n), some (.int who), some (.int g), some (.ref r'), some (.int p.ses), none] H1 x := lf_of (ev_var rfl) hr1 hc1
      have hm : mayB (famE E) n who = ((decide (who = n) || (decide (x.par = some n) && x.code.isNone)) && decide (x.ses = p.ses)) := by
        unfold mayB sesOf aliveB
        rw [fam_in l, fam_in hl]
        have e1 : decide (who ∈ (famE E).kids n) = decide (x.par = some n) := decide_eq_decide.mpr ⟨fun h => by
          obtain ⟨q, b1, b2⟩ := mem_kids.mp h
          rw [fam_in hl] at b1
          rw [Option.some.inj b1]; exact b2, fun h => mem_kids.mpr ⟨x, fam_in hl, h⟩⟩
        rw [e1]
        rfl
      have tst : (decide ((V.ref r') = .non) || (!decide (optV x.code = .non) || ((!decide (V.int who = V.int n) && !decide (optV x.par = V.int n)) || !decide (V.int x.ses = V.int p.ses)))) = !mayB (famE E) n who := by
        rw [hm, opt_non, (opt_eq x.par n).2]
        have e2 : decide (V.int who = V.int n) = decide (who = n) := by simp
        have e3 : decide (V.int x.ses = V.int p.ses) = decide (x.ses = p.ses) := by simp
        have e4 : decide ((V.ref r') = V.non) = false := by simp
        rw [e2, e3, e4]
        by_cases z : who = n
        · have : x = p := by
            rw [z, l] at hl
            exact (congrArg Prod.snd (Option.some.inj hl)).symm
          rw [decide_eq_true z, this, hcode]
          cases decide (p.ses = p.ses) <;> rfl
        · rw [decide_eq_false z]
          cases x.code.isNone <;> cases decide (x.par = some n) <;> cases decide (x.ses = p.ses) <;> rfl
      refine q_when (et_is (et_or (et_B (ev_isN (ev_var rfl))) fun _ => et_or (et_B (ev_notN lfx.code)) fun _ => et_or (et_and (et_test (ev_op (ev_var rfl) (ev_var rfl) (rv_ne rfl))) fun _ => et_test (ev_op lfx.par (ev_var rfl) (rv_ne (opt_eq _ _).1))) fun _ => et_test (ev_op lfx.ses (ev_var rfl) (rv_ne rfl))) tst) (fun hb H2 e2 => ?_) (fun hb H2 e2 => ?_)
      · have hj : joinE E n who g = (E, refD "no child") := by
          unfold joinE
          rw [if_pos (by simpa using hb)]
        rw [hj] at q
        exact s_retG eg_ref fun v H3 e3 gg => q.of W (e1.trans (e2.trans e3)) gg
      have hj : joinE E n who g = (if x.ses = who then (E, refD "leads") else if peerB (famE E) p.ses g = false then (E, refD "no group") else (setE E who { x with grp := g }, toldD .none)) := by
        unfold joinE
        rw [if_neg (by simpa using hb), hl]
        have sn : sesOf (famE E) n = p.ses := by unfold sesOf; rw [fam_in l]; rfl
        rw [sn]
      rw [hj] at q
      have lfx2 : LF (tVar 4) [some (.ref lw), some (.int n), some (.int who), some (.int g), some (.ref r'), some (.int p.ses), none] H2 x := lf_of (ev_var rfl) (e2 _ _ hr1) (hc1.fr (F := []) (Fr.same e2))
      refine q_when (et_is (et_test (ev_op lfx2.ses (ev_var rfl) (rv_eq rfl))) (show decide (V.int x.ses = V.int who) = decide (x.ses = who) by simp)) (fun hb2 H3 e3 => ?_) (fun hb2 H3 e3 => ?_)
      · rw [if_pos (of_decide_eq_true hb2)] at q
        exact s_retG eg_ref fun v H4 e4 gg => q.of W (e1.trans (e2.trans (e3.trans e4))) gg
      rw [if_neg (of_decide_eq_false hb2)] at q
      have W3 := W1.ex (e2.trans e3)
      have lc := el_lockW (te := tVar 6) (t := tAnd (tTest (tOp rEq (tDGet (tDGet (tVar 0) (tVar 6)) (tC (.str "session"))) (tVar 5))) (tTest (tOp (rIn K false) (tVar 3) (tTup (tCons (tVar 6) (tCons (tDGet (tDGet (tVar 0) (tVar 6)) (tC (.str "group"))) tNil)))))) (σ := [some (.ref lw), some (.int n), some (.int who), some (.int g), some (.ref r'), some (.int p.ses), none]) (j := 6) (i0 := 0) (vs := [6]) W3 (by omega) rfl (fun e => decide (e.2.2.ses = p.ses) && decide (g ∈ [e.1, e.2.2.grp])) (fun e => .int e.1) (fun x => rfl) (fun e m G WG => by
          have lfe := lf_at (σ := [some (.ref lw), some (.int n), some (.int who), some (.int g), some (.ref r'), some (.int p.ses), some (.int e.1)]) WG (ev_var (i := 0) rfl) (ev_var (i := 6) rfl) (in_look W3.keys m)
          refine et_is (et_and (et_test (ev_op lfe.ses (ev_var rfl) (rv_eq rfl))) fun _ => et_test (ev_opU (ev_var rfl) (eu_tup (ea_cons (ev_var rfl) (ea_cons lfe.grp ea_nil)) (by show 2 ≤ 100000; omega)) fun p H1 hp e1 => rv_inTI (xs := [e.1, e.2.2.grp]) (st_of hp))) ?_
          show (decide (V.int e.2.2.ses = V.int p.ses) && _) = _
          simp) (fun e m _ G WG => ev_var rfl)
      have el : (E.filter fun e => decide (e.2.2.ses = p.ses) && decide (g ∈ [e.1, e.2.2.grp])).map (fun e => V.int e.1) = ((E.filter fun e => decide (e.2.2.ses = p.ses) && decide (g ∈ [e.1, e.2.2.grp])).map (·.1)).map V.int := by rw [List.map_map]; rfl
      rw [el] at lc
      have ep : ((E.filter fun e => decide (e.2.2.ses = p.ses) && decide (g ∈ [e.1, e.2.2.grp])).map (·.1)).isEmpty = !peerB (famE E) p.ses g := by
        rw [List.isEmpty_map, filter_empty]
        unfold peerB
        rw [fam_any E fun k q => decide (q.ses = p.ses) && decide (g ∈ [k, q.grp]), List.any_map]
        rfl
      refine q_when (et_is (et_test (ev_nilL lc)) ep) (fun hb3 H4 e4 => ?_) (fun hb3 H4 e4 => ?_)
      · rw [if_pos (by simpa using hb3)] at q
        exact s_retG eg_ref fun v H5 e5 gg => q.of W (e1.trans (e2.trans (e3.trans (e4.trans e5)))) gg
      rw [if_neg (by simpa using hb3)] at q
      have e04 := e1.trans (e2.trans (e3.trans e4))
      refine q_lset (p' := { x with grp := g }) (W.ex e04) hl (ev_var rfl) (ev_var rfl) (fun vc => rfl) rfl fun H5 f5 W5 => ?_
      exact s_retG (eg_told (eg_v ev_c .non)) fun v H6 e6 gg => q v H6 ((Fr.same e04).trans (f5.trans (Fr.same e6))) (fun b m => by rw [set_foot] at m; exact .inl m) (W5.ex e6) gg
theorem ok_LEnded (F : Fun K "_law_ended" "_law_ended" sLEnded f fd) (G__law_above : Kf P w K mg base 1 "_law_above" ["_law_world", "_law_n"] spLAbove) (G__law_kids : Kf P w K mg base 1 "_law_kids" ["_law_world", "_law_n"] spLKids) : FnOk P w K mg base CX0 2 f fd ["_law_world", "_law_n", "_law_code"] spLEnded := by
  refine F.ok scLEnded (fun vs H Q E h => ?_) (fun cdv A outer s H vs Q E hr h => ?_)
  · obtain ⟨lw, E, n, code, r, p, rfl, _⟩ := h
    rfl
  · obtain ⟨lw, E, n, code, r, p, rfl, W, few, l, hn, O, q⟩ := h
    have nd := scLEnded.nd
    have hu := hu_of hr
    refine ⟨_, (pss_cons (ps_par (i := 3) (j := 4) (by rfl) nd rfl rfl (by decide) rfl rfl (pa_cons (pe_fn G__law_above (hr.mono (by decide)) (pa_cons (pv 0) (pa_cons (pv 1) pa_nil))) (pa_cons (pe_dget hu (pv 0) (pv 1) (fun _ _ => rfl)) pa_nil)) (by rfl))
      (pss_cons (ps_for PassesOwn.never rfl (pi_list (pe_fn G__law_kids (hr.mono (by decide)) (pa_cons (pv 0) (pa_cons (pv 1) pa_nil)))) (pg_name (i := 5) nd rfl (by first | exact .inl rfl | exact .inr rfl)) (pss_cons (ps_set (i := 6) nd rfl (by first | exact .inl rfl | exact .inr rfl) (pe_dget hu (pv 0) (pv 5) (fun _ _ => rfl)))
      (pss_one (ps_dput hu (pv 6) pe_str (pv 3) rfl))))
      (pss_cons (ps_asg (pe_tup (pa_cons (pv 2) (pa_cons pe_bl pa_nil))) (pg_tup (by rfl) (pgs_cons (pg_sub (pv 4) pe_str (set_dict hu)) (pgs_cons (pg_sub (pv 4) pe_str (set_dict hu)) pgs_nil))))
      (pss_one (ps_asg (pe_tup (pa_cons pe_non (pa_cons pe_bl pa_nil))) (pg_tup (by rfl) (pgs_cons (pg_sub (pv 4) pe_str (set_dict hu)) (pgs_cons (pg_sub (pv 4) pe_str (set_dict hu)) pgs_nil)))))))), ?_⟩
    have c1 : SpV spLAbove ([.ref lw, .int n] ++ []) H (.int (heir (famE E) n)) := fun H2 e2 Q q E' => ⟨lw, E, n, r, p, rfl, W.ex e2, l, hn, O, q⟩
    refine q_parV (ev_call (ea_cons (ev_var rfl) (ea_cons (ev_var rfl) ea_nil)) c1) (ev_lrec W.rd (ev_var rfl) (ev_var rfl) l) fun H1 e1 => ?_
    show tSeq _ _ _ [some (.ref lw), some (.int n), some (.int code), some (.int (heir (famE E) n)), some (.ref r), none, none] H1
    have W1 := W.ex e1
    have c2 : SpL spLKids ([.ref lw, .int n] ++ []) H1 (((famE E).kids n).map V.int) := fun H2 e2 Q q E' => ⟨lw, E, n, rfl, W1.ex e2, few, q⟩
    have nkids : n ∉ (famE E).kids n := not_own_kid O
    refine q_forNLn (el_call (ea_cons (ev_var rfl) (ea_cons (ev_var rfl) ea_nil)) c2) (fun a i σ G => (∃ x y, σ = [some (.ref lw), some (.int n), some (.int code), some (.int (heir (famE E) n)), some (.ref r), x, y]) ∧ Fr (footL lw E) H G ∧ a ∉ footL lw E ∧ G a = some (.lst (((famE E).kids n).map V.int)) ∧ LW G lw (parE E (((famE E).kids n).take i) (heir (famE E) n))) (fun a G na eG ga => ⟨⟨_, _, rfl⟩, (Fr.same e1).trans (Fr.same eG), fun m => ?_, ga, ?_⟩) (fun a i σ' G _ h => SqL.of h.2.2.2.1) ?_ ?_
    · rcases List.mem_cons.mp m with z | m
      · rw [z, W1.top] at na; cases na
      · obtain ⟨e, me, ee⟩ := List.mem_map.mp m
        obtain ⟨vc, h1, _⟩ := W1.recs e me
        rw [ee, na] at h1
        cases h1
    · rw [List.take_zero, par_nil]
      exact W1.ex eG
    · rintro a i x σ' G hx ⟨⟨y1, y2, rfl⟩, fG, nrR, ga, WG⟩
      rw [List.getElem?_map] at hx
      obtain ⟨k, ek, rfl⟩ := Option.map_eq_some_iff.mp hx
      have mk := (List.mem_filter.mp (List.mem_of_getElem? ek)).1
      obtain ⟨ka, kp, kl, _⟩ := look_some (mem_sorted.mp mk)
      have kl2 := par_look E (((famE E).kids n).take i) (heir (famE E) n) k
      rw [kl] at kl2
      have hex : ∃ ka kp, (parE E (((famE E).kids n).take i) (heir (famE E) n)).lookup k = some (ka, kp) := ⟨_, _, kl2⟩
      obtain ⟨ka, kp, kl2⟩ := hex
      refine q_asg (ev_lrec WG.rd (ev_var rfl) (ev_var rfl) kl2) fun G1 eg1 => ?_
      refine s_lset (p' := { kp with par := some (heir (famE E) n) }) (WG.ex eg1) kl2 (ev_var rfl) (ev_var rfl) (fun vc => rfl) rfl fun G2 f2 W2 => ?_
      rw [par_step W.keys kl2] at W2
      rw [par_foot] at f2
      refine ⟨⟨_, _, rfl⟩, fG.trans ((Fr.same eg1).trans f2), nrR, f2 _ _ (eg1 _ _ ga) (.inl nrR), ?_⟩
      rw [List.take_add_one, ek]
      exact W2
    · rintro a σ' G ⟨⟨y1, y2, rfl⟩, fG, nrR, ga, WG⟩
      rw [List.length_map, List.take_length] at WG
      have lG : (parE E ((famE E).kids n) (heir (famE E) n)).lookup n = some (r, p) := by
        rw [par_look, l]
        show some (if n ∈ (famE E).kids n then _ else (r, p)) = _
        rw [if_neg nkids]
      have hfoot : footL lw (parE E ((famE E).kids n) (heir (famE E) n)) = footL lw E := par_foot _ _ _ _
      generalize hE1 : parE E ((famE E).kids n) (heir (famE E) n) = E1 at WG lG hfoot
      refine q_tup2 (ev_var rfl) ev_c fun G1 eg1 => ?_
      refine g_lset (p' := { p with code := some code }) id (WG.ex eg1) lG (ev_var rfl) (fun vc => rfl) (fun _ _ h => h) fun G2 f2 W2 => ?_
      refine g_lset (p' := { p with code := some code, stp := false }) id W2 (look_set lG) (ev_var rfl) (fun vc => rfl) (fun _ _ h => h) fun G3 f3 W3 => ?_
      rw [set_set] at W3
      refine s_tup2 ev_c ev_c fun G4 eg4 => ?_
      refine g_lset (p' := { p with code := some code, stp := false, who := none }) (fun _ => .non) (W3.ex eg4) (look_set lG) (ev_var rfl) (fun vc => rfl) (fun _ _ _ => rfl) fun G5 f5 W5 => ?_
      rw [set_set] at W5
      refine g_lset (p' := endP p code) id W5 (look_set lG) (ev_var rfl) (fun vc => rfl) (fun _ _ h => h) fun G6 f6 W6 => ?_
      rw [set_set] at W6
      rw [set_foot] at f3 f5 f6
      rw [hfoot] at f2 f3 f5 f6
      refine q G6 (fG.trans ((Fr.same eg1).trans (f2.trans (f3.trans ((Fr.same eg4).trans (f5.trans f6)))))) ?_
      unfold endE
      rw [hE1]
      exact W6
end
end K02
set_option Elab.async false
set_option linter.all false
set_option maxRecDepth 100000
set_option maxHeartbeats 4000000
namespace K02
open PySem PySem.Spec PyProof.Rows L2 Evl KB
theorem dx_zip {H : Hp} {α : Type} {g : α → PyData} : ∀ {xs : List V} {es : List α}, DxAll H xs (es.map g) → ∃ zs : List (V × α), zs.map (·.1) = xs ∧ zs.map (·.2) = es ∧ ∀ z ∈ zs, Dx H z.1 (g z.2)
  | [], [], _ => ⟨[], rfl, rfl, fun _ m => nomatch m⟩
  | _ :: _, [], h => nomatch h
  | [], _ :: _, h => nomatch h
  | x :: xs, e :: es, h => by
    cases h with
    | cons h1 h2 =>
      obtain ⟨zs, a, b, c⟩ := dx_zip h2
      refine ⟨(x, e) :: zs, by rw [List.map_cons, a], by rw [List.map_cons, b], fun z m => ?_⟩
      rcases List.mem_cons.mp m with m | m
      · rw [m]; exact h1
      · exact c z m
theorem dx_t3 {H : Hp} {v : V} {a b c : Int} (h : Dx H v (.tuple [.int a, .int b, .int c])) : ∃ t, v = .ref t ∧ H t = some (.tup [.int a, .int b, .int c]) := by
  cases h with
  | @tup t xs _ e k =>
    cases k with
    | cons k1 k =>
      cases k1
      cases k with
      | cons k2 k =>
        cases k2
        cases k with
        | cons k3 k =>
          cases k3
          cases k
          exact ⟨t, rfl, e⟩
section
variable {K : PySem.W.Frag} {σ : L2.St} {H : Hp} {te ta : TE} {tz : TS} {D : Ends} {v : V}
theorem q_lockX {i : Nat} {d : PyData} (h : EvX (tLockE te) σ H d) (k : ∀ v H1, Ex H H1 → Dx H1 v d → tz D (σ.set i (some v)) H1) : tSeq (tLock (tAsg te (gName i))) tz D σ H :=
  h H (Ex.refl H) (fun v H1 => tz D (σ.set i (some v)) H1) k
theorem q_dputC {td tk : TE} {sp : Sp} {tx : TA} {vs : List V} (h : EvA tx σ H vs) (k : ∀ H1, Ex H H1 → sp (vs ++ []) H1 (fun v H2 => td σ H2 fun x H3 => tk σ H3 fun y H4 => ∃ a H', x = .ref a ∧ DPut H4 a y v H' ∧ tz D σ H') E0) : tSeq (sDPut td tk (tCall sp [] E0 tx)) tz D σ H := h H (Ex.refl H) _ fun H1 e1 => k H1 e1
theorem et_word {a b : Str} {i : Nat} {c : Bool} (h : σ[i]? = some (some (.str a))) (e : decide (V.str a = V.str b) = c) : EvT (tTest (tOp rEq (tVar i) (tC (.str b)))) σ H c := et_is (et_test (ev_op (ev_var h) ev_c (rv_eq rfl))) e
theorem ev_tix {t : Addr} {xs : List V} {i j : Nat} (h : σ[j]? = some (some (.ref t))) (ht : H t = some (.tup xs)) (hx : xs[i]? = some v) : Ev (tOp (rIx K) (tVar j) (tC (.int (i : Int)))) σ H v := ev_op (ev_var h) ev_c (rv_ixq (.inr ht) hx)
end
abbrev sLFamily : Stmt := topS 102
abbrev nLFamily : List Str := ["_law_world", "_law_n", "_law_call", "_law_proc_here", "_law_word", "_law_k", "_law_mates", "_law_mate"]
theorem scLFamily : FnScope nLFamily ["_law_world", "_law_n", "_law_call"] (defScope sLFamily) := ⟨rfl, rfl, rfl, by decide +kernel, rfl, by decide +kernel, by decide +kernel⟩
def Cl.famB : Cl → Bool
  | .wait _ => false
  | .about _ => false
  | _ => true
def spLFamily : Sp := fun vs H Q _ => ∃ lw E n t c r p, vs = [.ref lw, .int n, .ref t] ∧ H t = some (.tup (Cl.vals c)) ∧ c.famB = true ∧ LW H lw E ∧ E.length < 63 ∧ E.lookup n = some (r, p) ∧ p.code = none ∧ Ord (famE E) ∧ ∀ x, RetLW H lw E (perfE E n p c x).1 (perfE E n p c x).2 Q
section
variable {P : Program} {w : World} {K : PySem.W.Frag} {mg : Str → Option Value} {base : Heap} {f : Addr} {fd : FuncData}
theorem ok_LFamily (F : Fun K "_law_family" "_law_family" sLFamily f fd) (G__law_kids : Kf P w K mg base 1 "_law_kids" ["_law_world", "_law_n"] spLKids) (G__law_ended : Kf P w K mg base 2 "_law_ended" ["_law_world", "_law_n", "_law_code"] spLEnded) (G__law_joined : Kf P w K mg base 1 "_law_joined" ["_law_world", "_law_n", "_law_who", "_law_group"] spLJoined) (G__law_proc : Kf P w K mg base 1 "_law_proc" ["_law_parent", "_law_session", "_law_group"] spLProc) (m_any : mg "any" = none) :
    FnOk P w K mg base CX0 3 f fd ["_law_world", "_law_n", "_law_call"] spLFamily := by
  refine F.ok scLFamily (fun vs H Q E h => ?_) (fun cdv A outer s H vs Q E hr h => ?_)
  · obtain ⟨lw, E, n, t, c, r, p, rfl, _⟩ := h
    rfl
  · obtain ⟨lw, E, n, t, c, r, p, rfl, ht, hfam, W, few, l, hcode, O, q⟩ := h
    have nd := scLFamily.nd
    have hu := hu_of hr
    refine ⟨_, (pss_cons (ps_par (i := 3) (j := 4) (by rfl) nd rfl rfl (by decide) rfl rfl (pa_cons (pe_dget hu (pv 0) (pv 1) (fun _ _ => rfl)) (pa_cons (pe_ix ix_seq (pv 2) pe_int (fun _ _ => rfl)) pa_nil)) (by rfl))
      (pss_cons (ps_if (pt_cmpR op_eq (pv 4) pe_str (nomark _)) (pss_cons (ps_lock (ps_setLc (i := 6) (own := [("_law_k", 5)]) (g := gName 5) (tt := tYes) (te := tTup (tCons (tVar 5) (tCons (tDGet (tDGet (tVar 0) (tVar 5)) (tC (.str "session"))) (tCons (tDGet (tDGet (tVar 0) (tVar 5)) (tC (.str "group"))) tNil)))) rfl nd rfl rfl (sw_true rfl rfl rfl (by decide +kernel)) (pi_keys (pv 0)) (blkOk_by (N := nLFamily) (sc := defScope sLFamily) (by decide +kernel)) (fun _ _ _ _ _ => (pg_name (i := 5) nd rfl (by first | exact .inl rfl | exact .inr rfl))) (fun _ _ _ _ _ => pts_nil) (fun _ _ _ _ _ => (pe_tup (pa_cons (pv 5) (pa_cons (pe_dget hu (pe_dget hu (pv 0) (pv 5) (fun _ _ => rfl)) pe_str (fun _ _ => rfl)) (pa_cons (pe_dget hu (pe_dget hu (pv 0) (pv 5) (fun _ _ => rfl)) pe_str (fun _ _ => rfl)) pa_nil)))))))
      (pss_cons (ps_if (PW.pt (pw_or (pt_cmpR op_gt (pe_ix ix_seq (pv 2) pe_int (fun _ _ => rfl)) pe_int (nomark _)) (pw_or1 (pt_val (pe_callB (cr_any rfl) (by rfl) m_any (by decide +kernel) (pa_cons (pe_lc (own := [("_law_mate", 7)]) (g := gName 7) (tt := tYes) (te := tOp (rIn K false) (tOp (rIx K) (tVar 2) (tC (.int 1))) (tVar 7)) rfl nd (pi_list (pv 6)) (blkOk_by (N := nLFamily) (sc := defScope sLFamily) (by decide +kernel)) (fun _ _ _ _ _ => (pg_name (i := 7) nd rfl (by first | exact .inl rfl | exact .inr rfl))) (fun _ _ _ _ _ => pts_nil) (fun _ _ _ _ _ => (pe_cmpR op_in_seq (pe_ix ix_seq (pv 2) pe_int (fun _ _ => rfl)) (pv 7) (by rfl)))) pa_nil)))))) (pss_one (ps_ret (pe_tup (pa_cons pe_str (pa_cons pe_str pa_nil))))) pss_nil)
      (pss_cons (ps_dput hu (pv 0) (pe_ix ix_seq (pv 2) pe_int (fun _ _ => rfl)) (pe_fn G__law_proc (hr.mono (by decide)) (pa_cons (pv 1) (pa_cons (pe_dget hu (pv 3) pe_str (fun _ _ => rfl)) (pa_cons (pe_dget hu (pv 3) pe_str (fun _ _ => rfl)) pa_nil)))) rfl)
      (pss_one (ps_ret (pe_tup (pa_cons pe_str (pa_cons (pe_ix ix_seq (pv 2) pe_int (fun _ _ => rfl)) pa_nil)))))))) pss_nil)
      (pss_cons (ps_if (pt_cmpR op_eq (pv 4) pe_str (nomark _)) (pss_one (ps_ret (pe_fn G__law_joined (hr.mono (by decide)) (pa_cons (pv 0) (pa_cons (pv 1) (pa_cons (pe_ix ix_seq (pv 2) pe_int (fun _ _ => rfl)) (pa_cons (pe_ix ix_seq (pv 2) pe_int (fun _ _ => rfl)) pa_nil))))))) pss_nil)
      (pss_cons (ps_if (pt_cmpR op_eq (pv 4) pe_str (nomark _)) (pss_cons (ps_if (pt_cmpR op_eq (pv 1) pe_int (nomark _)) (pss_one (ps_ret (pe_tup (pa_cons pe_str (pa_cons pe_str pa_nil))))) pss_nil)
      (pss_cons (ps_expr (pe_fn G__law_ended (hr.mono (by decide)) (pa_cons (pv 0) (pa_cons (pv 1) (pa_cons (pe_ix ix_seq (pv 2) pe_int (fun _ _ => rfl)) pa_nil)))))
      (pss_one (ps_ret (pe_tup (pa_cons pe_str (pa_cons pe_non pa_nil))))))) pss_nil)
      (pss_cons (ps_if (pt_cmpR (op_neD hr.units) (pe_fn G__law_kids (hr.mono (by decide)) (pa_cons (pv 0) (pa_cons (pv 1) pa_nil))) (pe_lst pa_nil) (nomark _)) (pss_one (ps_ret (pe_tup (pa_cons pe_str (pa_cons pe_str pa_nil))))) pss_nil)
      (pss_cons (ps_if (pt_cmpR op_eq (pv 4) pe_str (nomark _)) (pss_cons (ps_dput hu (pv 3) pe_str pe_bl rfl)
      (pss_one (ps_ret (pe_tup (pa_cons pe_str (pa_cons pe_non pa_nil)))))) pss_nil)
      (pss_cons (ps_if (pt_cmpR (op_neD hr.units) (pe_lock (pe_lc (own := [("_law_k", 5)]) (g := gName 5) (tt := tTest (tOp rEq (tDGet (tDGet (tVar 0) (tVar 5)) (tC (.str "group"))) (tVar 1))) (te := tVar 5) rfl nd (pi_keys (pv 0)) (blkOk_by (N := nLFamily) (sc := defScope sLFamily) (by decide +kernel)) (fun _ _ _ _ _ => (pg_name (i := 5) nd rfl (by first | exact .inl rfl | exact .inr rfl))) (fun _ _ _ _ _ => (pts_one (pt_cmpR op_eq (pe_dget hu (pe_dget hu (pv 0) (pv 5) (fun _ _ => rfl)) pe_str (fun _ _ => rfl)) (pv 1) (nomark _)))) (fun _ _ _ _ _ => (pv 5)))) (pe_lst pa_nil) (nomark _)) (pss_one (ps_ret (pe_tup (pa_cons pe_str (pa_cons pe_str pa_nil))))) pss_nil)
      (pss_cons (ps_asg (pe_tup (pa_cons (pv 1) (pa_cons (pv 1) pa_nil))) (pg_tup (by rfl) (pgs_cons (pg_sub (pv 3) pe_str (set_dict hu)) (pgs_cons (pg_sub (pv 3) pe_str (set_dict hu)) pgs_nil))))
      (pss_one (ps_ret (pe_tup (pa_cons pe_str (pa_cons pe_non pa_nil))))))))))))), ?_⟩
    refine q_parV (ev_lrec W.rd (ev_var rfl) (ev_var rfl) l) (ev_tix rfl ht (i := 0) rfl) fun H1 e1 => ?_
    show tSeq _ _ _ [some (.ref lw), some (.int n), some (.ref t), some (.ref r), some (.str c.name), none, none, none] H1
    have W1 := W.ex e1
    have ht1 := e1 _ _ ht
    have kidsT : ∀ (σ : L2.St) (G : Hp), σ[0]? = some (some (.ref lw)) → σ[1]? = some (some (.int n)) → Ex H1 G → EvT (tTest (tOp (rNeD K) (tCall spLKids [] E0 (tCons (tVar 0) (tCons (tVar 1) tNil))) (tLst tNil))) σ G (!((famE E).kids n).isEmpty) := fun σ G h0 h1 eG => et_test (ev_neL (el_call (ea_cons (ev_var h0) (ea_cons (ev_var h1) ea_nil)) fun H2 e2 Q q E' => ⟨lw, E, n, rfl, (W1.ex eG).ex e2, by omega, q⟩))
    have kne : ∀ {b : Bool}, (!((famE E).kids n).isEmpty) = b → ((famE E).kids n ≠ [] ↔ b = true) := fun {b} hb => by
      rw [← hb]
      cases (famE E).kids n <;> simp
    cases c with
    | wait who => cases hfam
    | about who => cases hfam
    | fork new =>
      refine q_when (et_word (c := true) rfl (show decide (V.str ("fork" : Str) = V.str "fork") = true by decide +kernel)) (fun _ H2 e2 => ?_) (fun hb => nomatch hb)
      have W2 := W1.ex e2
      refine q_lockX (ex_lockW (te := tTup (tCons (tVar 5) (tCons (tDGet (tDGet (tVar 0) (tVar 5)) (tC (.str "session"))) (tCons (tDGet (tDGet (tVar 0) (tVar 5)) (tC (.str "group"))) tNil)))) (t := tYes) (σ := [some (.ref lw), some (.int n), some (.ref t), some (.ref r), some (.str (Cl.fork new).name), none, none, none]) (j := 5) (i0 := 0) (vs := [5]) W2 (by omega) rfl (fun _ => true) (fun e => .tuple [.int e.1, .int e.2.2.ses, .int e.2.2.grp]) (fun x => rfl) (fun e m G WG => et_yes) (fun e m _ G WG => by
          have lfe := lf_at (σ := [some (.ref lw), some (.int n), some (.ref t), some (.ref r), some (.str (Cl.fork new).name), some (.int e.1), none, none]) WG (ev_var (i := 0) rfl) (ev_var (i := 5) rfl) (in_look W.keys m)
          exact em_tup (ea_cons (ev_var rfl) (ea_cons lfe.ses (ea_cons lfe.grp ea_nil))) (.cons (.int _) (.cons (.int _) (.cons (.int _) .nil))) (by show 3 ≤ 100000; omega))) fun v6 H3 e3 g6 => ?_
      rw [Evl.filter_all] at g6
      cases g6 with
      | @lst a6 xs6 _ ga6 gx6 =>
      obtain ⟨zs, z1, z2, z3⟩ := dx_zip gx6
      subst z1
      have ht3 : ∀ G, Ex H3 G → G t = some (.tup (Cl.fork new).vals) := fun G e => e _ _ (e3 _ _ (e2 _ _ ht1))
      have W3 := W2.ex e3
      show tSeq _ _ _ [some (.ref lw), some (.int n), some (.ref t), some (.ref r), some (.str (Cl.fork new).name), none, some (.ref a6), none] H3
      have zl : zs.length ≤ 40000 := by
        have := congrArg List.length z2
        rw [List.length_map] at this
        omega
      have lc := el_lcG (K := K) (H := H3) (t := tYes) (te := tOp (rIn K false) (tOp (rIx K) (tVar 2) (tC (.int 1))) (tVar 7)) (σ := [some (.ref lw), some (.int n), some (.ref t), some (.ref r), some (.str (Cl.fork new).name), none, some (.ref a6), none]) (tl := tVar 6) (j := 7) (vs := [7]) (xs := zs) (fun z => z.1) (fun _ => true) (fun z => .bl (decide (new ∈ [z.2.1, z.2.2.2.ses, z.2.2.2.grp]))) (ev_var rfl) (sq_of ga6) zl (fun x => rfl) (fun z m G e => et_yes) (fun z m _ G e => by
        obtain ⟨tz, hz, gz⟩ := dx_t3 (z3 z m)
        rw [hz]
        exact ev_op (ev_tix rfl (ht3 G e) (i := 1) rfl) (ev_var rfl) (rv_inTI (xs := [z.2.1, z.2.2.2.ses, z.2.2.2.grp]) (st_of (e _ _ gz))))
      rw [Evl.filter_all] at lc
      have e5 : zs.map (fun z => V.bl (decide (new ∈ [z.2.1, z.2.2.2.ses, z.2.2.2.grp]))) = (E.map fun e => decide (new ∈ [e.1, e.2.2.ses, e.2.2.grp])).map V.bl := by
        rw [← z2, List.map_map, List.map_map]
        rfl
      rw [e5] at lc
      have et : (E.map fun e => decide (new ∈ [e.1, e.2.2.ses, e.2.2.grp])).any id = takenB (famE E) new := by
        unfold takenB
        rw [fam_any E fun k q => decide (new ∈ [k, q.ses, q.grp])]
      refine q_when (et_or (et_test (ev_op (z := .bl (decide ((199 : Int) < new))) (ev_tix (K := K) (σ := [some (.ref lw), some (.int n), some (.ref t), some (.ref r), some (.str (Cl.fork new).name), none, some (.ref a6), none]) (j := 2) rfl (ht3 H3 (Ex.refl H3)) (i := 1) rfl) ev_c (rv_I0 (g := fun i j => .bl (decide (j < i)))))) (fun _ => et_is (et_B (ev_any lc)) et)) (fun hb H4 e4 => ?_) (fun hb H4 e4 => ?_)
      · have hp : perfE E n p (.fork new) 0 = (E, refD "taken") := if_pos hb
        have q0 := q 0
        rw [hp] at q0
        exact s_retG eg_ref fun v H5 e5 g => q0.of W (e1.trans (e2.trans (e3.trans (e4.trans e5)))) g
      have W4 := W3.ex e4
      have hn : new ∉ E.map (·.1) := by
        rw [Bool.or_eq_false_iff] at hb
        have := taken_not hb.2
        rwa [fam_keys] at this
      obtain ⟨vc, hr4, hc4⟩ := W4.rec1 l
      have lf : ∀ G, Ex H4 G → LF (tVar 3) [some (.ref lw), some (.int n), some (.ref t), some (.ref r), some (.str (Cl.fork new).name), none, some (.ref a6), none] G p := fun G e => lf_of (ev_var rfl) (e _ _ hr4) (hc4.fr (F := []) (Fr.same e))
      have ea : EvA (tCons (tVar 1) (tCons (tDGet (tVar 3) (tC (.str "session"))) (tCons (tDGet (tVar 3) (tC (.str "group"))) tNil))) [some (.ref lw), some (.int n), some (.ref t), some (.ref r), some (.str (Cl.fork new).name), none, some (.ref a6), none] H4 [.int n, .int p.ses, .int p.grp] := ea_cons (ev_var rfl) (ea_cons (lf H4 (Ex.refl H4)).ses (ea_cons (lf H4 (Ex.refl H4)).grp ea_nil))
      refine q_dputC ea fun H5 e5 => ?_
      refine ⟨some n, p.ses, p.grp, rfl, fun x H6 nx e6 gx => ?_⟩
      have W6 := W4.ex (e5.trans e6)
      have e46 := e5.trans e6
      refine (ev_var (i := 0) rfl) H6 (Ex.refl H6) _ fun H7 e7 => ?_
      refine (ev_tix (K := K) (i := 1) (j := 2) rfl (ht3 H7 (e4.trans (e46.trans e7))) rfl) H7 (Ex.refl H7) _ fun H8 e8 => ?_
      have W8 := W6.ex (e7.trans e8)
      have e68 := e7.trans e8
      refine ⟨lw, _, rfl, DPut.k (k := Sum.inl new) W8.top (sz_lt (by rw [List.length_map]; omega)), ?_⟩
      have nxf : x ∉ footL lw E := fun m => by
        rcases List.mem_cons.mp m with z | m
        · have := W4.ex e5
          rw [z, this.top] at nx; cases nx
        · obtain ⟨e, me, ee⟩ := List.mem_map.mp m
          obtain ⟨vc', h1, _⟩ := (W4.ex e5).recs e me
          rw [ee, nx] at h1
          cases h1
      obtain ⟨w9, f9⟩ := W8.add (n := new) (r := x) (p := newP (some n) p.ses p.grp) (vc := .non) (e68 _ _ gx) rfl nxf hn
      generalize upd H8 lw (.dK (putK (topK E) (Sum.inl new) (.ref x))) = H9 at w9 f9 ⊢
      have hp : perfE E n p (.fork new) x = (E ++ [(new, x, newP (some n) p.ses p.grp)], toldD (.int new)) := if_neg (by rw [hb]; decide)
      have q0 := q x
      rw [hp] at q0
      have e08 : Ex H H8 := e1.trans (e2.trans (e3.trans (e4.trans (e46.trans e68))))
      have ht9 : H9 t = some (.tup (Cl.fork new).vals) := f9 _ _ (e08 _ _ ht) (.inr (.inl ⟨_, rfl⟩))
      refine s_retG (eg_told (eg_v (ev_tix rfl ht9 (i := 1) rfl) (.int _))) fun v H10 e10 g => q0 v H10 ((Fr.same e08).trans ((f9.more fun b m => by rw [List.mem_singleton.mp m]; exact List.mem_cons_self).trans (Fr.same e10))) (fun b m => ?_) (w9.ex e10) g
      unfold footL at m
      rw [List.map_append, ← List.cons_append] at m
      rcases List.mem_append.mp m with m | m
      · exact .inl m
      · have : b = x := by simpa using m
        rw [this]
        exact .inr (fresh_back (e1.trans (e2.trans (e3.trans (e4.trans e5)))) nx)
    | join who g =>
      refine q_when (et_word (c := false) rfl (show decide (V.str ("join" : Str) = V.str "fork") = false by decide +kernel)) (fun hb => nomatch hb) (fun _ H2 e2 => ?_)
      refine q_when (et_word (c := true) rfl (show decide (V.str ("join" : Str) = V.str "join") = true by decide +kernel)) (fun _ H3 e3 => ?_) (fun hb => nomatch hb)
      have e13 := e2.trans e3
      refine s_retC (ea_cons (ev_var rfl) (ea_cons (ev_var rfl) (ea_cons (ev_tix rfl (e13 _ _ ht1) (i := 1) rfl) (ea_cons (ev_tix rfl (e13 _ _ ht1) (i := 2) rfl) ea_nil)))) fun H4 e4 => ?_
      have e04 := e1.trans (e13.trans e4)
      exact ⟨lw, E, n, who, g, r, p, rfl, W.ex e04, by omega, l, hcode, (q 0).pre e04⟩
    | fin code =>
      refine q_when (et_word (c := false) rfl (show decide (V.str ("end" : Str) = V.str "fork") = false by decide +kernel)) (fun hb => nomatch hb) (fun _ H2 e2 => ?_)
      refine q_when (et_word (c := false) rfl (show decide (V.str ("end" : Str) = V.str "join") = false by decide +kernel)) (fun hb => nomatch hb) (fun _ H3 e3 => ?_)
      refine q_when (et_word (c := true) rfl (show decide (V.str ("end" : Str) = V.str "end") = true by decide +kernel)) (fun _ H4 e4 => ?_) (fun hb => nomatch hb)
      have e14 := e2.trans (e3.trans e4)
      have q0 : RetLW H lw E (if n = 1 then (E, refD "first") else (endE E n p code, toldD .none)).1 (if n = 1 then (E, refD "first") else (endE E n p code, toldD .none)).2 Q := q 0
      refine q_when (et_is (et_test (ev_op (ev_var rfl) ev_c (rv_eq rfl))) (show decide (V.int n = V.int 1) = decide (n = 1) by simp)) (fun hb H5 e5 => ?_) (fun hb H5 e5 => ?_)
      · rw [if_pos (of_decide_eq_true hb)] at q0
        exact s_retG eg_ref fun v H6 e6 g => q0.of W (e1.trans (e14.trans (e5.trans e6))) g
      have hn := of_decide_eq_false hb
      rw [if_neg hn] at q0
      refine q_exC (ea_cons (ev_var rfl) (ea_cons (ev_var rfl) (ea_cons (ev_tix rfl (e5 _ _ (e14 _ _ ht1)) (i := 1) rfl) ea_nil))) fun H6 e6 => ?_
      have e06 := e1.trans (e14.trans (e5.trans e6))
      refine ⟨lw, E, n, code, r, p, rfl, W.ex e06, by omega, l, hn, O, fun H7 f7 W7 => ?_⟩
      have hf : footL lw (endE E n p code) = footL lw E := by unfold endE; rw [set_foot, par_foot]
      exact s_retG (eg_told (eg_v ev_c .non)) fun v H8 e8 g => q0 v H8 ((Fr.same e06).trans (f7.trans (Fr.same e8))) (fun b m => by rw [hf] at m; exact .inl m) (W7.ex e8) g
    | adopt =>
      refine q_when (et_word (c := false) rfl (show decide (V.str ("adopt" : Str) = V.str "fork") = false by decide +kernel)) (fun hb => nomatch hb) (fun _ H2 e2 => ?_)
      refine q_when (et_word (c := false) rfl (show decide (V.str ("adopt" : Str) = V.str "join") = false by decide +kernel)) (fun hb => nomatch hb) (fun _ H3 e3 => ?_)
      refine q_when (et_word (c := false) rfl (show decide (V.str ("adopt" : Str) = V.str "end") = false by decide +kernel)) (fun hb => nomatch hb) (fun _ H4 e4 => ?_)
      have e14 := e2.trans (e3.trans e4)
      have q0 : RetLW H lw E (if (famE E).kids n ≠ [] then (E, refD "children") else (setE E n { p with ado := true }, toldD .none)).1 (if (famE E).kids n ≠ [] then (E, refD "children") else (setE E n { p with ado := true }, toldD .none)).2 Q := q 0
      refine q_when (kidsT _ H4 rfl rfl e14) (fun hb H5 e5 => ?_) (fun hb H5 e5 => ?_)
      · rw [if_pos ((kne hb).mpr rfl)] at q0
        exact s_retG eg_ref fun v H6 e6 g => q0.of W (e1.trans (e14.trans (e5.trans e6))) g
      rw [if_neg (fun z => nomatch (kne hb).mp z)] at q0
      refine q_when (et_word (c := true) rfl (show decide (V.str ("adopt" : Str) = V.str "adopt") = true by decide +kernel)) (fun _ H6 e6 => ?_) (fun hb => nomatch hb)
      have e06 := e1.trans (e14.trans (e5.trans e6))
      refine q_lset (p' := { p with ado := true }) (W.ex e06) l ev_c (ev_var rfl) (fun vc => rfl) rfl fun H7 f7 W7 => ?_
      exact s_retG (eg_told (eg_v ev_c .non)) fun v H8 e8 g => q0 v H8 ((Fr.same e06).trans (f7.trans (Fr.same e8))) (fun b m => by rw [set_foot] at m; exact .inl m) (W7.ex e8) g
    | lead =>
      refine q_when (et_word (c := false) rfl (show decide (V.str ("lead" : Str) = V.str "fork") = false by decide +kernel)) (fun hb => nomatch hb) (fun _ H2 e2 => ?_)
      refine q_when (et_word (c := false) rfl (show decide (V.str ("lead" : Str) = V.str "join") = false by decide +kernel)) (fun hb => nomatch hb) (fun _ H3 e3 => ?_)
      refine q_when (et_word (c := false) rfl (show decide (V.str ("lead" : Str) = V.str "end") = false by decide +kernel)) (fun hb => nomatch hb) (fun _ H4 e4 => ?_)
      have e14 := e2.trans (e3.trans e4)
      have q0 : RetLW H lw E (if (famE E).kids n ≠ [] then (E, refD "children") else if grpB (famE E) n = true then (E, refD "group") else (setE E n { p with ses := n, grp := n }, toldD .none)).1 (if (famE E).kids n ≠ [] then (E, refD "children") else if grpB (famE E) n = true then (E, refD "group") else (setE E n { p with ses := n, grp := n }, toldD .none)).2 Q := q 0
      refine q_when (kidsT _ H4 rfl rfl e14) (fun hb H5 e5 => ?_) (fun hb H5 e5 => ?_)
      · rw [if_pos ((kne hb).mpr rfl)] at q0
        exact s_retG eg_ref fun v H6 e6 g => q0.of W (e1.trans (e14.trans (e5.trans e6))) g
      rw [if_neg (fun z => nomatch (kne hb).mp z)] at q0
      refine q_when (et_word (c := false) rfl (show decide (V.str ("lead" : Str) = V.str "adopt") = false by decide +kernel)) (fun hb => nomatch hb) (fun _ H6 e6 => ?_)
      have e06 := e1.trans (e14.trans (e5.trans e6))
      have lc := el_lockW (te := tVar 5) (t := tTest (tOp rEq (tDGet (tDGet (tVar 0) (tVar 5)) (tC (.str "group"))) (tVar 1))) (σ := [some (.ref lw), some (.int n), some (.ref t), some (.ref r), some (.str Cl.lead.name), none, none, none]) (j := 5) (i0 := 0) (vs := [5]) (W.ex e06) (by omega) rfl (fun e => decide (e.2.2.grp = n)) (fun e => .int e.1) (fun x => rfl) (fun e m G WG => by
          have lfe := lf_at (σ := [some (.ref lw), some (.int n), some (.ref t), some (.ref r), some (.str Cl.lead.name), some (.int e.1), none, none]) WG (ev_var (i := 0) rfl) (ev_var (i := 5) rfl) (in_look W.keys m)
          exact et_is (et_test (ev_op lfe.grp (ev_var rfl) (rv_eq rfl))) (show decide (V.int e.2.2.grp = V.int n) = _ by simp)) (fun e m _ G WG => ev_var rfl)
      have el : (E.filter fun e => decide (e.2.2.grp = n)).map (fun e => V.int e.1) = ((E.filter fun e => decide (e.2.2.grp = n)).map (·.1)).map V.int := by rw [List.map_map]; rfl
      rw [el] at lc
      have eg : (!((E.filter fun e => decide (e.2.2.grp = n)).map (·.1)).isEmpty) = grpB (famE E) n := by
        rw [List.isEmpty_map, filter_empty, Bool.not_not]
        unfold grpB
        rw [fam_any E fun k q => decide (q.grp = n), List.any_map]
        rfl
      refine q_when (et_is (et_test (ev_neL lc)) eg) (fun hb3 H7 e7 => ?_) (fun hb3 H7 e7 => ?_)
      · rw [if_pos hb3] at q0
        exact s_retG eg_ref fun v H8 e8 g => q0.of W (e06.trans (e7.trans e8)) g
      rw [if_neg (by rw [hb3]; decide)] at q0
      have e07 := e06.trans e7
      refine q_tup2 (ev_var rfl) (ev_var rfl) fun H8 e8 => ?_
      have e08 := e07.trans e8
      refine g_lset (p' := { p with ses := n }) id (W.ex e08) l (ev_var rfl) (fun vc => rfl) (fun _ _ h => h) fun H9 f9 W9 => ?_
      refine g_lset (p' := { p with ses := n, grp := n }) id W9 (look_set l) (ev_var rfl) (fun vc => rfl) (fun _ _ h => h) fun H10 f10 W10 => ?_
      rw [set_set] at W10
      rw [set_foot] at f10
      exact s_retG (eg_told (eg_v ev_c .non)) fun v H11 e11 g => q0 v H11 ((Fr.same e08).trans (f9.trans (f10.trans (Fr.same e11)))) (fun b m => by rw [set_foot] at m; exact .inl m) (W10.ex e11) g
end
end K02
set_option Elab.async false
set_option linter.all false
set_option maxRecDepth 100000
set_option maxHeartbeats 4000000
namespace K02
open PySem PySem.Spec PyProof.Rows L2 Evl KB
theorem rdy_at {S : Fam} (nd : S.keys.Nodup) {n : Int} {p : Pr} (h : S.at n = some p) : rdyB S n = (p.who.isSome && (!p.stp && decide (endedK S n (p.who.getD 0) ≠ []))) := by
  have e1 : decide (n ∈ turnK S) = (p.who.isSome && !p.stp) := by
    unfold turnK stpB
    rw [Bool.eq_iff_iff, decide_eq_true_iff, List.mem_filter, mem_waitK nd, h]
    constructor
    · rintro ⟨⟨q, hq, hw⟩, h2⟩
      have e := Option.some.inj hq
      subst e
      rw [hw]
      exact h2
    · intro h2
      rw [Bool.and_eq_true] at h2
      exact ⟨⟨p, rfl, h2.1⟩, h2.2⟩
  unfold rdyB readyB whoOf
  rw [e1, h, Bool.and_assoc]
  rfl
theorem rdy_alive {S : Fam} (nd : S.keys.Nodup) (liv : Liv S) {k : Int} (h : rdyB S k = true) : aliveB S k = true := by
  unfold rdyB at h
  rw [Bool.and_eq_true, decide_eq_true_iff] at h
  exact wait_alive nd liv (List.mem_filter.mp h.1).1
theorem alive_rdy {S : Fam} (nd : S.keys.Nodup) (liv : Liv S) : S.alive.filter (rdyB S) = rdyK S := by
  unfold rdyK
  refine asc_eq (((asc_asc S.keys).filter _).filter _) fun k => ?_
  rw [List.mem_filter, List.mem_filter]
  have e : (k ∈ turnK S ∧ readyB S k = true) ↔ rdyB S k = true := by
    unfold rdyB
    rw [Bool.and_eq_true, decide_eq_true_iff]
  rw [e]
  refine ⟨fun h => h.2, fun h => ⟨List.mem_filter.mpr ⟨mem_asc.mpr ?_, rdy_alive nd liv h⟩, h⟩⟩
  have := rdy_alive nd liv h
  unfold aliveB at this
  cases z : S.at k with
  | none => rw [z] at this; cases this
  | some p => exact at_key z
theorem rdy_fin {S : Fam} (nd : S.keys.Nodup) (liv : Liv S) {D : List Int} {k : Int} (h : rdyB (finS S D) k = true) : rdyB S k = true ∧ k ∉ D := by
  unfold rdyB at h
  rw [Bool.and_eq_true, decide_eq_true_iff] at h
  obtain ⟨h1, h2⟩ := (fin_turn nd liv).mp h.1
  have ng := wait_not_gone nd liv (D := D) (List.mem_filter.mp h1).1
  refine ⟨?_, h2⟩
  have h3 := h.2
  unfold readyB at h3
  rw [fin_who h2 ng, fin_ended h2] at h3
  unfold rdyB readyB
  rw [decide_eq_true h1]
  exact h3
theorem rdy_sett {S : Fam} (nd : S.keys.Nodup) (liv : Liv S) : rdyK (settS S) = [] := by
  rw [List.eq_nil_iff_forall_not_mem]
  intro k m
  rw [mem_rdyK] at m
  obtain ⟨h1, h2⟩ := rdy_fin nd liv m
  exact h2 (mem_rdyK.mpr h1)
theorem ans_put {H : Hp} {ad : Addr} {A : List (Int × PyData)} {n : Int} {v : V} {d : PyData} (h : AnsAt H ad A) (nn : n ∉ A.map (·.1)) (few : A.length < 1000) (g : Tp H v d) : ∃ H', DPut H ad (.int n) v H' ∧ AnsAt H' ad (A ++ [(n, d)]) ∧ Fr [ad] H H' := by
  obtain ⟨vs, a1, a2, a3⟩ := h
  have f : Fr [ad] H (upd H ad (.dK (putK (vs.map fun x => ((Sum.inl x.1 : Key), x.2)) (Sum.inl n) v))) := Fr.upd a1 True.intro (List.mem_singleton.mpr rfl)
  have hl : vs.length = A.length := by
    have := congrArg List.length a2
    rw [List.length_map, List.length_map] at this
    exact this
  have nv : n ∉ vs.map (·.1) := by rw [a2]; exact nn
  refine ⟨_, DPut.k (k := Sum.inl n) a1 (sz_lt (by rw [List.length_map]; omega)), ⟨vs ++ [(n, v)], ?_, by rw [List.map_append, List.map_append, a2]; rfl, fun i x y hx hy => ?_⟩, f⟩
  · rw [upd_same, putK_new _ ?_, List.map_append]
    · rfl
    · clear a1 a2 a3 f hl
      induction vs with
      | nil => rfl
      | cons a vs ih =>
        rw [List.map_cons, List.mem_cons, not_or] at nv
        rw [List.map_cons, valV_neg (fun w => nv.1 (Sum.inl.inj w).symm)]
        exact ih nv.2
  · by_cases z : i < vs.length
    · rw [List.getElem?_append_left z] at hx
      rw [List.getElem?_append_left (by omega)] at hy
      exact (a3 i x y hx hy).fr f
    · rw [List.getElem?_append_right (by omega)] at hx hy
      rw [hl] at hx
      cases hi : i - A.length with
      | zero =>
        rw [hi] at hx hy
        have hx : (n, v) = x := by simpa using hx
        have hy : (n, d) = y := by simpa using hy
        rw [← hx, ← hy]
        exact g.fr f
      | succ j =>
        rw [hi] at hx
        simp at hx
section
variable {K : PySem.W.Frag} {σ : L2.St} {H : Hp} {te ta : TE} {tz : TS} {D : Ends} {v : V} {t : TT}
theorem s_forNLn {tu : TS} {tl : TE} {j : Nat} {xs : List V} (h : EvL tl σ H xs) (Pv : Addr → Nat → L2.St → Hp → Prop) (h0 : ∀ p H1, H p = none → Ex H H1 → H1 p = some (.lst xs) → Pv p 0 σ H1) (hl : ∀ p i σ' H', i ≤ xs.length → Pv p i σ' H' → SqL K H' p xs)
    (hs : ∀ p i x σ' H', xs[i]? = some x → Pv p i σ' H' → tu { D with nx := Pv p (i + 1), ct := Pv p (i + 1), bk := D.nx } (σ'.set j (some x)) H') (hd : ∀ p σ' H', Pv p xs.length σ' H' → D.nx σ' H') : tFor (iList K tl) (gName j) tu D σ H := s_forNL h Pv h0 hl hs hd
theorem s_asgC {i : Nat} {sp : Sp} {tx : TA} {vs : List V} (h : EvA tx σ H vs) (k : ∀ H1, Ex H H1 → sp (vs ++ []) H1 (fun v H2 => D.nx (σ.set i (some v)) H2) E0) : tAsg (tCall sp [] E0 tx) (gName i) D σ H := h H (Ex.refl H) _ fun H1 e1 => k H1 e1
theorem q_ifC {i : Nat} {sp : Sp} {tx : TA} {vs : List V} (h : EvT t σ H true) (hx : EvA tx σ H vs) (k : ∀ H1, Ex H H1 → sp (vs ++ []) H1 (fun v H2 => tz D (σ.set i (some v)) H2) E0) : tSeq (tAsg (tIf t (tCall sp [] E0 tx) te) (gName i)) tz D σ H :=
  h H (Ex.refl H) _ fun H1 e1 => iteT (hx H1 e1 _ fun H2 e2 => k H2 (e1.trans e2))
end
abbrev sLSettled : Stmt := topS 106
abbrev nLSettled : List Str := ["_law_world", "_law_told_here", "_law_moved", "_law_n", "_law_proc_here", "_law_answer"]
theorem scLSettled : FnScope nLSettled ["_law_world"] (defScope sLSettled) := ⟨rfl, rfl, rfl, by decide +kernel, rfl, by decide +kernel, by decide +kernel⟩
def spLSettled : Sp := fun vs H Q _ => ∃ lw E, vs = [.ref lw] ∧ LW H lw E ∧ E.length < 64 ∧ Inv (famE E) ∧
  ∀ a H' E', H a = none → Fr (footL lw E) H H' → (∀ b ∈ footL lw E', b ∈ footL lw E) → LW H' lw E' → famE E' = settS (famE E) → AnsAt H' a (ansA (famE E)) → Q (.ref a) H'
theorem fin_len (S : Fam) (D : List Int) : (finS S D).length ≤ S.length := by
  unfold finS
  rw [List.length_map]
  exact List.length_filter_le _ _
theorem fam_len (E : List Ent) : (famE E).length = E.length := List.length_map _
section
variable {P : Program} {w : World} {K : PySem.W.Frag} {mg : Str → Option Value} {base : Heap} {f : Addr} {fd : FuncData}
theorem ok_LSettled (F : Fun K "_law_settled" "_law_settled" sLSettled f fd) (G__law_alive : Kf P w K mg base 1 "_law_alive" ["_law_world"] spLAlive) (G__law_waited : Kf P w K mg base 2 "_law_waited" ["_law_world", "_law_n", "_law_who"] spLWaited) : FnOk P w K mg base CX0 3 f fd ["_law_world"] spLSettled := by
  refine F.ok scLSettled (fun vs H Q E h => ?_) (fun cdv A outer s H vs Q E hr h => ?_)
  · obtain ⟨lw, E, rfl, _⟩ := h
    rfl
  · obtain ⟨lw, E, rfl, W, few, I, q⟩ := h
    have nd := scLSettled.nd
    have hu := hu_of hr
    refine ⟨_, (pss_cons (ps_par (i := 1) (j := 2) (by rfl) nd rfl rfl (by decide) rfl rfl (pa_cons pe_dnewK (pa_cons pe_bl pa_nil)) (by rfl))
      (pss_cons (ps_while PassesOwn.never (pt_val (pv 2)) (pss_cons (ps_set (i := 2) nd rfl (by first | exact .inl rfl | exact .inr rfl) pe_bl)
      (pss_one (ps_for PassesOwn.never rfl (pi_list (pe_fn G__law_alive (hr.mono (by decide)) (pa_cons (pv 0) pa_nil))) (pg_name (i := 3) nd rfl (by first | exact .inl rfl | exact .inr rfl)) (pss_cons (ps_par (i := 4) (j := 5) (by rfl) nd rfl rfl (by decide) rfl rfl (pa_cons (pe_dget hu (pv 0) (pv 3) (fun _ _ => rfl)) (pa_cons pe_non pa_nil)) (by rfl))
      (pss_cons (ps_if (PW.pt (pw_and (pt_cmp (pc_notN (pe_dget hu (pv 4) pe_str (fun _ _ => rfl)))) (pw_and1 (pt_not (pt_val (pe_dget hu (pv 4) pe_str (fun _ _ => rfl))))))) (pss_one (ps_set (i := 5) nd rfl (by first | exact .inl rfl | exact .inr rfl) (pe_fn G__law_waited (hr.mono (by decide)) (pa_cons (pv 0) (pa_cons (pv 3) (pa_cons (pe_ix ix_seq (pe_dget hu (pv 4) pe_str (fun _ _ => rfl)) pe_int (fun _ _ => rfl)) pa_nil)))))) pss_nil)
      (pss_one (ps_if (pt_cmp (pc_notN (pv 5))) (pss_cons (ps_asg (pe_tup (pa_cons (pv 5) (pa_cons pe_bl pa_nil))) (pg_tup (by rfl) (pgs_cons (pg_sub (pv 1) (pv 3) (set_dict hu)) (pgs_cons (pg_name (i := 2) nd rfl (by first | exact .inl rfl | exact .inr rfl)) pgs_nil))))
      (pss_one (ps_dput hu (pv 4) pe_str pe_non rfl))) pss_nil))))))))
      (pss_one (ps_ret (pv 1))))), ?_⟩
    intro a na
    refine ⟨.ref a, .bl true, rfl, ?_⟩
    show tSeq _ _ _ [some (.ref lw), some (.ref a), some (.bl true), none, none, none] (upd H a (.dK []))
    have x0 : Ex H (upd H a (.dK [])) := Ex.new na
    have naf : a ∉ footL lw E := fun m => by
      rcases List.mem_cons.mp m with z | m
      · rw [z, W.top] at na; cases na
      · obtain ⟨e, me, ee⟩ := List.mem_map.mp m
        obtain ⟨vc', h1, _⟩ := W.recs e me
        rw [ee, na] at h1
        cases h1
    have ga : AnsAt (upd H a (.dK [])) a [] := ⟨[], upd_same, rfl, fun i x y h => by simp at h⟩
    generalize upd H a (.dK []) = H0 at x0 ga ⊢
    have nd0 := I.ord.nd
    refine q_while (fun m σ G => ∃ E1 A1 b x3 x4 x5, σ = [some (.ref lw), some (.ref a), some (.bl b), x3, x4, x5] ∧ Fr (footL lw E) H G ∧ (∀ y ∈ footL lw E1, y ∈ footL lw E) ∧ LW G lw E1 ∧ AnsAt G a A1 ∧
      ((m = 2 ∧ b = true ∧ famE E1 = famE E ∧ A1 = []) ∨ (m = 1 ∧ famE E1 = settS (famE E) ∧ A1 = ansA (famE E)) ∨ (m = 0 ∧ b = false ∧ famE E1 = settS (famE E) ∧ A1 = ansA (famE E)))) 2 ⟨E, [], true, none, none, none, rfl, Fr.same x0, fun _ m => m, W.ex x0, ga, .inl ⟨rfl, rfl, rfl, rfl⟩⟩ ?_
    rintro m σ G ⟨E1, A1, b, x3, x4, x5, rfl, fG, sG, WG, aG, hm⟩
    refine ⟨b, et_B (ev_var rfl), fun hb G1 eg1 => ?_, fun hb G1 eg1 => ?_⟩
    · subst hb
      have fam1 : (famE E1 = famE E ∧ A1 = [] ∧ m = 2) ∨ (famE E1 = settS (famE E) ∧ rdyK (famE E1) = [] ∧ A1 = ansA (famE E) ∧ m = 1) := by
        rcases hm with ⟨h1, _, h2, h3⟩ | ⟨h1, h2, h3⟩ | ⟨_, h1, _⟩
        · exact .inl ⟨h2, h3, h1⟩
        · exact .inr ⟨h2, by rw [h2]; exact rdy_sett nd0 I.liv, h3, h1⟩
        · cases h1
      have I1 : Inv (famE E1) := by
        rcases fam1 with h | h
        · rw [h.1]; exact I
        · rw [h.1]; exact inv_sett I
      have few1 : E1.length < 64 := by
        rw [← fam_len]
        rcases fam1 with h | h
        · rw [h.1, fam_len]; exact few
        · rw [h.1]
          have := sett_len (famE E)
          rw [fam_len] at this
          omega
      have A0 : A1 = [] ∨ rdyK (famE E1) = [] := fam1.imp (fun h => h.2.1) (fun h => h.2.1)
      have nd1 := I1.ord.nd
      have lenA : A1.length < 65 := by
        rcases fam1 with h | h
        · rw [h.2.1]; decide
        · rw [h.2.2.1]
          unfold ansA rdyK
          rw [List.length_map]
          have h1 := len_asc ((turnK (famE E)).filter fun k => readyB (famE E) k)
          have h2 := List.length_filter_le (fun k => readyB (famE E) k) (turnK (famE E))
          have h3 : (turnK (famE E)).length ≤ (waitK (famE E)).length := List.length_filter_le _ _
          have h4 := wait_le (famE E)
          rw [fam_len] at h4
          omega
      generalize hS : famE E1 = S at fam1 I1 A0 nd1
      refine ⟨fun σ2 H2 => ∃ E2 A2 x3 x4 x5, σ2 = [some (.ref lw), some (.ref a), some (.bl (!(rdyK S).isEmpty)), x3, x4, x5] ∧ Fr (footL lw E) H H2 ∧ (∀ y ∈ footL lw E2, y ∈ footL lw E) ∧ LW H2 lw E2 ∧ AnsAt H2 a A2 ∧ famE E2 = settS S ∧ A2 = A1 ++ ansA S, ?_, ?_⟩
      · rintro σ2 H2 ⟨E2, A2, y3, y4, y5, rfl, f2, s2, W2, a2, h2, h3⟩
        rcases fam1 with ⟨c1, c2, c3⟩ | ⟨c1, c2, c3, c4⟩
        · exact ⟨1, by omega, E2, A2, _, y3, y4, y5, rfl, f2, s2, W2, a2, .inr (.inl ⟨rfl, by rw [h2, c1], by rw [h3, c2, c1]; rfl⟩)⟩
        · refine ⟨0, by omega, E2, A2, _, y3, y4, y5, rfl, f2, s2, W2, a2, .inr (.inr ⟨rfl, by rw [c2]; rfl, ?_, ?_⟩)⟩
          · rw [h2]
            unfold settS
            rw [c2, fin_nil, c1]
            rfl
          · rw [h3, c3]
            unfold ansA
            rw [c2]
            simp
      refine q_asg ev_c fun G2 eg2 => ?_
      have W2 := WG.ex (eg1.trans eg2)
      have F2 : Fr (footL lw E) H G2 := fG.trans (Fr.same (eg1.trans eg2))
      have a2 : AnsAt G2 a A1 := aG.fr (F := []) (Fr.same (eg1.trans eg2)) List.not_mem_nil
      have eAl : (famE E1).alive = S.alive := by rw [hS]
      have c1 : SpL spLAlive ([.ref lw] ++ []) G2 (S.alive.map V.int) := fun H2 e2 Q q E' => ⟨lw, E1, rfl, W2.ex e2, few1, by rw [eAl]; exact q⟩
      have ndal : S.alive.Nodup := (((asc_asc S.keys).filter _).imp fun h => Int.ne_of_lt h)
      have foots : ∀ y ∈ footL lw E1, ∃ o, G2 y = some o := fun y m => by
        rcases List.mem_cons.mp m with z | m
        · rw [z]; exact ⟨_, W2.top⟩
        · obtain ⟨e, me, ee⟩ := List.mem_map.mp m
          obtain ⟨vc', h1, _⟩ := W2.recs e me
          rw [← ee]
          exact ⟨_, h1⟩
      refine s_forNLn (el_call (ea_cons (ev_var rfl) ea_nil) c1) (fun p i σ G => ∃ E2 x3 x4 x5, σ = [some (.ref lw), some (.ref a), some (.bl (!((S.alive.take i).filter (rdyB S)).isEmpty)), x3, x4, x5] ∧ Fr (footL lw E) H G ∧ (∀ y ∈ footL lw E2, y ∈ footL lw E1) ∧ LW G lw E2 ∧ AnsAt G a (A1 ++ ((S.alive.take i).filter (rdyB S)).map fun k => (k, ansOf S k)) ∧ famE E2 = finS S ((S.alive.take i).filter (rdyB S)) ∧ G p = some (.lst (S.alive.map V.int)) ∧ p ≠ a ∧ p ∉ footL lw E1) (fun p G np eG gp => ?_) (fun p i σ' G _ h => by
          obtain ⟨_, _, _, _, _, _, _, _, _, _, h, _⟩ := h
          exact SqL.of h) ?_ ?_
      · have npa : p ≠ a := fun z => by
          obtain ⟨vs, h1, _⟩ := a2
          rw [← z, np] at h1
          cases h1
        refine ⟨E1, _, _, _, rfl, F2.trans (Fr.same eG), fun _ m => m, W2.ex eG, ?_, ?_, gp, npa, fun m => ?_⟩
        · rw [List.take_zero]
          show AnsAt G a (A1 ++ [])
          rw [List.append_nil]
          exact a2.fr (F := []) (Fr.same eG) List.not_mem_nil
        · rw [List.take_zero]
          show famE E1 = finS S []
          rw [fin_nil, hS]
        · obtain ⟨o, h1⟩ := foots p m
          rw [np] at h1
          cases h1
      · rintro p i x σ' G hx ⟨E2, y3, y4, y5, rfl, fG2, sG2, WG2, aG2, famG, gp, npa, npf⟩
        rw [List.getElem?_map] at hx
        obtain ⟨n, en, rfl⟩ := Option.map_eq_some_iff.mp hx
        have mn := List.mem_of_getElem? en
        have tk : (S.alive.take (i + 1)).filter (rdyB S) = (S.alive.take i).filter (rdyB S) ++ (if rdyB S n = true then [n] else []) := by
          rw [List.take_add_one, en, List.filter_append]
          show _ ++ [n].filter (rdyB S) = _
          rw [List.filter_cons]
          rfl
        have nD : n ∉ (S.alive.take i).filter (rdyB S) := fun m => by
          have m1 := (List.mem_filter.mp m).1
          obtain ⟨j, hj⟩ := List.getElem?_of_mem m1
          have lj := (List.getElem?_eq_some_iff.mp hj).1
          rw [List.length_take] at lj
          rw [List.getElem?_take_of_lt (by omega)] at hj
          have := (List.getElem?_inj (List.getElem?_eq_some_iff.mp hj).1 ndal).mp (hj.trans en.symm)
          omega
        have hal : aliveB S n = true := (List.mem_filter.mp mn).2
        have nG : n ∉ goneK S ((S.alive.take i).filter (rdyB S)) := fun m => by
          obtain ⟨j, _, _, _, ha⟩ := gone_at m
          rw [hal] at ha
          cases ha
        have hat : ∃ pr, S.at n = some pr := by
          unfold aliveB at hal
          cases z : S.at n with
          | none => rw [z] at hal; cases hal
          | some pr => exact ⟨pr, rfl⟩
        obtain ⟨pr, hpr⟩ := hat
        have hfin : (famE E2).at n = some pr := by
          rw [famG, fin_at, if_neg nG, hpr]
          show some (clr _ n pr) = some pr
          unfold clr
          rw [if_neg nD]
        obtain ⟨r, l2⟩ := at_look hfin
        have few2 : E2.length < 64 := by
          have h1 := fin_len S ((S.alive.take i).filter (rdyB S))
          rw [← famG, fam_len, ← hS, fam_len] at h1
          omega
        show tSeq _ _ _ [some (.ref lw), some (.ref a), some (.bl (!((S.alive.take i).filter (rdyB S)).isEmpty)), some (.int n), y4, y5] G
        refine q_parV (ev_lrec WG2.rd (ev_var rfl) (ev_var rfl) l2) ev_c fun G3 e3 => ?_
        show tSeq _ _ _ [some (.ref lw), some (.ref a), some (.bl (!((S.alive.take i).filter (rdyB S)).isEmpty)), some (.int n), some (.ref r), some .non] G3
        have W3 := WG2.ex e3
        obtain ⟨vc, hr3, hc3⟩ := W3.rec1 l2
        have lf : ∀ (y5 : Option V), LF (tVar 4) [some (.ref lw), some (.ref a), some (.bl (!((S.alive.take i).filter (rdyB S)).isEmpty)), some (.int n), some (.ref r), y5] G3 pr := fun y5 => lf_of (ev_var rfl) hr3 hc3
        have lc : ∀ (y5 : Option V), Ev (tDGet (tVar 4) (tC (.str "call"))) [some (.ref lw), some (.ref a), some (.bl (!((S.alive.take i).filter (rdyB S)).isEmpty)), some (.int n), some (.ref r), y5] G3 vc := fun y5 => ev_dgetS (ev_var rfl) ev_c hr3 rfl
        have rdy := rdy_at nd1 hpr
        -- nothing to tell
        have skip : rdyB S n = false → ∀ (G4 : Hp), Ex G3 G4 → ∃ E2 x3 x4 x5, [some (V.ref lw), some (.ref a), some (.bl (!((S.alive.take i).filter (rdyB S)).isEmpty)), some (.int n), some (.ref r), some .non] = [some (.ref lw), some (.ref a), some (.bl (!((S.alive.take (i + 1)).filter (rdyB S)).isEmpty)), x3, x4, x5] ∧ Fr (footL lw E) H G4 ∧ (∀ y ∈ footL lw E2, y ∈ footL lw E1) ∧ LW G4 lw E2 ∧ AnsAt G4 a (A1 ++ ((S.alive.take (i + 1)).filter (rdyB S)).map fun k => (k, ansOf S k)) ∧ famE E2 = finS S ((S.alive.take (i + 1)).filter (rdyB S)) ∧ G4 p = some (.lst (S.alive.map V.int)) ∧ p ≠ a ∧ p ∉ footL lw E1 := fun hr G4 e4 => by
          have tk2 : (S.alive.take (i + 1)).filter (rdyB S) = (S.alive.take i).filter (rdyB S) := by rw [tk, hr, if_neg (by decide), List.append_nil]
          rw [tk2]
          have e34 := e3.trans e4
          exact ⟨E2, _, _, _, rfl, fG2.trans (Fr.same e34), sG2, WG2.ex e34, aG2.fr (F := []) (Fr.same e34) List.not_mem_nil, famG, e34 _ _ gp, npa, npf⟩
        cases hb0 : (pr.who.isSome && !pr.stp) with
        | false =>
          refine q_when (b := false) (et_is (et_and (et_is (et_B (ev_notN (lc _))) (show (!decide (vc = .non)) = pr.who.isSome by rw [call_non hc3]; cases pr.who <;> rfl)) fun _ => et_not (et_B (lf _).stp)) hb0) (fun h => nomatch h) (fun _ G4 e4 => ?_)
          refine s_when (b := false) (et_is (et_B (ev_notN (ev_var (v := .non) rfl))) (by simp)) (fun h => nomatch h) (fun _ G5 e5 => ?_)
          exact skip (by rw [rdy, ← Bool.and_assoc, hb0]; rfl) G5 (e4.trans e5)
        | true =>
          obtain ⟨hb1, hb2⟩ := Bool.and_eq_true_iff.mp hb0
          obtain ⟨who, hw⟩ := Option.isSome_iff_exists.mp hb1
          have hc4 := hc3
          rw [hw] at hc4
          obtain ⟨tc, rfl, htc⟩ := hc4
          rw [hw] at rdy
          have rdy : rdyB S n = decide (endedK S n who ≠ []) := by
            rw [rdy, hb2]
            show (true && (true && decide (endedK S n who ≠ []))) = _
            simp
          refine q_when (b := true) (et_is (et_and (et_is (et_B (ev_notN (lc _))) (show (!decide ((V.ref tc) = .non)) = pr.who.isSome by rw [hw]; simp)) fun _ => et_not (et_B (lf _).stp)) hb0) (fun _ G4 e4 => ?_) (fun h => nomatch h)
          refine s_asgC (ea_cons (ev_var rfl) (ea_cons (ev_var rfl) (ea_cons (ev_op ((lc _).mono e4) ev_c (rv_ixq (i := 1) (.inr (e4 _ _ htc)) rfl)) ea_nil))) fun G4' e4' => ?_
          have e4 := e4.trans e4'
          have W4 := W3.ex e4
          have kf : (famE E2).kids n = S.kids n := by rw [famG]; exact fin_kids nD
          have ef : endedK (famE E2) n who = endedK S n who := by rw [famG]; exact fin_ended nD who
          refine ⟨lw, E2, n, who, rfl, W4, few2, fun hk => ?_, fun hk he => ?_, fun he => ?_⟩
          · exfalso
            obtain ⟨k, mk, hk2⟩ := I1.wok (n, pr) (at_mem hpr) who hw
            have : k ∈ kidsW (famE E2) n who := by
              unfold kidsW
              rw [kf]
              refine List.mem_filter.mpr ⟨mk, decide_eq_true ?_⟩
              rcases hk2 with z | z
              · rw [z]; exact List.mem_cons_self
              · rw [z]; exact List.mem_cons_of_mem _ (List.mem_singleton.mpr rfl)
            rw [hk] at this
            cases this
          · intro G5 e5
            refine s_when (b := false) (et_is (et_B (ev_notN (ev_var (v := .non) rfl))) (by simp)) (fun h => nomatch h) (fun _ G6 e6 => ?_)
            rw [ef] at he
            exact skip (by rw [rdy, he]; rfl) G6 (e4.trans (e5.trans e6))
          · intro v G5 f5 s5 W5 g5
            have hwt := fam_wait E2 n who
            rw [ef] at he
            cases hz : endedK S n who with
            | nil => exact absurd hz he
            | cons c rest =>
              have hwe : waitE E2 n who = (dropE E2 c, toldD (.tuple [.int c, optD (codeOf (famE E2) c)])) := by
                unfold waitE
                rw [ef, hz]
              rw [hwe] at s5 W5 g5
              have hr : rdyB S n = true := by rw [rdy, hz]; rfl
              have mr : n ∈ rdyK S := mem_rdyK.mpr hr
              have hA1 : A1 = [] := A0.resolve_right fun z => by rw [z] at mr; cases mr
              subst hA1
              have mc : c ∈ endedK S n who := by rw [hz]; exact List.mem_cons_self
              have hcn : c ≠ n := fun z => by
                have := (mem_ended mc).2
                rw [z, hal] at this
                cases this
              have g1 : gone1 S n = some c := by
                unfold gone1 whoOf
                rw [hpr]
                show (endedK S n ((pr.who).getD 0)).head? = some c
                rw [hw]
                show (endedK S n who).head? = some c
                rw [hz]
                rfl
              have cG : c ∉ goneK S ((S.alive.take i).filter (rdyB S)) := kid_not_gone nD (mem_ended mc).1
              have hans : toldD (.tuple [.int c, optD (codeOf (famE E2) c)]) = ansOf S n := by
                unfold ansOf
                rw [g1, famG, fin_code cG]
              rw [hans] at g5
              have g5 : Tp G5 v (ansOf S n) := g5
              have hv : decide (v = .non) = false := by
                have : ansOf S n = toldD (.tuple [.int c, optD (codeOf S c)]) := by unfold ansOf; rw [g1]
                rw [this] at g5
                cases g5
                simp
              refine s_when (b := true) (et_is (et_B (ev_notN (ev_var (v := v) rfl))) (by rw [hv]; rfl)) (fun _ G6 e6 => ?_) (fun h => nomatch h)
              have F6 : Fr (footL lw E) H G6 := fG2.trans ((Fr.same (e3.trans e4)).trans ((f5.more fun y m => sG _ (sG2 y m)).trans (Fr.same e6)))
              have W6 := W5.ex e6
              have a6 : AnsAt G6 a (([] : List (Int × PyData)) ++ ((S.alive.take i).filter (rdyB S)).map fun k => (k, ansOf S k)) := aG2.fr (F := footL lw E) ((Fr.same (e3.trans e4)).trans ((f5.more fun y m => sG _ (sG2 y m)).trans (Fr.same e6))) naf
              have nk : n ∉ (([] : List (Int × PyData)) ++ ((S.alive.take i).filter (rdyB S)).map fun k => (k, ansOf S k)).map (·.1) := by
                rw [List.nil_append, List.map_map]
                intro m
                obtain ⟨k, mk, ek⟩ := List.mem_map.mp m
                have ek : k = n := ek
                rw [ek] at mk
                exact nD mk
              have lk : (([] : List (Int × PyData)) ++ ((S.alive.take i).filter (rdyB S)).map fun k => (k, ansOf S k)).length < 1000 := by
                rw [List.nil_append, List.length_map]
                have h1 := List.length_filter_le (rdyB S) (S.alive.take i)
                have h2 : (S.alive.take i).length ≤ S.alive.length := by rw [List.length_take]; omega
                have h3 : S.alive.length ≤ S.sorted.length := List.length_filter_le _ _
                have h4 := len_asc S.keys
                have h5 : S.keys.length = S.length := List.length_map _
                have h6 : S.length = E1.length := by rw [← hS, fam_len]
                have h7 : S.sorted.length ≤ S.keys.length := h4
                omega
              refine q_tup2 (ev_var rfl) ev_c fun G7 e7 => ?_
              refine (ev_var (i := 1) rfl) G7 (Ex.refl G7) _ fun G7a e7a => (ev_var (i := 3) rfl) G7a (Ex.refl G7a) _ fun G7b e7b => ?_
              have e67 : Ex G6 G7b := e7.trans (e7a.trans e7b)
              obtain ⟨G8, hput, a8, f8⟩ := ans_put (a6.fr (F := []) (Fr.same e67) List.not_mem_nil) nk lk ((g5.ex e6).ex e67)
              have W7 := W6.ex e67
              have naf2 : a ∉ footL lw (dropE E2 c) := fun m => naf (sG _ (sG2 _ (by
                rcases s5 a m with z | z
                · exact z
                · exfalso
                  obtain ⟨vs, h1, _⟩ := aG2
                  have := (e3.trans e4) _ _ h1
                  rw [z] at this
                  cases this)))
              have W8 : LW G8 lw (dropE E2 c) := W7.fr f8 fun y m z => naf2 (by rw [← List.mem_singleton.mp z]; exact m)
              have l8 : (dropE E2 c).lookup n = some (r, pr) := by rw [look_drop (fun z => hcn z.symm)]; exact l2
              refine (show ∃ a' H', V.ref a = .ref a' ∧ DPut G7b a' (.int n) v H' ∧ _ from ⟨a, G8, rfl, hput, ?_⟩)
              show sDPut (tVar 4) (tC (.str "call")) (tC .non) _ [some (.ref lw), some (.ref a), some (.bl true), some (.int n), some (.ref r), some v] G8
              obtain ⟨vc8, hr8, _⟩ := W8.rec1 l8
              refine s_dput (kvs := recKV pr vc8) (ky := Sum.inr "call") (by show 7 < 100000; omega) ev_c (ev_var rfl) ev_c hr8 fun G9 e9 => ?_
              have W9 := W8.ex e9
              obtain ⟨w10, f10⟩ := W9.set (p' := { pr with who := none }) (vc := .non) l8 rfl
              have hput2 : putK (recKV pr vc8) (Sum.inr "call") .non = recKV { pr with who := none } .non := rfl
              rw [hput2]
              have nra : a ∉ [r] := fun z => naf2 (by rw [List.mem_singleton.mp z]; exact LW.foot l8)
              have s8 : ∀ y ∈ footL lw (dropE E2 c), y ∈ footL lw E2 := fun y m => by
                rcases List.mem_cons.mp m with z | mb
                · rw [z]; exact List.mem_cons_self
                · obtain ⟨e, me, rfl⟩ := List.mem_map.mp mb
                  exact List.mem_cons_of_mem _ (List.mem_map_of_mem (f := fun e : Ent => e.2.1) (List.mem_filter.mp me).1)
              have rf : r ∈ footL lw E1 := sG2 _ (s8 _ (LW.foot l8))
              rw [if_pos hr] at tk
              refine ⟨setE (dropE E2 c) n { pr with who := none }, some (.int n), some (.ref r), some v, ?_, ?_, fun y m => ?_, w10, ?_, ?_, ?_, npa, npf⟩
              · rw [tk]
                have : ((S.alive.take i).filter (rdyB S) ++ [n]).isEmpty = false := by simp
                rw [this]
                rfl
              · have h1 := (F6.trans (Fr.same e67)).comp f8 fun b m => by rw [List.mem_singleton.mp m]; exact .inr na
                exact (h1.trans (Fr.same e9)).comp f10 fun b m => by rw [List.mem_singleton.mp m]; exact .inl (sG _ rf)
              · rw [set_foot] at m
                exact sG2 _ (s8 _ m)
              · have h1 := (a8.fr (F := []) (Fr.same e9) List.not_mem_nil).fr f10 nra
                rw [tk, List.map_append, ← List.append_assoc]
                exact h1
              · rw [clear_set W9.keys l8, fam_clear, fam_drop, famG, tk]
                exact fin_step g1
              · have h1 : G7b p = some (.lst (S.alive.map V.int)) := e67 _ _ (e6 _ _ (f5 _ _ ((e3.trans e4) _ _ gp) (.inl fun m => npf (sG2 _ m))))
                have h2 : G8 p = some (.lst (S.alive.map V.int)) := f8 _ _ h1 (.inl fun z => npa (List.mem_singleton.mp z))
                exact f10 _ _ (e9 _ _ h2) (.inl fun z => npf (by rw [List.mem_singleton.mp z]; exact rf))
      · rintro p σ' G ⟨E2, y3, y4, y5, rfl, fG2, sG2, WG2, aG2, famG, gp, npa, npf⟩
        rw [List.length_map, List.take_length, alive_rdy nd1 I1.liv] at famG aG2
        rw [List.length_map, List.take_length, alive_rdy nd1 I1.liv]
        exact ⟨E2, A1 ++ ansA S, y3, y4, y5, rfl, fG2, fun y m => sG _ (sG2 y m), WG2, aG2, famG, rfl⟩
    · subst hb
      rcases hm with ⟨_, h1, _⟩ | ⟨_, h2, h3⟩ | ⟨_, _, h2, h3⟩
      · cases h1
      · exact s_ret (ev_var rfl) fun G2 e2 => q a G2 E1 na (fG.trans (Fr.same (eg1.trans e2))) sG (WG.ex (eg1.trans e2)) h2 (by rw [← h3]; exact aG.fr (F := []) (Fr.same (eg1.trans e2)) List.not_mem_nil)
      · exact s_ret (ev_var rfl) fun G2 e2 => q a G2 E1 na (fG.trans (Fr.same (eg1.trans e2))) sG (WG.ex (eg1.trans e2)) h2 (by rw [← h3]; exact aG.fr (F := []) (Fr.same (eg1.trans e2)) List.not_mem_nil)
end
end K02
set_option Elab.async false
set_option linter.all false
set_option maxRecDepth 100000
set_option maxHeartbeats 4000000
namespace K02
open PySem PySem.Spec PyProof.Rows L2 Evl KB
section
variable {K : PySem.W.Frag} {σ : L2.St} {H : Hp} {te ta tb : TE} {tz : TS} {D : Ends} {v : V} {d : PyData}
/-- a, b = x, {} -/
theorem q_parVD {i j : Nat} (h1 : Ev ta σ H v) (k : ∀ a H1, H a = none → Ex H H1 → H1 a = some (.dK []) → tz D ((σ.set i (some v)).set j (some (.ref a))) H1) : tSeq (tPar i j (tCons ta (tCons tDNewK tNil))) tz D σ H :=
  h1 H (Ex.refl H) _ fun H1 e1 a na => ⟨v, .ref a, rfl, k a _ (fresh_back e1 na) (e1.trans (Ex.new na)) upd_same⟩
theorem q_dputG {d : Addr} {kvs : List (Key × V)} {ky : Key} {td tk : TE} {dd : PyData} (hz : kvs.length < 100000) (hv : EvG te σ H dd) (hd : Ev td σ H (.ref d)) (hk : Ev tk σ H (kV ky)) (e : H d = some (.dK kvs)) (k : ∀ v H1, Ex H H1 → Tp H1 v dd → tz D σ (upd H1 d (.dK (putK kvs ky v)))) : tSeq (sDPut td tk te) tz D σ H :=
  s_dputG (D := { D with nx := tz D }) hz hv hd hk e k
end
theorem del_foot (lw : Addr) (E : List Ent) (n : Int) (p : Pr) (k : Kd) : footL lw (delE E n p k) = footL lw E := by
  cases k with
  | fin =>
    show footL lw (endE E n p (-1)) = _
    unfold endE
    rw [set_foot, par_foot]
  | _ => exact set_foot _ _ _ _
abbrev sLSent : Stmt := topS 105
abbrev nLSent : List Str := ["_law_world", "_law_kind", "_law_n", "_law_proc_here", "_law_told_here"]
theorem scLSent : FnScope nLSent ["_law_world", "_law_kind", "_law_n"] (defScope sLSent) := ⟨rfl, rfl, rfl, by decide +kernel, rfl, by decide +kernel, by decide +kernel⟩
def spLSent : Sp := fun vs H Q _ => ∃ lw E k n r p, vs = [.ref lw, .str (Kd.word k), .int n] ∧ LW H lw E ∧ E.length < 64 ∧ E.lookup n = some (r, p) ∧ n ≠ 1 ∧ Ord (famE E) ∧ ∀ a H', H a = none → Fr (footL lw E) H H' → LW H' lw (delE E n p k) → AnsAt H' a (delA n p k) → Q (.ref a) H'
section
variable {P : Program} {w : World} {K : PySem.W.Frag} {mg : Str → Option Value} {base : Heap} {f : Addr} {fd : FuncData}
theorem ok_LSent (F : Fun K "_law_sent" "_law_sent" sLSent f fd) (G__law_ended : Kf P w K mg base 2 "_law_ended" ["_law_world", "_law_n", "_law_code"] spLEnded) : FnOk P w K mg base CX0 3 f fd ["_law_world", "_law_kind", "_law_n"] spLSent := by
  refine F.ok scLSent (fun vs H Q E h => ?_) (fun cdv A outer s H vs Q E hr h => ?_)
  · obtain ⟨lw, E, k, n, r, p, rfl, _⟩ := h
    rfl
  · obtain ⟨lw, E, k, n, r, p, rfl, W, few, l, hn, O, q⟩ := h
    have nd := scLSent.nd
    have hu := hu_of hr
    refine ⟨_, (pss_cons (ps_par (i := 3) (j := 4) (by rfl) nd rfl rfl (by decide) rfl rfl (pa_cons (pe_dget hu (pv 0) (pv 2) (fun _ _ => rfl)) (pa_cons pe_dnewK pa_nil)) (by rfl))
      (pss_cons (ps_if (pt_cmpR op_eq (pv 1) pe_str (nomark _)) (pss_one (ps_expr (pe_fn G__law_ended (hr.mono (by decide)) (pa_cons (pv 0) (pa_cons (pv 2) (pa_cons (pe_un un_neg pe_int) pa_nil)))))) (pss_one (ps_if (pt_cmpR op_eq (pv 1) pe_str (nomark _)) (pss_cons (ps_if (pt_cmp (pc_notN (pe_dget hu (pv 3) pe_str (fun _ _ => rfl)))) (pss_one (ps_dput hu (pv 4) (pv 2) (pe_tup (pa_cons pe_str pa_nil)) rfl)) pss_nil)
      (pss_one (ps_dput hu (pv 3) pe_str pe_non rfl))) (pss_one (ps_dput hu (pv 3) pe_str (pe_cmpR op_eq (pv 1) pe_str (nomark _)) rfl)))))
      (pss_one (ps_ret (pv 4))))), ?_⟩
    refine q_parVD (ev_lrec W.rd (ev_var rfl) (ev_var rfl) l) fun a H1 na e1 ga => ?_
    show tSeq _ _ _ [some (.ref lw), some (.str k.word), some (.int n), some (.ref r), some (.ref a)] H1
    have naf : a ∉ footL lw E := fun m => by
      rcases List.mem_cons.mp m with z | m
      · rw [z, W.top] at na; cases na
      · obtain ⟨e, me, ee⟩ := List.mem_map.mp m
        obtain ⟨vc', h1, _⟩ := W.recs e me
        rw [ee, na] at h1
        cases h1
    have nra : a ≠ r := fun z => naf (by rw [z]; exact LW.foot l)
    have W1 := W.ex e1
    have tst : ∀ (x : Str) (G : Hp), EvT (tTest (tOp rEq (tVar 1) (tC (.str x)))) [some (.ref lw), some (.str k.word), some (.int n), some (.ref r), some (.ref a)] G (decide (V.str k.word = V.str x)) := fun x G => et_test (ev_op (ev_var rfl) ev_c (rv_eq rfl))
    have an0 : ∀ {G : Hp}, G a = some (.dK []) → AnsAt G a [] := fun g => ⟨[], g, rfl, fun i x y h => by simp at h⟩
    cases k with
    | fin =>
      refine q_if (et_is (tst _ _) (show decide (V.str ("end" : Str) = V.str "end") = true by decide +kernel)) (fun _ H2 e2 => ?_) (fun hb => nomatch hb)
      refine s_exC (ea_cons (ev_var rfl) (ea_cons (ev_var rfl) (ea_cons (ev_un ev_c ru_neg) ea_nil))) fun H3 e3 => ⟨lw, E, n, -1, r, p, rfl, W1.ex (e2.trans e3), few, l, hn, O, fun H4 f4 W4 => ?_⟩
      have e13 := e1.trans (e2.trans e3)
      have g4 := f4 _ _ ((e2.trans e3) _ _ ga) (.inl naf)
      exact s_ret (ev_var rfl) fun H5 e5 => q a H5 na ((Fr.same e13).trans (f4.trans (Fr.same e5))) (W4.ex e5) (an0 (e5 _ _ g4))
    | wake =>
      refine q_if (et_is (tst _ _) (show decide (V.str ("wake" : Str) = V.str "end") = false by decide +kernel)) (fun hb => nomatch hb) (fun _ H2 e2 => ?_)
      refine s_if (et_is (tst _ _) (show decide (V.str ("wake" : Str) = V.str "wake") = true by decide +kernel)) (fun _ H3 e3 => ?_) (fun hb => nomatch hb)
      have e13 := e2.trans e3
      have W3 := W1.ex e13
      obtain ⟨vc, hr3, hc3⟩ := W3.rec1 l
      have lc : Ev (tDGet (tVar 3) (tC (.str "call"))) [some (.ref lw), some (.str (Kd.word .wake)), some (.int n), some (.ref r), some (.ref a)] H3 vc := ev_dgetS (ev_var rfl) ev_c hr3 rfl
      refine q_when (et_is (et_B (ev_notN lc)) (show (!decide (vc = .non)) = p.who.isSome by rw [call_non hc3]; cases p.who <;> rfl)) (fun hb H4 e4 => ?_) (fun hb H4 e4 => ?_)
      · have q : ∀ a H', H a = none → Fr (footL lw E) H H' → LW H' lw (setE E n { p with who := none }) → AnsAt H' a (if p.who.isSome = true then [(n, wokenD)] else []) → Q (.ref a) H' := q
        rw [if_pos hb] at q
        have e04 := e1.trans (e13.trans e4)
        refine s_dputG (ky := Sum.inl n) (kvs := []) (by show 0 < 100000; omega) (eg_t1 (eg_v ev_c (.str _))) (ev_var rfl) (ev_var rfl) ((e13.trans e4) _ _ ga) fun v H5 e5 g5 => ?_
        have f6 : Fr [a] H5 (upd H5 a (.dK (putK [] (Sum.inl n) v))) := Fr.upd ((e13.trans (e4.trans e5)) _ _ ga) True.intro (List.mem_singleton.mpr rfl)
        have g6 : AnsAt (upd H5 a (.dK (putK [] (Sum.inl n) v))) a [(n, wokenD)] := ⟨[(n, v)], upd_same, rfl, fun i x y hx hy => by
          cases i with
          | zero =>
            have hx : (n, v) = x := by simpa using hx
            have hy : (n, wokenD) = y := by simpa using hy
            rw [← hx, ← hy]
            exact g5.fr f6
          | succ i => simp at hx⟩
        have W6 : LW (upd H5 a (.dK (putK [] (Sum.inl n) v))) lw E := (W.ex (e04.trans e5)).fr f6 fun b m z => naf (by rw [← List.mem_singleton.mp z]; exact m)
        have F6 : Fr (footL lw E) H (upd H5 a (.dK (putK [] (Sum.inl n) v))) := (Fr.same (e04.trans e5)).comp f6 fun b m => by rw [List.mem_singleton.mp m]; exact .inr na
        show sDPut (tVar 3) (tC (.str "call")) (tC .non) _ [some (.ref lw), some (.str (Kd.word .wake)), some (.int n), some (.ref r), some (.ref a)] (upd H5 a (.dK (putK [] (Sum.inl n) v)))
        generalize upd H5 a (.dK (putK [] (Sum.inl n) v)) = H6 at g6 W6 F6 ⊢
        obtain ⟨vc6, hr6, _⟩ := W6.rec1 l
        refine s_dput (kvs := recKV p vc6) (ky := Sum.inr "call") (by show 7 < 100000; omega) ev_c (ev_var rfl) ev_c hr6 fun H7 e7 => ?_
        obtain ⟨w8, f8⟩ := (W6.ex e7).set (p' := { p with who := none }) (vc := .non) l rfl
        have hput2 : putK (recKV p vc6) (Sum.inr "call") .non = recKV { p with who := none } .non := rfl
        rw [hput2]
        exact s_ret (ev_var rfl) fun H9 e9 => q a H9 na ((F6.trans (Fr.same e7)).trans ((f8.more fun b m => by rw [List.mem_singleton.mp m]; exact LW.foot l).trans (Fr.same e9))) (w8.ex e9) (((g6.fr (F := []) (Fr.same e7) List.not_mem_nil).fr f8 (fun m => nra (List.mem_singleton.mp m))).fr (F := []) (Fr.same e9) List.not_mem_nil)
      · have q : ∀ a H', H a = none → Fr (footL lw E) H H' → LW H' lw (setE E n { p with who := none }) → AnsAt H' a (if p.who.isSome = true then [(n, wokenD)] else []) → Q (.ref a) H' := q
        rw [if_neg (by rw [hb]; decide)] at q
        have e04 := e1.trans (e13.trans e4)
        have W6 := W.ex e04
        obtain ⟨vc6, hr6, _⟩ := W6.rec1 l
        refine s_dput (kvs := recKV p vc6) (ky := Sum.inr "call") (by show 7 < 100000; omega) ev_c (ev_var rfl) ev_c hr6 fun H7 e7 => ?_
        obtain ⟨w8, f8⟩ := (W6.ex e7).set (p' := { p with who := none }) (vc := .non) l rfl
        have hput2 : putK (recKV p vc6) (Sum.inr "call") .non = recKV { p with who := none } .non := rfl
        rw [hput2]
        have g8 := f8 _ _ ((e13.trans (e4.trans e7)) _ _ ga) (.inl fun m => nra (List.mem_singleton.mp m))
        exact s_ret (ev_var rfl) fun H9 e9 => q a H9 na ((Fr.same (e04.trans e7)).trans ((f8.more fun b m => by rw [List.mem_singleton.mp m]; exact LW.foot l).trans (Fr.same e9))) (w8.ex e9) (an0 (e9 _ _ g8))
    | stop =>
      refine q_if (et_is (tst _ _) (show decide (V.str ("stop" : Str) = V.str "end") = false by decide +kernel)) (fun hb => nomatch hb) (fun _ H2 e2 => ?_)
      refine s_if (et_is (tst _ _) (show decide (V.str ("stop" : Str) = V.str "wake") = false by decide +kernel)) (fun hb => nomatch hb) (fun _ H3 e3 => ?_)
      have e13 := e2.trans e3
      refine s_lset (p' := { p with stp := true }) (W1.ex e13) l (v := .bl true) (ev_is (ev_op (ev_var rfl) ev_c (rv_eq rfl)) (show V.bl (decide (V.str ("stop" : Str) = V.str "stop")) = .bl true by decide +kernel)) (ev_var rfl) (fun vc => rfl) rfl fun G4 f4 W4 => ?_
      have g4 := f4 _ _ (e13 _ _ ga) (.inl naf)
      exact s_ret (ev_var rfl) fun H5 e5 => q a H5 na ((Fr.same (e1.trans e13)).trans (f4.trans (Fr.same e5))) (W4.ex e5) (an0 (e5 _ _ g4))
    | go =>
      refine q_if (et_is (tst _ _) (show decide (V.str ("go" : Str) = V.str "end") = false by decide +kernel)) (fun hb => nomatch hb) (fun _ H2 e2 => ?_)
      refine s_if (et_is (tst _ _) (show decide (V.str ("go" : Str) = V.str "wake") = false by decide +kernel)) (fun hb => nomatch hb) (fun _ H3 e3 => ?_)
      have e13 := e2.trans e3
      refine s_lset (p' := { p with stp := false }) (W1.ex e13) l (v := .bl false) (ev_is (ev_op (ev_var rfl) ev_c (rv_eq rfl)) (show V.bl (decide (V.str ("go" : Str) = V.str "stop")) = .bl false by decide +kernel)) (ev_var rfl) (fun vc => rfl) rfl fun G4 f4 W4 => ?_
      have g4 := f4 _ _ (e13 _ _ ga) (.inl naf)
      exact s_ret (ev_var rfl) fun H5 e5 => q a H5 na ((Fr.same (e1.trans e13)).trans (f4.trans (Fr.same e5))) (W4.ex e5) (an0 (e5 _ _ g4))
end
end K02
set_option Elab.async false
set_option linter.all false
set_option maxRecDepth 100000
set_option maxHeartbeats 4000000
namespace K02
open PySem PySem.Spec PyProof.Rows L2 Evl KB
theorem kidsW_nil {S : Fam} {n who : Int} : kidsW S n who = [] ↔ S.kids n = [] ∨ who ∉ 0 :: S.kids n := by
  unfold kidsW
  rw [List.filter_eq_nil_iff]
  constructor
  · intro h
    cases z : S.kids n with
    | nil => exact .inl rfl
    | cons a l =>
      refine .inr fun m => ?_
      rcases List.mem_cons.mp m with y | y
      · exact h a (by rw [z]; exact List.mem_cons_self) (decide_eq_true (by rw [y]; exact List.mem_cons_self))
      · exact h who (by rw [z]; exact y) (decide_eq_true (List.mem_cons_of_mem _ (List.mem_singleton.mpr rfl)))
  · rintro (h | h) a m
    · rw [h] at m; cases m
    · intro y
      have y := of_decide_eq_true y
      rcases List.mem_cons.mp y with y | y
      · exact h (by rw [y]; exact List.mem_cons_self)
      · exact h (List.mem_cons_of_mem _ (by rw [List.mem_singleton.mp y]; exact m))
section
variable {K : PySem.W.Frag} {σ : L2.St} {H : Hp} {te ta tb : TE} {tz : TS} {D : Ends} {v a : V} {d : PyData} {t : TT}
theorem q_parG {i j : Nat} (h1 : Ev ta σ H a) (h2 : EvG tb σ H d) (k : ∀ v H1, Ex H H1 → Tp H1 v d → tz D ((σ.set i (some a)).set j (some v)) H1) : tSeq (tPar i j (tCons ta (tCons tb tNil))) tz D σ H :=
  h1 H (Ex.refl H) _ fun H1 e1 => h2 H1 e1 _ fun v H2 e2 g => ⟨a, v, rfl, k v H2 (e1.trans e2) g⟩
theorem eg_if {b : Bool} (h : EvT t σ H b) (h1 : b = true → EvG ta σ H d) (h2 : b = false → EvG tb σ H d) : EvG (tIf t ta tb) σ H d := fun H1 e1 Q q => h H1 e1 _ fun H2 e2 => by
  cases b with
  | true => exact iteT (h1 rfl H2 (e1.trans e2) Q fun v H3 e3 g => q v H3 (e2.trans e3) g)
  | false => exact iteF (h2 rfl H2 (e1.trans e2) Q fun v H3 e3 g => q v H3 (e2.trans e3) g)
theorem q_asgG {i : Nat} (h : EvG te σ H d) (k : ∀ v H1, Ex H H1 → Tp H1 v d → tz D (σ.set i (some v)) H1) : tSeq (tAsg te (gName i)) tz D σ H := h H (Ex.refl H) _ k
end
section
variable {K : PySem.W.Frag} {σ : L2.St} {H : Hp} {ta : TE} {tz : TS} {D : Ends} {v : V}
/-- a, b = x, {} by a tuple -/
theorem q_tupVD {i j : Nat} (h1 : Ev ta σ H v) (k : ∀ a H1, H a = none → Ex H H1 → H1 a = some (.dK []) → tz D ((σ.set i (some v)).set j (some (.ref a))) H1) : tSeq (tAsg (tTup (tCons ta (tCons tDNewK tNil))) (gTup K 2 (gCons (gName i) (gCons (gName j) gNil)))) tz D σ H :=
  h1 H (Ex.refl H) _ fun H1 e1 a na => ⟨by show 2 ≤ sizeLine; decide, fun t nt => ⟨t, [v, .ref a], rfl, SqT.of upd_same, rfl, v, [.ref a], rfl, .ref a, [], rfl, rfl, k a _ (fresh_back e1 na) ((e1.trans (Ex.new na)).trans (Ex.new nt)) ((Ex.new nt) _ _ upd_same)⟩⟩
end
section
variable {K : PySem.W.Frag} {σ : L2.St} {H : Hp} {ta : TE} {D : Ends} {d : PyData}
theorem s_sent {tx : TA} {i j : Nat} {lw r : Addr} {E : List Ent} {k : Kd} {who : Int} {q : Pr} (h1 : EvG ta σ H d) (h2 : ∀ H1, Ex H H1 → EvA tx σ H1 [.ref lw, .str k.word, .int who]) (W : LW H lw E) (few : E.length < 64) (l : E.lookup who = some (r, q)) (hn : who ≠ 1) (O : Ord (famE E))
    (kk : ∀ v a H', H a = none → Fr (footL lw E) H H' → LW H' lw (delE E who q k) → AnsAt H' a (delA who q k) → Tp H' v d → D.nx ((σ.set i (some v)).set j (some (.ref a))) H') : tAsg (tTup (tCons ta (tCons (tCall spLSent [] E0 tx) tNil))) (gTup K 2 (gCons (gName i) (gCons (gName j) gNil))) D σ H :=
  h1 H (Ex.refl H) _ fun v H1 e1 g => h2 H1 e1 H1 (Ex.refl H1) _ fun H2 e2 => ⟨lw, E, k, who, r, q, rfl, W.ex (e1.trans e2), few, l, hn, O, fun a H3 na f3 W3 an => ⟨by show 2 ≤ sizeLine; decide, fun t nt => ⟨t, [v, .ref a], rfl, SqT.of upd_same, rfl, v, [.ref a], rfl, .ref a, [], rfl, rfl, by
    have e4 : Ex H3 (upd H3 t (.tup [v, .ref a])) := Ex.new nt
    exact kk v a _ (fresh_back (e1.trans e2) na) ((Fr.same (e1.trans e2)).trans (f3.trans (Fr.same e4))) (W3.ex e4) (an.fr (F := []) (Fr.same e4) List.not_mem_nil) (((g.ex e2).fr f3).ex e4)⟩⟩⟩
end
/-- sorted answers, as they are told -/
theorem ansA_keys (S : Fam) : (ansA S).map (·.1) = rdyK S := by
  unfold ansA
  rw [List.map_map]
  exact List.map_id _
theorem rdy_len (S : Fam) : (rdyK S).length ≤ S.length := by
  unfold rdyK
  have h1 := len_asc ((turnK S).filter fun k => readyB S k)
  have h2 := List.length_filter_le (fun k => readyB S k) (turnK S)
  have h3 : (turnK S).length ≤ (waitK S).length := List.length_filter_le _ _
  have h4 := wait_le S
  omega
/-- a pair whose second part is a list that is new, or stood where the footprint was -/
def NewL (F : List Addr) (H H' : Hp) (u : V) : Prop := ∃ t va la, u = .ref t ∧ H' t = some (.tup [va, .ref la]) ∧ (la ∈ F ∨ H la = none)
theorem inl_nodup : ∀ {ks : List Int}, ks.Nodup → (ks.map (Sum.inl (β := Str))).Nodup := fun {ks} h => by
  unfold List.Nodup at h ⊢
  rw [List.pairwise_map]
  exact h.imp fun ne z => ne (Sum.inl.inj z)
/-- two dicts of answers become one -/
theorem ans_upd {H : Hp} {a b : Addr} {A0 A1 : List (Int × PyData)} (ha : AnsAt H a A0) (hb : AnsAt H b A1) (nd : ((A0 ++ A1).map (·.1)).Nodup) (few : A0.length + A1.length ≤ 1000) :
    ∃ kvs more, H a = some (.dK kvs) ∧ H b = some (.dK more) ∧ kvs.length + more.length ≤ sizeLine ∧ ((kvs ++ more).map (·.1)).Nodup ∧ AnsAt (upd H a (.dK (kvs ++ more))) a (A0 ++ A1) ∧ Fr [a] H (upd H a (.dK (kvs ++ more))) := by
  obtain ⟨vs, a1, a2, a3⟩ := ha
  obtain ⟨ws, b1, b2, b3⟩ := hb
  have l1 : vs.length = A0.length := by have := congrArg List.length a2; rw [List.length_map, List.length_map] at this; exact this
  have l2 : ws.length = A1.length := by have := congrArg List.length b2; rw [List.length_map, List.length_map] at this; exact this
  have f : Fr [a] H (upd H a (.dK ((vs.map fun x => ((Sum.inl x.1 : Key), x.2)) ++ ws.map fun x => ((Sum.inl x.1 : Key), x.2)))) := Fr.upd a1 True.intro (List.mem_singleton.mpr rfl)
  refine ⟨_, _, a1, b1, ?_, ?_, ⟨vs ++ ws, ?_, ?_, fun i x y hx hy => ?_⟩, f⟩
  · rw [List.length_map, List.length_map]
    have : (1000 : Nat) ≤ sizeLine := by decide
    omega
  · have e : ((vs.map fun x => ((Sum.inl x.1 : Key), x.2)) ++ ws.map fun x => ((Sum.inl x.1 : Key), x.2)).map (·.1) = ((A0 ++ A1).map (·.1)).map Sum.inl := by
      rw [List.map_append, List.map_append, List.map_append, ← a2, ← b2, List.map_map, List.map_map, List.map_map, List.map_map]
      rfl
    rw [e]
    exact inl_nodup nd
  · rw [upd_same, List.map_append]
  · rw [List.map_append, List.map_append, a2, b2]
  · by_cases z : i < vs.length
    · rw [List.getElem?_append_left z] at hx
      rw [List.getElem?_append_left (by omega)] at hy
      exact (a3 i x y hx hy).fr f
    · rw [List.getElem?_append_right (by omega)] at hx hy
      rw [l1] at hx
      exact (b3 _ x y hx hy).fr f
section
variable {K : PySem.W.Frag} {mg : Str → Option Value}
/-- the end of do: settled, and told -/
theorem do_tail {lw a : Addr} {E E1 : List Ent} {A0 : List (Int × PyData)} {x1 x2 x3 x6 : Option V} {v : V} {d : PyData} {H0 H : Hp} {D : Ends} (F : Fr (footL lw E) H0 H) (fo : ∀ b ∈ footL lw E1, b ∈ footL lw E ∨ H0 b = none) (W : LW H lw E1) (lz : A0.length + E1.length < 64) (I : Inv (famE E1)) (g : Tp H v d)
    (na : H0 a = none) (naf : a ∉ footL lw E1) (an : AnsAt H a A0) (nda : ((A0 ++ ansA (famE E1)).map (·.1)).Nodup)
    (k : ∀ u H' E', Fr (footL lw E) H0 H' → (∀ b ∈ footL lw E', b ∈ footL lw E ∨ H0 b = none) → LW H' lw E' → famE E' = settS (famE E1) → Dx H' u (.tuple [d, .list (ansD (A0 ++ ansA (famE E1)))]) → NewL (footL lw E) H0 H' u → D.rt u H') :
    tSeq (tDrop (tBM K "dict" rUpdate (tVar 4) (tCons (tCall spLSettled [] E0 (tCons (tVar 0) tNil)) tNil))) (tRet (tTup (tCons (tVar 5) (tCons (tLc (iList K (tCB rSrtD (tCons (tVar 4) tNil))) (gName 7) tYes (tTup (tCons (tVar 7) (tCons (tDGet (tVar 4) (tVar 7)) tNil))) [7]) tNil)))) D [some (.ref lw), x1, x2, x3, some (.ref a), some v, x6, none] H := by
  obtain ⟨vs0, h0, _⟩ := id an
  refine ⟨_, rfl, .inr (.inr (.inl ⟨rfl, .inl ⟨_, h0⟩⟩)), ?_⟩
  have hA : EvA (tCons (tVar 0) tNil) [some (.ref lw), x1, x2, x3, some (.ref a), some v, x6, none] H [.ref lw] := ea_cons (ev_var rfl) ea_nil
  refine (show tCons (tVar 0) tNil _ H (fun vs H1 => spLSettled (vs ++ []) H1 _ E0) from hA H (Ex.refl H) _ fun H1 e1 => ?_)
  refine ⟨lw, E1, rfl, W.ex e1, by omega, I, fun b H2 E2 nb f2 s2 W2 fam2 an2 => ?_⟩
  have an1 : AnsAt H2 a A0 := (an.fr (F := []) (Fr.same e1) List.not_mem_nil).fr f2 naf
  have rl := rdy_len (famE E1)
  rw [fam_len] at rl
  have lA : (ansA (famE E1)).length = (rdyK (famE E1)).length := by unfold ansA; rw [List.length_map]
  have nab : a ≠ b := fun z => by
    obtain ⟨vs, h, _⟩ := an
    rw [z] at h
    rw [e1 _ _ h] at nb
    cases nb
  obtain ⟨kvs, more, h1, h2, h3, h4, h5, f3⟩ := ans_upd an1 an2 nda (by omega)
  refine ⟨a, b, kvs, more, rfl, rfl, nab, h1, h2, h3, h4, ?_⟩
  have naf2 : a ∉ footL lw E2 := fun m => naf (s2 a m)
  have W3 := W2.fr f3 fun c m z => naf2 (by rw [← List.mem_singleton.mp z]; exact m)
  have F3 : Fr (footL lw E) H0 (upd H2 a (.dK (kvs ++ more))) := ((F.trans (Fr.same e1)).comp f2 fo).comp f3 fun b m => by rw [List.mem_singleton.mp m]; exact .inr na
  have g3 : Tp (upd H2 a (.dK (kvs ++ more))) v d := ((g.ex e1).fr f2).fr f3
  generalize upd H2 a (.dK (kvs ++ more)) = H3 at h5 f3 W3 F3 g3 ⊢
  obtain ⟨vs, a1, a2, a3⟩ := h5
  have key : (vs.map fun x => ((Sum.inl x.1 : Key), x.2)).map (·.1) = ((A0 ++ ansA (famE E1)).map (·.1)).map Sum.inl := by
    rw [← a2, List.map_map, List.map_map]
    rfl
  have lens : EvL (tCB rSrtD (tCons (tVar 4) tNil)) [some (.ref lw), x1, x2, x3, some (.ref a), some v, x6, none] H3 ((asc ((A0 ++ ansA (famE E1)).map (·.1))).map V.int) :=
    el_srtD (td := tVar 4) (ev_var rfl) (.inl a1) key nda (by rw [List.length_map, List.length_append]; omega)
  have lc := en_lcN (K := K) (t := tYes) (te := tTup (tCons (tVar 7) (tCons (tDGet (tVar 4) (tVar 7)) tNil))) (j := 7) (vs := [7]) V.int (fun _ => true) (fun k => .tuple [.int k, ((A0 ++ ansA (famE E1)).lookup k).getD .none]) lens (by
      have := len_asc ((A0 ++ ansA (famE E1)).map (·.1))
      rw [List.length_map, List.length_append] at this
      omega) (fun x => rfl) (fun k mk G e => et_yes) (fun k mk _ G e => by
    obtain ⟨u, d', h1, h2, h3⟩ := ans_look vs _ a2 a3 k (mem_asc.mp mk)
    rw [h2]
    exact em_tup (ea_cons (ev_var rfl) (ea_cons (ev_dget (ev_var rfl) (ev_var rfl) (e _ _ a1) h1) ea_nil)) (.cons (.int _) (.cons (h3.ex e).dx .nil)) (by show 2 ≤ 100000; omega))
  rw [Evl.filter_all] at lc
  refine st_ret (st_tup (st_cons (st_var rfl (st_cons (lc H3 (Ex.refl H3) _ fun la H4 nla e4 g4 => st_nil ⟨by show 2 ≤ sizeLine; decide, fun t nt => ?_⟩)))))
  have e5 := e4.trans (Ex.new (o := .tup [v, .ref la]) nt)
  exact k (.ref t) _ E2 (F3.trans (Fr.same e5)) (fun b m => fo b (s2 b m)) (W3.ex e5) fam2 (.tup upd_same (.cons (g3.dx.mono e5) (.cons (g4.mono (Ex.new nt)) .nil))) ⟨t, v, la, rfl, upd_same, fr_back F3 nla⟩
end
theorem mem_alive {S : Fam} {k : Int} : k ∈ S.alive ↔ aliveB S k = true := by
  unfold Fam.alive
  rw [List.mem_filter]
  refine ⟨fun h => h.2, fun h => ⟨mem_asc.mpr ?_, h⟩⟩
  unfold aliveB at h
  cases z : S.at k with
  | none => rw [z] at h; cases h
  | some p => exact at_key z
theorem perfs_bothS {S : Fam} {n : Int} {p : Pr} {c : Cs} : (perfA S c).length + (perfPS S n p c).1.length ≤ S.length + 1 := by
  cases c with
  | fam c =>
    have := (perf_len S n p c).1
    show 0 + (perfP S n p c).1.length ≤ _
    omega
  | send k who =>
    have h1 := perfA_len S (.send k who)
    have h2 : (perfPS S n p (.send k who)).1.length = S.length := send_len S k who
    omega
abbrev sLDo : Stmt := topS 107
abbrev nLDo : List Str := ["_law_world", "_law_n", "_law_call", "_law_word", "_law_told_here", "_law_answer", "_law_proc_here", "_law_k"]
theorem scLDo : FnScope nLDo ["_law_world", "_law_n", "_law_call"] (defScope sLDo) := ⟨rfl, rfl, rfl, by decide +kernel, rfl, by decide +kernel, by decide +kernel⟩
def LDoQ (H : Hp) (lw : Addr) (E : List Ent) (n : Int) (c : Cs) (Q : VK) : Prop := ∀ p, (famE E).at n = some p → ∀ v H' E', Fr (footL lw E) H H' → (∀ b ∈ footL lw E', b ∈ footL lw E ∨ H b = none) → LW H' lw E' → famE E' = settS (perfPS (famE E) n p c).1 →
  Dx H' v (.tuple [(perfPS (famE E) n p c).2, .list (ansD (perfA (famE E) c ++ ansA (perfPS (famE E) n p c).1))]) → NewL (footL lw E) H H' v → Q v H'
def spLDo : Sp := fun vs H Q _ => ∃ lw E n t c, vs = [.ref lw, .int n, .ref t] ∧ H t = some (.tup (Cs.vals c)) ∧ LW H lw E ∧ E.length < 63 ∧ Inv (famE E) ∧ (∀ new, c = .fam (.fork new) → 1 ≤ new) ∧
  ((famE E).runs n = false → RetT (.tuple [.str "not running", .int n]) H Q) ∧ ((famE E).runs n = true → LDoQ H lw E n c Q)
section
variable {P : Program} {w : World} {K : PySem.W.Frag} {mg : Str → Option Value} {base : Heap} {f : Addr} {fd : FuncData}
theorem ok_LDo (F : Fun K "_law_do" "_law_do" sLDo f fd) (G__law_settled : Kf P w K mg base 3 "_law_settled" ["_law_world"] spLSettled) (G__law_about : Kf P w K mg base 1 "_law_about" ["_law_world", "_law_who"] spLAbout) (G__law_waited : Kf P w K mg base 2 "_law_waited" ["_law_world", "_law_n", "_law_who"] spLWaited) (G__law_family : Kf P w K mg base 3 "_law_family" ["_law_world", "_law_n", "_law_call"] spLFamily) (G__law_runs : Kf P w K mg base 1 "_law_runs" ["_law_world", "_law_n"] spLRuns) (G__law_alive : Kf P w K mg base 1 "_law_alive" ["_law_world"] spLAlive) (G__law_sent : Kf P w K mg base 3 "_law_sent" ["_law_world", "_law_kind", "_law_n"] spLSent) (m_sorted : mg "sorted" = none) : FnOk P w K mg base CX0 4 f fd ["_law_world", "_law_n", "_law_call"] spLDo := by
  refine F.ok scLDo (fun vs H Q E h => ?_) (fun cdv A outer s H vs Q E hr h => ?_)
  · obtain ⟨lw, E, n, t, c, rfl, _⟩ := h
    rfl
  · obtain ⟨lw, E, n, t, c, rfl, ht, W, few, I, hfork, q1, q2⟩ := h
    have nd := scLDo.nd
    have hu := hu_of hr
    refine ⟨_, (pss_cons (ps_if (pt_not (pt_val (pe_fn G__law_runs (hr.mono (by decide)) (pa_cons (pv 0) (pa_cons (pv 1) pa_nil))))) (pss_one (ps_ret (pe_tup (pa_cons pe_str (pa_cons (pv 1) pa_nil))))) pss_nil)
      (pss_cons (ps_asg (pe_tup (pa_cons (pe_ix ix_seq (pv 2) pe_int (fun _ _ => rfl)) (pa_cons pe_dnewK pa_nil))) (pg_tup (by rfl) (pgs_cons (pg_name (i := 3) nd rfl (by first | exact .inl rfl | exact .inr rfl)) (pgs_cons (pg_name (i := 4) nd rfl (by first | exact .inl rfl | exact .inr rfl)) pgs_nil))))
      (pss_cons (ps_if (pt_cmpR op_eq (pv 3) pe_str (nomark _)) (pss_cons (ps_set (i := 5) nd rfl (by first | exact .inl rfl | exact .inr rfl) (pe_tup (pa_cons pe_str (pa_cons (pe_ifExp (pt_cmpR op_eq (pe_ix ix_seq (pv 2) pe_int (fun _ _ => rfl)) pe_int (nomark _)) pe_str pe_str) pa_nil))))
      (pss_one (ps_if (PW.pt (pw_and (pt_cmpR op_ne (pe_ix ix_seq (pv 2) pe_int (fun _ _ => rfl)) pe_int (nomark _)) (pw_and1 (pt_cmpR op_in_seq (pe_ix ix_seq (pv 2) pe_int (fun _ _ => rfl)) (pe_fn G__law_alive (hr.mono (by decide)) (pa_cons (pv 0) pa_nil)) (by rfl))))) (pss_one (ps_asg (pe_tup (pa_cons (pe_tup (pa_cons pe_str (pa_cons pe_non pa_nil))) (pa_cons (pe_fn G__law_sent (hr.mono (by decide)) (pa_cons (pv 0) (pa_cons (pe_ix ix_seq (pv 2) pe_int (fun _ _ => rfl)) (pa_cons (pe_ix ix_seq (pv 2) pe_int (fun _ _ => rfl)) pa_nil)))) pa_nil))) (pg_tup (by rfl) (pgs_cons (pg_name (i := 5) nd rfl (by first | exact .inl rfl | exact .inr rfl)) (pgs_cons (pg_name (i := 4) nd rfl (by first | exact .inl rfl | exact .inr rfl)) pgs_nil))))) pss_nil))) (pss_one (ps_if (pt_cmpR op_eq (pv 3) pe_str (nomark _)) (pss_one (ps_set (i := 5) nd rfl (by first | exact .inl rfl | exact .inr rfl) (pe_fn G__law_about (hr.mono (by decide)) (pa_cons (pv 0) (pa_cons (pe_ix ix_seq (pv 2) pe_int (fun _ _ => rfl)) pa_nil))))) (pss_one (ps_if (pt_cmpR op_eq (pv 3) pe_str (nomark _)) (pss_cons (ps_set (i := 5) nd rfl (by first | exact .inl rfl | exact .inr rfl) (pe_fn G__law_waited (hr.mono (by decide)) (pa_cons (pv 0) (pa_cons (pv 1) (pa_cons (pe_ix ix_seq (pv 2) pe_int (fun _ _ => rfl)) pa_nil)))))
      (pss_one (ps_if (pt_cmp (pc_isN (pv 5))) (pss_cons (ps_par (i := 6) (j := 5) (by rfl) nd rfl rfl (by decide) rfl rfl (pa_cons (pe_dget hu (pv 0) (pv 1) (fun _ _ => rfl)) (pa_cons (pe_ifExp (pt_cmpR op_eq (pv 1) pe_int (nomark _)) (pe_tup (pa_cons pe_str (pa_cons pe_str pa_nil))) (pe_tup (pa_cons pe_str pa_nil))) pa_nil)) (by rfl))
      (pss_one (ps_dput hu (pv 6) pe_str (pe_ifExp (pt_cmpR op_ne (pv 1) pe_int (nomark _)) (pv 2) pe_non) rfl))) pss_nil))) (pss_one (ps_set (i := 5) nd rfl (by first | exact .inl rfl | exact .inr rfl) (pe_fn G__law_family (hr.mono (by decide)) (pa_cons (pv 0) (pa_cons (pv 1) (pa_cons (pv 2) pa_nil)))))))))))
      (pss_cons (ps_expr (pe_bm PySem.F.plainAttrs_dict PySem.F.slot_dict_update PySem.F.type_dict_update mt_update (pv 4) (pa_cons (pe_fn G__law_settled (hr.mono (by decide)) (pa_cons (pv 0) pa_nil)) pa_nil)))
      (pss_one (ps_ret (pe_tup (pa_cons (pv 5) (pa_cons (pe_lc (own := [("_law_k", 7)]) (g := gName 7) (tt := tYes) (te := tTup (tCons (tVar 7) (tCons (tDGet (tVar 4) (tVar 7)) tNil))) rfl nd (pi_list (pe_callB (cr_srtD rfl) (by rfl) m_sorted (by decide +kernel) (pa_cons (pv 4) pa_nil))) (blkOk_by (N := nLDo) (sc := defScope sLDo) (by decide +kernel)) (fun _ _ _ _ _ => (pg_name (i := 7) nd rfl (by first | exact .inl rfl | exact .inr rfl))) (fun _ _ _ _ _ => pts_nil) (fun _ _ _ _ _ => (pe_tup (pa_cons (pv 7) (pa_cons (pe_dget hu (pv 4) (pv 7) (fun _ _ => rfl)) pa_nil))))) pa_nil))))))))), ?_⟩
    have c1 : SpV spLRuns ([.ref lw, .int n] ++ []) H (.bl ((famE E).runs n)) := fun H2 e2 Q q E' => ⟨lw, E, n, rfl, W.ex e2, q⟩
    refine q_when (et_not (et_B (ev_call (ea_cons (ev_var rfl) (ea_cons (ev_var rfl) ea_nil)) c1))) (fun hb H1 e1 => ?_) (fun hb H1 e1 => ?_)
    · exact s_retG (eg_t2 (eg_v ev_c (.str _)) (eg_v (ev_var rfl) (.int _))) fun v H2 e2 g => q1 (by simpa using hb) v H2 (e1.trans e2) g
    have hrun : (famE E).runs n = true := by simpa using hb
    have q2 := q2 hrun
    have hat : ∃ p, (famE E).at n = some p := by
      unfold Fam.runs at hrun
      cases z : (famE E).at n with
      | none => rw [z] at hrun; cases hrun
      | some p => exact ⟨p, rfl⟩
    obtain ⟨p, hp⟩ := hat
    have q2 := q2 p hp
    obtain ⟨r, l⟩ := at_look hp
    have hcw : p.code = none ∧ p.who = none := by
      unfold Fam.runs at hrun
      rw [hp] at hrun
      have hrun : (p.code.isNone && !p.stp && p.who.isNone) = true := hrun
      simp only [Bool.and_eq_true, Option.isNone_iff_eq_none] at hrun
      exact ⟨hrun.1.1, hrun.2⟩
    have fl : (famE E).length < 63 := by rw [fam_len]; exact few
    have Ip : Inv (perfPS (famE E) n p c).1 := inv_perfS I hp hrun c fun new hc => ⟨hfork new hc, fl⟩
    have lp := perfs_bothS (S := famE E) (n := n) (p := p) (c := c)
    have nda := perfA_new (S := famE E) I.ord.nd (n := n) (p := p) c
    have ht1 := e1 _ _ ht
    have foots : ∀ b ∈ footL lw E, ∃ o, H b = some o := fun b m => by
      rcases List.mem_cons.mp m with z | m
      · rw [z]; exact ⟨_, W.top⟩
      · obtain ⟨e, me, ee⟩ := List.mem_map.mp m
        obtain ⟨vc', h1, _⟩ := W.recs e me
        rw [← ee]
        exact ⟨_, h1⟩
    have new_foot : ∀ {b : Addr}, H b = none → b ∉ footL lw E := fun nb m => by
      obtain ⟨o, ho⟩ := foots _ m
      rw [nb] at ho
      cases ho
    have tail : ∀ {D : Ends} (v : V) (x3 x6 : Option V) (a : Addr) (G : Hp) (E1 : List Ent), D.rt = Q → Fr (footL lw E) H G → (∀ b ∈ footL lw E1, b ∈ footL lw E ∨ H b = none) → LW G lw E1 → famE E1 = (perfPS (famE E) n p c).1 → Tp G v (perfPS (famE E) n p c).2 → H a = none → a ∉ footL lw E1 → AnsAt G a (perfA (famE E) c) →
        tSeq (tDrop (tBM K "dict" rUpdate (tVar 4) (tCons (tCall spLSettled [] E0 (tCons (tVar 0) tNil)) tNil))) (tRet (tTup (tCons (tVar 5) (tCons (tLc (iList K (tCB rSrtD (tCons (tVar 4) tNil))) (gName 7) tYes (tTup (tCons (tVar 7) (tCons (tDGet (tVar 4) (tVar 7)) tNil))) [7]) tNil)))) D [some (.ref lw), some (.int n), some (.ref t), x3, some (.ref a), some v, x6, none] G := fun {D} v x3 x6 a G E1 hD fG sG WG hE g na naf an => by
      refine do_tail fG sG WG (by rw [← fam_len, hE]; omega) (by rw [hE]; exact Ip) g na naf an (by rw [hE]; exact nda) fun u H' E' f' s' W' fam' g' nl' => ?_
      rw [hE] at fam' g'
      rw [hD]
      exact q2 u H' E' f' s' W' fam' g' nl'
    refine q_tupVD (ev_tix rfl ht1 (i := 0) rfl) fun a H2 na e2 ga => ?_
    have e02 := e1.trans e2
    have naH : H a = none := fresh_back e1 na
    have nafE : a ∉ footL lw E := new_foot naH
    have W2 := W.ex e02
    have ht2 := e02 _ _ ht
    have an0 : ∀ {G : Hp}, G a = some (.dK []) → AnsAt G a [] := fun g => ⟨[], g, rfl, fun i x y h => by simp at h⟩
    show tSeq _ _ _ [some (.ref lw), some (.int n), some (.ref t), some (.str c.name), some (.ref a), none, none, none] H2
    have tst : ∀ (x : Str) (x5 x6 x7 : Option V) (G : Hp), EvT (tTest (tOp rEq (tVar 3) (tC (.str x)))) [some (.ref lw), some (.int n), some (.ref t), some (.str c.name), some (.ref a), x5, x6, x7] G (decide (V.str c.name = V.str x)) := fun x x5 x6 x7 G => et_test (ev_op (ev_var rfl) ev_c (rv_eq rfl))
    cases c with
    | send k who =>
      refine q_if (et_is (tst _ _ _ _ _) (show decide (V.str ("send" : Str) = V.str "send") = true by decide +kernel)) (fun _ H3 e3 => ?_) (fun hb => nomatch hb)
      have e03 := e02.trans e3
      refine q_asgG (d := refD (if who = 1 then "first" else "no process")) (eg_t2 (eg_v ev_c (.str _)) (eg_if (b := decide (who = 1)) (et_is (et_test (ev_op (ev_tix rfl (e03 _ _ ht) (i := 2) rfl) ev_c (rv_eq rfl))) (show decide (V.int who = V.int 1) = decide (who = 1) by simp)) (fun h => by rw [if_pos (of_decide_eq_true h)]; exact eg_v ev_c (.str _)) (fun h => by rw [if_neg (of_decide_eq_false h)]; exact eg_v ev_c (.str _)))) fun v4 H4 e4 g4 => ?_
      show tIfS _ _ tNext _ [some (.ref lw), some (.int n), some (.ref t), some (.str (Cs.send k who).name), some (.ref a), some v4, none, none] H4
      have e04 := e03.trans e4
      have c2 : SpL spLAlive ([.ref lw] ++ []) H4 ((famE E).alive.map V.int) := fun H5 e5 Q q E' => ⟨lw, E, rfl, (W.ex e04).ex e5, by omega, q⟩
      have al1 : who = 1 → aliveB (famE E) who = true := fun z => by
        obtain ⟨p1, h1, _, _, _, h2⟩ := first_at I.ord
        unfold aliveB
        rw [z, h1]
        show p1.code.isNone = true
        rw [h2]
        rfl
      refine s_when (b := (!decide (who = 1) && aliveB (famE E) who)) (et_and (et_is (et_test (ev_op (ev_tix rfl (e04 _ _ ht) (i := 2) rfl) ev_c (rv_ne rfl))) (show (!decide (V.int who = V.int 1)) = !decide (who = 1) by simp)) fun _ => et_is (et_test (ev_opL (ev_tix rfl (e04 _ _ ht) (i := 2) rfl) (el_call (ea_cons (ev_var rfl) ea_nil) c2) fun p H5 hp e5 => rv_inI (sq_of hp))) (show decide (who ∈ (famE E).alive) = aliveB (famE E) who by rw [Bool.eq_iff_iff, decide_eq_true_iff]; exact mem_alive)) (fun hb H5 e5 => ?_) (fun hb H5 e5 => ?_)
      · rw [Bool.and_eq_true] at hb
        have hn1 : who ≠ 1 := by simpa using hb.1
        obtain ⟨ra, q, lq, hc⟩ := alive_at hb.2
        have hs : sendS (famE E) k who = (delS (famE E) who q k, toldD .none) ∧ sendA (famE E) k who = delA who q k := by
          obtain ⟨h1, h2⟩ := send_live (k := k) lq hc
          rw [if_neg hn1] at h1 h2
          refine ⟨?_, h2⟩
          have := perfs_fam (E := E) (n := n) (p := p) (c := .send k who) (x := 0)
          rw [show perfES E n p (.send k who) 0 = sendE E k who from rfl, h1] at this
          rw [← del_fam]
          exact this.symm
        have e05 := e04.trans e5
        refine s_sent (eg_told (eg_v ev_c .non)) (fun H6 e6 => ea_cons (ev_var rfl) (ea_cons (ev_tix rfl ((e05.trans e6) _ _ ht) (i := 1) rfl) (ea_cons (ev_tix rfl ((e05.trans e6) _ _ ht) (i := 2) rfl) ea_nil))) (W.ex e05) (by omega) lq hn1 I.ord fun v6 a2 H8 na2 f8 W8 an8 g8 => ?_
        have na2H : H a2 = none := fresh_back e05 na2
        exact tail v6 _ none a2 _ (delE E who q k) rfl ((Fr.same e05).trans f8) (fun b m => by rw [del_foot] at m; exact .inl m) W8 (by rw [del_fam]; exact (congrArg Prod.fst hs.1).symm) (by rw [show (perfPS (famE E) n p (.send k who)).2 = toldD .none from congrArg Prod.snd hs.1]; exact g8) na2H (by rw [del_foot]; exact new_foot na2H) (by rw [show perfA (famE E) (.send k who) = delA who q k from hs.2]; exact an8)
      · have e05 := e04.trans e5
        have hs : sendS (famE E) k who = (famE E, refD (if who = 1 then "first" else "no process")) ∧ sendA (famE E) k who = [] := by
          by_cases z : aliveB (famE E) who = true
          · rw [z, Bool.and_true] at hb
            have h1 : who = 1 := by simpa using hb
            obtain ⟨ra, q, lq, hc⟩ := alive_at z
            obtain ⟨h2, h3⟩ := send_live (k := k) lq hc
            rw [if_pos h1] at h2 h3
            refine ⟨?_, h3⟩
            have := perfs_fam (E := E) (n := n) (p := p) (c := .send k who) (x := 0)
            rw [show perfES E n p (.send k who) 0 = sendE E k who from rfl, h2] at this
            rw [if_pos h1]
            exact this.symm
          · have h1 : who ≠ 1 := fun y => z (al1 y)
            obtain ⟨h2, h3⟩ := send_dead (E := E) (k := k) (who := who) (by simpa using z)
            refine ⟨?_, h3⟩
            have := perfs_fam (E := E) (n := n) (p := p) (c := .send k who) (x := 0)
            rw [show perfES E n p (.send k who) 0 = sendE E k who from rfl, h2] at this
            rw [if_neg h1]
            exact this.symm
        exact tail v4 _ none a H5 E rfl (Fr.same e05) (fun b m => .inl m) (W.ex e05) (congrArg Prod.fst hs.1).symm (by rw [show (perfPS (famE E) n p (.send k who)).2 = _ from congrArg Prod.snd hs.1]; exact g4.ex e5) naH nafE (by rw [show perfA (famE E) (.send k who) = [] from hs.2]; exact an0 ((e3.trans (e4.trans e5)) _ _ ga))
    | fam c =>
      have w0 : decide (V.str (Cs.fam c).name = V.str "send") = false := by
        cases c with
        | fork new => exact (show decide (V.str ("fork" : Str) = V.str "send") = false by decide +kernel)
        | lead => exact (show decide (V.str ("lead" : Str) = V.str "send") = false by decide +kernel)
        | adopt => exact (show decide (V.str ("adopt" : Str) = V.str "send") = false by decide +kernel)
        | join who g => exact (show decide (V.str ("join" : Str) = V.str "send") = false by decide +kernel)
        | fin code => exact (show decide (V.str ("end" : Str) = V.str "send") = false by decide +kernel)
        | wait who => exact (show decide (V.str ("wait" : Str) = V.str "send") = false by decide +kernel)
        | about who => exact (show decide (V.str ("about" : Str) = V.str "send") = false by decide +kernel)
      refine q_if (et_is (tst _ _ _ _ _) w0) (fun hb => nomatch hb) (fun _ H3 e3 => ?_)
      have e03 := e02.trans e3
      by_cases hf : c.famB = true
      · have w1 : decide (V.str (Cs.fam c).name = V.str "about") = false := by
          cases c with
          | fork new => exact (show decide (V.str ("fork" : Str) = V.str "about") = false by decide +kernel)
          | lead => exact (show decide (V.str ("lead" : Str) = V.str "about") = false by decide +kernel)
          | adopt => exact (show decide (V.str ("adopt" : Str) = V.str "about") = false by decide +kernel)
          | join who g => exact (show decide (V.str ("join" : Str) = V.str "about") = false by decide +kernel)
          | fin code => exact (show decide (V.str ("end" : Str) = V.str "about") = false by decide +kernel)
          | _ => cases hf
        have w2 : decide (V.str (Cs.fam c).name = V.str "wait") = false := by
          cases c with
          | fork new => exact (show decide (V.str ("fork" : Str) = V.str "wait") = false by decide +kernel)
          | lead => exact (show decide (V.str ("lead" : Str) = V.str "wait") = false by decide +kernel)
          | adopt => exact (show decide (V.str ("adopt" : Str) = V.str "wait") = false by decide +kernel)
          | join who g => exact (show decide (V.str ("join" : Str) = V.str "wait") = false by decide +kernel)
          | fin code => exact (show decide (V.str ("end" : Str) = V.str "wait") = false by decide +kernel)
          | _ => cases hf
        refine s_if (et_is (tst _ _ _ _ _) w1) (fun hb => nomatch hb) (fun _ H4 e4 => ?_)
        refine s_if (et_is (tst _ _ _ _ _) w2) (fun hb => nomatch hb) (fun _ H5 e5 => ?_)
        refine s_asgC (ea_cons (ev_var rfl) (ea_cons (ev_var rfl) (ea_cons (ev_var rfl) ea_nil))) fun H6 e6 => ?_
        have e06 := e03.trans (e4.trans (e5.trans e6))
        have ga6 := (e3.trans (e4.trans (e5.trans e6))) _ _ ga
        refine ⟨lw, E, n, t, c, r, p, rfl, e06 _ _ ht, hf, W.ex e06, few, l, hcw.1, I.ord, fun x v H7 f7 s7 W7 g7 => ?_⟩
        have hfp := perf_fam (E := E) (n := n) (p := p) (c := c) (x := x)
        exact tail v _ none a H7 _ rfl ((Fr.same e06).trans f7) (fun b m => (s7 b m).imp id (fresh_back e06)) W7 (congrArg Prod.fst hfp) (by rw [show (perfPS (famE E) n p (.fam c)).2 = _ from (congrArg Prod.snd hfp).symm]; exact g7) naH (fun m => by
          rcases s7 a m with z | z
          · exact nafE z
          · rw [ga6] at z; cases z) (an0 (f7 _ _ ga6 (.inl nafE)))
      cases c with
      | about who =>
        refine s_if (et_is (tst _ _ _ _ _) (show decide (V.str ("about" : Str) = V.str "about") = true by decide +kernel)) (fun _ H4 e4 => ?_) (fun hb => nomatch hb)
        refine s_asgC (ea_cons (ev_var rfl) (ea_cons (ev_tix rfl ((e03.trans e4) _ _ ht) (i := 1) rfl) ea_nil)) fun H5 e5 => ⟨lw, E, who, rfl, W.ex (e03.trans (e4.trans e5)), fun v H6 e6 g => ?_⟩
        have e06 := e03.trans (e4.trans (e5.trans e6))
        exact tail v _ none a H6 E rfl (Fr.same e06) (fun b m => .inl m) (W.ex e06) rfl g naH nafE (an0 ((e3.trans (e4.trans (e5.trans e6))) _ _ ga))
      | wait who =>
        refine s_if (et_is (tst _ _ _ _ _) (show decide (V.str ("wait" : Str) = V.str "about") = false by decide +kernel)) (fun hb => nomatch hb) (fun _ H4 e4 => ?_)
        refine s_if (et_is (tst _ _ _ _ _) (show decide (V.str ("wait" : Str) = V.str "wait") = true by decide +kernel)) (fun _ H5 e5 => ?_) (fun hb => nomatch hb)
        have e05 := e03.trans (e4.trans e5)
        have e25 := e3.trans (e4.trans e5)
        have hpw : perfPS (famE E) n p (.fam (.wait who)) = if (famE E).kids n = [] then (famE E, refD "no child") else if who ∉ 0 :: (famE E).kids n then (famE E, refD "no child") else beginS (famE E) n p who := rfl
        refine q_asgC (ea_cons (ev_var rfl) (ea_cons (ev_var rfl) (ea_cons (ev_tix rfl (e05 _ _ ht) (i := 1) rfl) ea_nil))) fun H6 e6 => ⟨lw, E, n, who, rfl, W.ex (e05.trans e6), by omega, fun hk => ?_, fun hk he => ?_, fun he => ?_⟩
        · intro v H7 e7 g7
          have hv : decide (v = .non) = false := by cases g7; simp
          refine s_when (b := false) (et_is (et_B (ev_isN (ev_var (v := v) rfl))) hv) (fun h => nomatch h) (fun _ H8 e8 => ?_)
          have e08 := e05.trans (e6.trans (e7.trans e8))
          have hpe : perfPS (famE E) n p (.fam (.wait who)) = (famE E, refD "no child") := by
            rw [hpw]
            rcases kidsW_nil.mp hk with z | z
            · rw [if_pos z]
            · by_cases y : (famE E).kids n = []
              · rw [if_pos y]
              · rw [if_neg y, if_pos z]
          exact tail v _ none a H8 E rfl (Fr.same e08) (fun b m => .inl m) (W.ex e08) (by rw [hpe]) (by rw [hpe]; exact g7.ex e8) naH nafE (an0 ((e25.trans (e6.trans (e7.trans e8))) _ _ ga))
        · have hk2 := fun z => hk (kidsW_nil.mpr z)
          intro H7 e7
          refine s_when (b := true) (et_is (et_B (ev_isN (ev_var (v := .non) rfl))) (by simp)) (fun _ H8 e8 => ?_) (fun h => nomatch h)
          have e08 := e05.trans (e6.trans (e7.trans e8))
          have W8 := W.ex e08
          have hpe : perfPS (famE E) n p (.fam (.wait who)) = if n = 1 then (famE E, refD "first") else ((famE E).set n { p with who := some who }, .tuple [.str "waits"]) := by
            rw [hpw, if_neg (fun z => hk2 (.inl z)), if_neg (fun z => hk2 (.inr z))]
            unfold beginS
            rw [he, if_neg (fun z => z rfl)]
          refine q_parG (d := if n = 1 then refD "first" else .tuple [.str "waits"]) (ev_lrec W8.rd (ev_var rfl) (ev_var rfl) l) (eg_if (et_is (et_test (ev_op (ev_var rfl) ev_c (rv_eq rfl))) (show decide (V.int n = V.int 1) = decide (n = 1) by simp)) (fun h => by rw [if_pos (of_decide_eq_true h)]; exact eg_ref) (fun h => by rw [if_neg (of_decide_eq_false h)]; exact eg_t1 (eg_v ev_c (.str _)))) fun v H9 e9 g9 => ?_
          show sDPut (tVar 6) (tC (.str "call")) (tIf _ (tVar 2) (tC .non)) _ [some (.ref lw), some (.int n), some (.ref t), some (.str (Cs.fam (.wait who)).name), some (.ref a), some v, some (.ref r), none] H9
          have e09 := e08.trans e9
          have ga9 := (e25.trans (e6.trans (e7.trans (e8.trans e9)))) _ _ ga
          have nra : a ∉ [r] := fun m => nafE (by rw [List.mem_singleton.mp m]; exact LW.foot l)
          obtain ⟨vc, hr9, _⟩ := (W.ex e09).rec1 l
          by_cases hn : n = 1
          · refine s_dput (v := .non) (kvs := recKV p vc) (ky := Sum.inr "call") (by show 7 < 100000; omega) (ev_if (b := false) (et_is (et_test (ev_op (ev_var rfl) ev_c (rv_ne rfl))) (by simp [hn])) (fun h => nomatch h) (fun _ => ev_c)) (ev_var rfl) ev_c hr9 fun H10 e10 => ?_
            obtain ⟨w11, f11⟩ := (W.ex (e09.trans e10)).set (p' := { p with who := none }) (vc := .non) l rfl
            have epp : ({ p with who := none } : Pr) = p := by
              have := hcw.2
              cases p
              simp only at this
              rw [this]
            have hput2 : putK (recKV p vc) (Sum.inr "call") .non = recKV { p with who := none } .non := rfl
            rw [hput2]
            rw [epp, set_self W.keys l] at w11
            rw [epp] at f11 ⊢
            rw [if_pos hn] at hpe g9
            exact tail v _ (some (.ref r)) a _ E rfl ((Fr.same (e09.trans e10)).trans (f11.more fun b m => by rw [List.mem_singleton.mp m]; exact LW.foot l)) (fun b m => .inl m) w11 (by rw [hpe]) (by rw [hpe]; exact (g9.ex e10).fr f11) naH nafE (an0 (f11 _ _ (e10 _ _ ga9) (.inl nra)))
          · refine s_dput (v := .ref t) (kvs := recKV p vc) (ky := Sum.inr "call") (by show 7 < 100000; omega) (ev_if (b := true) (et_is (et_test (ev_op (ev_var rfl) ev_c (rv_ne rfl))) (by simp [hn])) (fun _ => ev_var rfl) (fun h => nomatch h)) (ev_var rfl) ev_c hr9 fun H10 e10 => ?_
            have hc10 : CallV H10 (.ref t) ({ p with who := some who } : Pr).who := ⟨t, rfl, (e09.trans e10) _ _ ht⟩
            obtain ⟨w11, f11⟩ := (W.ex (e09.trans e10)).set (p' := { p with who := some who }) (vc := .ref t) l hc10
            have hput2 : putK (recKV p vc) (Sum.inr "call") (.ref t) = recKV { p with who := some who } (.ref t) := rfl
            rw [hput2]
            rw [if_neg hn] at hpe g9
            exact tail v _ (some (.ref r)) a _ _ rfl ((Fr.same (e09.trans e10)).trans (f11.more fun b m => by rw [List.mem_singleton.mp m]; exact LW.foot l)) (fun b m => by rw [set_foot] at m; exact .inl m) w11 (by rw [hpe, fam_set]) (by rw [hpe]; exact (g9.ex e10).fr f11) naH (by rw [set_foot]; exact nafE) (an0 (f11 _ _ (e10 _ _ ga9) (.inl nra)))
        · intro v H7 f7 s7 W7 g7
          have hkw : kidsW (famE E) n who ≠ [] := fun z => he (by rw [← kidsW_ended, z]; rfl)
          have hk2 := fun z => hkw (kidsW_nil.mpr z)
          have hpe : perfPS (famE E) n p (.fam (.wait who)) = waitS (famE E) n who := by
            rw [hpw, if_neg (fun z => hk2 (.inl z)), if_neg (fun z => hk2 (.inr z))]
            unfold beginS
            rw [if_pos he]
          have hfw := fam_wait E n who
          have hv : decide (v = .non) = false := by
            unfold waitE at g7
            cases z : endedK (famE E) n who with
            | nil => exact absurd z he
            | cons k rest =>
              rw [z] at g7
              cases g7
              simp
          refine s_when (b := false) (et_is (et_B (ev_isN (ev_var (v := v) rfl))) hv) (fun h => nomatch h) (fun _ H8 e8 => ?_)
          have e06 := e05.trans e6
          have ga6 := (e25.trans e6) _ _ ga
          exact tail v _ none a H8 _ rfl ((Fr.same e06).trans (f7.trans (Fr.same e8))) (fun b m => (s7 b m).imp id (fresh_back e06)) (W7.ex e8) (by rw [hpe, ← hfw]; rfl) (by rw [hpe, ← hfw]; exact g7.ex e8) naH (fun m => by
            rcases s7 a m with z | z
            · exact nafE z
            · rw [ga6] at z; cases z) (an0 (e8 _ _ (f7 _ _ ga6 (.inl nafE))))
      | _ => exact absurd rfl hf
end
end K02
set_option Elab.async false
set_option linter.all false
set_option maxRecDepth 100000
set_option maxHeartbeats 4000000
namespace KB
open PySem PySem.Spec PyProof.Rows L2 Evl
abbrev sBox : Stmt := topS 91
abbrev sTake : Stmt := topS 92
abbrev sPick : Stmt := topS 93
theorem scBox : FnScope ["_law_script", "_law_k", "_law_cell"] ["_law_script", "_law_k"] (defScope sBox) := ⟨rfl, rfl, rfl, by decide +kernel, rfl, by decide +kernel, by decide +kernel⟩
theorem scTake : FnScope ["_law_box_here", "_law_below", "_law_found", "_law_once"] ["_law_box_here", "_law_below"] (defScope sTake) := ⟨rfl, rfl, rfl, by decide +kernel, rfl, by decide +kernel, by decide +kernel⟩
theorem scPick : FnScope ["_law_box_here", "_law_some"] ["_law_box_here", "_law_some"] (defScope sPick) := ⟨rfl, rfl, rfl, by decide +kernel, rfl, by decide +kernel, by decide +kernel⟩
/-- a source of draws: what is left of a great number, a seed, a count -/
def Src (H : Hp) (p : Addr) (c : Int) : Prop := ∃ a b : Int, H p = some (.lst [.int a, .int b, .int c]) ∧ 0 ≤ a ∧ 0 ≤ b ∧ b < 2 ^ 33 ∧ 0 ≤ c
def spTake : Sp := fun vs H Q _ => ∃ (p : Addr) (c m : Int), vs = [.ref p, .int m] ∧ Src H p c ∧ c < 1000000 ∧ 0 < m ∧ m ≤ 1000000 ∧
  ∀ (r c' : Int) (zs : List V), 0 ≤ r → r < m → c ≤ c' → c' ≤ c + 1 → Src (upd H p (.lst zs)) p c' → Q (.int r) (upd H p (.lst zs))
def spPick : Sp := fun vs H Q _ => ∃ (p l : Addr) (c : Int) (xs : List V), vs = [.ref p, .ref l] ∧ Src H p c ∧ c < 1000000 ∧ l ≠ p ∧ H l = some (.lst xs) ∧ 0 < xs.length ∧ xs.length ≤ 1000 ∧
  ∀ (v : V) (c' : Int) (zs : List V), v ∈ xs → c ≤ c' → c' ≤ c + 1 → Src (upd H p (.lst zs)) p c' → Q v (upd H p (.lst zs))
def spBox (K : PySem.W.Frag) : Sp := fun vs H Q _ => ∃ (l : Addr) (ns : List Int) (k : Nat), vs = [.ref l, .int (k : Int)] ∧ SqL K H l (ns.map V.int) ∧ k < 1000 ∧
  ∀ (p : Addr) (H' : Hp), H p = none → Ex H H' → Src H' p 0 → Q (.ref p) H'
theorem b01 (k : Bool) : (0 : Int) ≤ (if k = true then 1 else 0) ∧ (if k = true then (1 : Int) else 0) ≤ 1 := by
  cases k <;> decide
section
variable {P : Program} {w : World} {K : PySem.W.Frag} {mg : Str → Option Value} {base : Heap} {f fD : Addr} {fd fdD : FuncData}
theorem ok_take (F : Fun K "_law_take" "_law_take" sTake f fd) : FnOk P w K mg base CX0 1 f fd ["_law_box_here", "_law_below"] spTake := by
  refine F.ok scTake (fun vs H Q E h => ?_) (fun cdv A outer s H vs Q E hr h => ?_)
  · obtain ⟨p, c, m, rfl, _⟩ := h
    rfl
  · obtain ⟨p, c, m, rfl, ⟨a, b, hp, ha, hb, hb2, hc⟩, hc2, hm, hm2, q⟩ := h
    refine ⟨_, pss_cons (ps_if (pt_cmpR op_gt (pe_ix ix_list (pv 0) pe_int (fun _ _ => rfl)) pe_int (nomark _))
        (pss_cons (ps_set (i := 2) scTake.nd rfl (.inl rfl) (pe_op op_mod (pe_ix ix_list (pv 0) pe_int (fun _ _ => rfl)) (pv 1)))
        (pss_cons (ps_asg (pe_op op_fdivW (pe_ix ix_list (pv 0) pe_int (fun _ _ => rfl)) (pv 1)) (pg_sub (pv 0) pe_int set_list))
        (pss_one (ps_ret (pv 2))))) pss_nil)
      (pss_cons (ps_asg (pe_op op_add (pe_ix ix_list (pv 0) pe_int (fun _ _ => rfl)) pe_int) (pg_sub (pv 0) pe_int set_list))
      (pss_cons (ps_set (i := 3) scTake.nd rfl (.inl rfl) (pe_op op_mod (pe_op op_pow (pe_op op_add (pe_ix ix_list (pv 0) pe_int (fun _ _ => rfl)) (pe_op op_mul pe_int (pe_ix ix_list (pv 0) pe_int (fun _ _ => rfl)))) pe_int) pe_int))
      (pss_one (ps_ret (pe_op op_mod (pe_op op_fdiv (pe_op op_mod (pe_op op_add (pe_op op_mul (pv 3) (pe_op op_add (pe_op op_mod (pv 3) pe_int) pe_int)) (pe_op op_mul (pe_ix ix_list (pv 0) pe_int (fun _ _ => rfl)) pe_int)) pe_int) pe_int) (pv 1)))))), ?_⟩
    have look : ∀ {H1 : Hp} {a b c : Int}, H1 p = some (.lst [.int a, .int b, .int c]) → SqL K H1 p [.int a, .int b, .int c] := fun e => SqL.of e
    refine ⟨_, rfl, p, _, _, _, rfl, rfl, look hp, rfl, _, _, rfl, rfl, _, rfl, ?_⟩
    refine ite2 (fun h0 => ?_) (fun h0 => ?_)
    · have a1 : (0 : Int) < a := of_decide_eq_true h0
      refine ⟨_, rfl, p, _, _, _, rfl, rfl, look hp, rfl, _, rfl, _, _, rfl, rfl, hm, ?_⟩
      refine ⟨_, rfl, p, _, _, _, rfl, rfl, look hp, rfl, _, rfl, _, _, rfl, rfl, wide_div (b := 50) hm (by omega) (by decide) (by decide), ?_⟩
      refine ⟨_, rfl, p, _, _, 0, rfl, rfl, hp, rfl, _, rfl, ?_⟩
      exact q _ c _ (Int.emod_nonneg a (by omega)) (Int.emod_lt_of_pos a hm) (Int.le_refl _) (by omega) ⟨_, _, upd_same, Int.ediv_nonneg ha (by omega), hb, hb2, hc⟩
    · refine ⟨_, rfl, p, _, _, _, rfl, rfl, look hp, rfl, _, _, rfl, rfl, _, rfl, p, _, _, 2, rfl, rfl, hp, rfl, ?_⟩
      have h1 : upd H p (.lst [.int a, .int b, .int (c + 1)]) p = some (.lst [.int a, .int b, .int (c + 1)]) := upd_same
      refine ⟨_, rfl, p, _, _, _, rfl, rfl, look h1, rfl, _, rfl, p, _, _, _, rfl, rfl, look h1, rfl, _, _, rfl, rfl, .inl ⟨by decide, by decide⟩, _, _, rfl, rfl, _, _, rfl, rfl, ⟨by decide, by decide, ?_⟩, _, _, rfl, rfl, (show (0 : Int) < 2147483647 by decide), ?_⟩
      · show (b + 48271 * (c + 1)).natAbs < 2 ^ 64
        omega
      generalize (b + 48271 * (c + 1)) ^ (5 : Int).toNat % 2147483647 = once
      refine ⟨_, rfl, _, rfl, _, _, rfl, rfl, (show (0 : Int) < 30011 by decide), _, _, rfl, rfl, _, _, rfl, rfl, .inr ?_, _, rfl, p, _, _, _, rfl, rfl, look h1, rfl, _, _, rfl, rfl, .inr ⟨by decide, by decide⟩, _, _, rfl, rfl, _, _, rfl, rfl, (show (0 : Int) < 2147483629 by decide), _, _, rfl, rfl, ⟨by decide, by decide⟩, _, rfl, _, _, rfl, rfl, hm, ?_⟩
      · have z1 := Int.emod_nonneg once (show (30011 : Int) ≠ 0 by decide)
        have z2 := Int.emod_lt_of_pos once (show (0 : Int) < 30011 by decide)
        exact ⟨by omega, by omega⟩
      · exact q _ (c + 1) _ (Int.emod_nonneg _ (by omega)) (Int.emod_lt_of_pos _ hm) (by omega) (by omega) ⟨a, b, upd_same, ha, hb, hb2, by omega⟩
theorem ok_pick (F : Fun K "_law_pick" "_law_pick" sPick f fd) (G : FnOk P w K mg base CX0 1 fD fdD ["_law_box_here", "_law_below"] spTake)
    (bG : Binds K fdD ["_law_box_here", "_law_below"] []) (kG : PySem.W.keepIn K (.ref fD) = true) (mG : mg "_law_take" = some (.ref fD)) (mL : mg "len" = none) :
    FnOk P w K mg base CX0 2 f fd ["_law_box_here", "_law_some"] spPick := by
  refine F.ok scPick (fun vs H Q E h => ?_) (fun cdv A outer s H vs Q E hr h => ?_)
  · obtain ⟨p, l, c, xs, rfl, _⟩ := h
    rfl
  · obtain ⟨p, l, c, xs, rfl, S, hc, hne, hl, h0, h1, q⟩ := h
    refine ⟨_, pss_one (ps_ret (pe_ix ix_list (pv 1) (pe_call G hr rfl mG kG bG .nil pass0 (pa_cons (pv 0) (pa_cons (pe_callB call_len_seq (by rfl) mL PySem.boot_len (pa_cons (pv 1) pa_nil)) pa_nil))) (fun _ _ => rfl))), ?_⟩
    refine ⟨_, rfl, _, rfl, _, rfl, l, xs, rfl, .inl (SqL.of hl), p, c, _, rfl, S, hc, by omega, by omega, fun r c' zs r0 r1 c0 c1 S' => ?_⟩
    obtain ⟨j, rfl⟩ : ∃ j : Nat, r = (j : Int) := ⟨r.toNat, by omega⟩
    have hj : j < xs.length := by omega
    refine ⟨l, xs, _, xs[j], rfl, rfl, SqL.of ((upd_ne hne).trans hl), atI_nat (List.getElem?_eq_getElem hj), ?_⟩
    exact q _ c' zs (List.getElem_mem hj) c0 c1 S'
theorem ok_box (F : Fun K "_law_box" "_law_box" sBox f fd) (mL : mg "len" = none) (mA : mg "abs" = none) (mI : mg "int" = none) : FnOk P w K mg base CX0 1 f fd ["_law_script", "_law_k"] (spBox K) := by
  refine F.ok scBox (fun vs H Q E h => ?_) (fun cdv A outer s H vs Q E hr h => ?_)
  · obtain ⟨l, ns, k, rfl, _⟩ := h
    rfl
  · obtain ⟨l, ns, k, rfl, hl, hk, q⟩ := h
    refine ⟨_, pss_cons (ps_set (i := 2) scBox.nd rfl (.inl rfl) (pe_ifExp (pt_cmpR op_lt (pv 1) (pe_callB call_len_seq (by rfl) mL PySem.boot_len (pa_cons (pv 0) pa_nil)) (nomark _)) (pe_ix ix_list (pv 0) (pv 1) (fun _ _ => rfl)) pe_int))
      (pss_one (ps_ret (pe_lst (pa_cons (pe_op op_mul (pe_callB call_abs (by rfl) mA (by decide +kernel) (pa_cons (pv 2) pa_nil))
          (pe_callTy call_int1 (by rfl) mI (by decide +kernel) (pa_cons (pe_cmpR op_ge (pe_callB call_abs (by rfl) mA (by decide +kernel) (pa_cons (pv 2) pa_nil)) (pe_op op_pow pe_int pe_int) (nomark _)) pa_nil)))
        (pa_cons (pe_op op_add (pe_op op_add (pe_op op_mod (pv 2) pe_int) (pe_op op_mul pe_int (pv 1))) pe_int) (pa_cons pe_int pa_nil)))))), ?_⟩
    have fin : ∀ (cell : Int) (D : Ends), D.rt = Q → tRet (tLst (tCons (tOp (rI CMul fun i j => .int (i * j)) (tCB (fun xs H Q => ∃ i, xs = [.int i] ∧ Q (.int (if i < 0 then -i else i)) H) (tCons (tVar 2) tNil))
          (tCB (fun xs H Q => (∃ i, xs = [.int i] ∧ Q (.int i) H) ∨ ∃ k, xs = [.bl k] ∧ Q (.int (if k then 1 else 0)) H) (tCons (tOp (rI0 fun i j => .bl (decide (j ≤ i))) (tCB (fun xs H Q => ∃ i, xs = [.int i] ∧ Q (.int (if i < 0 then -i else i)) H) (tCons (tVar 2) tNil)) (tOp (rI CPow fun i j => .int (i ^ j.toNat)) (tC (.int 10)) (tC (.int 18)))) tNil)))
          (tCons (tOp (rI0 fun i j => .int (i + j)) (tOp (rI0 fun i j => .int (i + j)) (tOp (rI (fun _ j => 0 < j) fun i j => .int (i % j)) (tVar 2) (tC (.int 2147483629))) (tOp (rI CMul fun i j => .int (i * j)) (tC (.int 7919)) (tVar 1))) (tC (.int 73))) (tCons (tC (.int 0)) tNil)))) D [some (.ref l), some (.int (k : Int)), some (.int cell)] H := by
      intro cell D eD
      refine ⟨_, rfl, _, rfl, _, rfl, _, rfl, _, _, rfl, rfl, ⟨by decide, by decide, by decide⟩, _, _, rfl, rfl, .inr ⟨_, rfl, _, _, rfl, rfl, .inr ?_, ?_⟩⟩
      · exact ⟨Int.lt_of_lt_of_le (by decide) (b01 _).1, Int.lt_of_le_of_lt (b01 _).2 (by decide)⟩
      · refine ⟨_, rfl, _, _, rfl, rfl, (show (0 : Int) < 2147483629 by decide), _, rfl, _, _, rfl, rfl, .inl ⟨by decide, by decide⟩, _, _, rfl, rfl, _, _, rfl, rfl, (by show 3 ≤ sizeLine; decide), fun p hp => ?_⟩
        rw [eD]
        have z1 := Int.emod_nonneg cell (show (2147483629 : Int) ≠ 0 by decide)
        have z2 := Int.emod_lt_of_pos cell (show (0 : Int) < 2147483629 by decide)
        refine q p _ hp (Ex.new hp) ⟨_, _, upd_same, Int.mul_nonneg ?_ (b01 _).1, by omega, by omega, Int.le_refl 0⟩
        split <;> omega
    refine ⟨_, rfl, _, rfl, l, _, rfl, .inl hl, _, _, rfl, rfl, _, rfl, ?_⟩
    refine ite2 (fun h1 => ?_) (fun h1 => ?_)
    · have h2 := of_decide_eq_true h1
      rw [List.length_map] at h2
      have h3 : k < ns.length := by omega
      refine ⟨_, rfl, _, rfl, l, _, _, .int ns[k], rfl, rfl, hl, atI_nat (by rw [List.getElem?_map, List.getElem?_eq_getElem h3]; rfl), ?_⟩
      exact fin ns[k] _ rfl
    · exact fin 0 _ rfl
end
end KB
set_option Elab.async false
set_option linter.all false
set_option maxRecDepth 100000
set_option maxHeartbeats 4000000
namespace K02
open PySem PySem.Spec PyProof.Rows L2 Evl KB
/-! ### draws beside the law's world -/
structure Dw (H0 : Hp) (p lw : Addr) (E : List Ent) (c0 : Int) (k : Nat) (H : Hp) : Prop where
  fr : Fr [p] H0 H
  src : ∃ c, Src H p c ∧ c0 ≤ c ∧ c ≤ c0 + k
  w : LW H lw E
theorem src_ex {H H' : Hp} {p : Addr} {c : Int} (e : Ex H H') (s : Src H p c) : Src H' p c := by
  obtain ⟨a, b, h, r⟩ := s
  exact ⟨a, b, e _ _ h, r⟩
section
variable {K : PySem.W.Frag} {σ : L2.St} {H0 H H' : Hp} {p lw : Addr} {E : List Ent} {c0 : Int} {k : Nat} {te tl tb : TE} {Q : VK} {i j : Nat}
theorem Dw.ex (D : Dw H0 p lw E c0 k H) (e : Ex H H') : Dw H0 p lw E c0 k H' := by
  obtain ⟨c, s, h1, h2⟩ := D.src
  exact ⟨D.fr.trans (Fr.same e), ⟨c, src_ex e s, h1, h2⟩, D.w.ex e⟩
theorem Dw.next (D : Dw H0 p lw E c0 k H) (np : p ∉ footL lw E) {m : Nat} {c c' : Int} {zs : List V} (s : Src H p c) (h1 : c0 ≤ c) (h2 : c ≤ c0 + k) (hc : c ≤ c') (hc2 : c' ≤ c + m) (s' : Src H' p c') (f : Fr [p] H H') : Dw H0 p lw E c0 (k + m) H' :=
  ⟨D.fr.trans f, ⟨c', s', by omega, by omega⟩, D.w.fr f fun a m z => np (by rw [← List.mem_singleton.mp z]; exact m)⟩
theorem src_fr {zs : List V} {c : Int} (s : Src H p c) : Fr [p] H (upd H p (.lst zs)) := by
  obtain ⟨a, b, h, _⟩ := s
  exact Fr.upd h True.intro (List.mem_singleton.mpr rfl)
theorem dw_take {m : Int} (D : Dw H0 p lw E c0 k H) (hc : c0 + k < 1000000) (np : p ∉ footL lw E) (hσ : σ[i]? = some (some (.ref p))) (hb : Ev tb σ H (.int m)) (m0 : 0 < m) (m1 : m ≤ 1000000)
    (q : ∀ r H', 0 ≤ r → r < m → Dw H0 p lw E c0 (k + 1) H' → Fr [p] H H' → Q (.int r) H') : tCall spTake [] E0 (tCons (tVar i) (tCons tb tNil)) σ H Q :=
  ef_call (ea_cons (ev_var hσ) (ea_cons hb ea_nil)) fun H2 e2 => by
    have D2 := D.ex e2
    obtain ⟨c, s, h1, h2⟩ := D2.src
    refine ⟨p, c, m, rfl, s, by omega, m0, m1, fun r c' zs r0 r1 c1 c2 s' => ?_⟩
    have f := src_fr (zs := zs) s
    exact q r _ r0 r1 (D2.next (m := 1) (zs := zs) np s h1 h2 c1 (by simpa using c2) s' f) ((Fr.same e2).trans f)
theorem dw_pickL {xs : List V} (D : Dw H0 p lw E c0 k H) (hc : c0 + k < 1000000) (np : p ∉ footL lw E) (hσ : σ[i]? = some (some (.ref p))) (hl : EvL tl σ H xs) (x0 : 0 < xs.length) (x1 : xs.length ≤ 1000)
    (q : ∀ v H', v ∈ xs → Dw H0 p lw E c0 (k + 1) H' → Fr [p] H H' → Q v H') : tCall spPick [] E0 (tCons (tVar i) (tCons tl tNil)) σ H Q := by
    refine st_call (st_cons (st_var hσ (st_cons (st_evL hl fun a H2 na e2 ga => st_nil ?_))))
    have D1 := D
    have D2 := D1.ex e2
    have nap : a ≠ p := fun z => by
      obtain ⟨c, ⟨_, _, h, _⟩, _⟩ := D1.src
      rw [← z, na] at h
      cases h
    obtain ⟨c, s, h1, h2⟩ := D2.src
    refine ⟨p, a, c, xs, rfl, s, by omega, nap, ga, x0, x1, fun v c' zs hv c1 c2 s' => ?_⟩
    have f := src_fr (zs := zs) s
    exact q v _ hv (D2.next (m := 1) (zs := zs) np s h1 h2 c1 (by simpa using c2) s' f) ((Fr.same e2).trans f)
theorem dw_pick {a : Addr} {xs : List V} (D : Dw H0 p lw E c0 k H) (hc : c0 + k < 1000000) (np : p ∉ footL lw E) (hσ : σ[i]? = some (some (.ref p))) (hl : Ev tl σ H (.ref a)) (ga : H a = some (.lst xs)) (nap : a ≠ p) (x0 : 0 < xs.length) (x1 : xs.length ≤ 1000)
    (q : ∀ v H', v ∈ xs → Dw H0 p lw E c0 (k + 1) H' → Fr [p] H H' → Q v H') : tCall spPick [] E0 (tCons (tVar i) (tCons tl tNil)) σ H Q :=
  ef_call (ea_cons (ev_var hσ) (ea_cons hl ea_nil)) fun H2 e2 => by
    have D2 := D.ex e2
    obtain ⟨c, s, h1, h2⟩ := D2.src
    refine ⟨p, a, c, xs, rfl, s, by omega, nap, e2 _ _ ga, x0, x1, fun v c' zs hv c1 c2 s' => ?_⟩
    have f := src_fr (zs := zs) s
    exact q v _ hv (D2.next (m := 1) (zs := zs) np s h1 h2 c1 (by simpa using c2) s' f) ((Fr.same e2).trans f)
end
abbrev nLAny : List Str := ["_law_box_here", "_law_world", "_law_some"]
/-- the number of a process, seldom of none -/
def spLAny : Sp := fun vs H Q _ => ∃ p lw E c0 k, vs = [.ref p, .ref lw] ∧ Dw H p lw E c0 k H ∧ c0 + k < 900000 ∧ E.length < 64 ∧ (∀ n ∈ E.map (·.1), 1 ≤ n ∧ n ≤ 199) ∧ p ∉ footL lw E ∧ ∀ r H', 1 ≤ r → r ≤ 199 → Dw H p lw E c0 (k + 2) H' → Q (.int r) H'
theorem flat4 {xs : List Int} : (List.replicate (4 : Int).toNat (xs.map V.int)).flatten = (xs ++ (xs ++ (xs ++ xs))).map V.int := by
  show (List.replicate 4 (xs.map V.int)).flatten = _
  simp [List.replicate, List.map_append]
section
variable {P : Program} {w : World} {K : PySem.W.Frag} {mg : Str → Option Value} {base : Heap} {f : Addr} {fd : FuncData}
end
end K02
set_option Elab.async false
set_option linter.all false
set_option maxRecDepth 100000
set_option maxHeartbeats 4000000
namespace K02
open PySem PySem.Spec PyProof.Rows L2 Evl KB
section
variable {K : PySem.W.Frag} {σ : L2.St} {H0 H H' : Hp} {p lw : Addr} {E : List Ent} {c0 : Int} {k m : Nat} {te tl tb : TE} {Q : VK} {i j : Nat}
theorem Dw.up (D : Dw H0 p lw E c0 k H) (h : k ≤ m) : Dw H0 p lw E c0 m H := by
  obtain ⟨c, s, h1, h2⟩ := D.src
  exact ⟨D.fr, ⟨c, s, h1, by omega⟩, D.w⟩
theorem Dw.ne (D : Dw H0 p lw E c0 k H) {a : Addr} (h : H a = none) : a ≠ p := fun z => by
  obtain ⟨c, ⟨_, _, g, _⟩, _⟩ := D.src
  rw [← z, h] at g
  cases g
theorem dw_who {xs ys : List Int} {a : Addr} {t2 : TE} (D : Dw H0 p lw E c0 k H) (hc : c0 + k < 850000) (np : p ∉ footL lw E) (h0 : σ[0]? = some (some (.ref p))) (h3 : σ[3]? = some (some (.ref a))) (ga : H a = some (.lst (xs.map V.int))) (nap : a ≠ p) (x0 : 0 < xs.length) (x1 : xs.length ≤ 1000) (xr : ∀ n ∈ xs, 1 ≤ n ∧ n ≤ 199)
    (hy : ∀ G, Dw H0 p lw E c0 (k + 1) G → EvL t2 σ G (ys.map V.int)) (y0 : 0 < ys.length) (y1 : ys.length ≤ 1000) (yr : ∀ n ∈ ys, 1 ≤ n ∧ n ≤ 199)
    (q : ∀ n H', 1 ≤ n → n ≤ 199 → Dw H0 p lw E c0 (k + 2) H' → Q (.int n) H') : tIf (tTest (tOp (rI0 fun i j => .bl (decide (j < i))) (tCall spTake [] E0 (tCons (tVar 0) (tCons (tC (.int 16)) tNil))) (tC (.int 0)))) (tCall spPick [] E0 (tCons (tVar 0) (tCons (tVar 3) tNil))) (tCall spPick [] E0 (tCons (tVar 0) (tCons t2 tNil))) σ H Q := by
  have np1 : ∀ {b : Addr}, b ≠ p → b ∉ [p] := fun h z => h (List.mem_singleton.mp z)
  refine st_if (st_tt (st_op (dw_take D (by omega) np h0 ev_c (by decide) (by decide) fun r H2 r0 r1 D2 f2 => st_c ⟨_, _, rfl, rfl, _, rfl, ?_⟩)))
  have g2 := f2 _ _ ga (.inl (np1 nap))
  exact ite2 (fun _ => dw_pick D2 (by omega) np h0 (ev_var h3) g2 nap (by rw [List.length_map]; exact x0) (by rw [List.length_map]; exact x1) fun v H3 hv D3 f3 => by
    obtain ⟨n, mn, rfl⟩ := List.mem_map.mp hv
    exact q n H3 (xr n mn).1 (xr n mn).2 D3) (fun _ => dw_pickL D2 (by omega) np h0 (hy H2 D2) (by rw [List.length_map]; exact y0) (by rw [List.length_map]; exact y1) fun v H3 hv D3 f3 => by
    obtain ⟨n, mn, rfl⟩ := List.mem_map.mp hv
    exact q n H3 (yr n mn).1 (yr n mn).2 D3)
end
abbrev sLDrawn : Stmt := topS 109
abbrev nLDrawn : List Str := ["_law_box_here", "_law_world", "_law_n", "_law_some", "_law_way", "_law_kids_here", "_law_any_so"]
theorem scLDrawn : FnScope nLDrawn ["_law_box_here", "_law_world"] (defScope sLDrawn) := ⟨rfl, rfl, rfl, by decide +kernel, rfl, by decide +kernel, by decide +kernel⟩
/-- a process and a call -/
def spLDrawn : Sp := fun vs H Q _ => ∃ p lw E c0 k, vs = [.ref p, .ref lw] ∧ Dw H p lw E c0 k H ∧ c0 + k < 800000 ∧ E.length < 63 ∧ (∀ n ∈ E.map (·.1), 1 ≤ n ∧ n ≤ 199) ∧ (famE E).runs 1 = true ∧ p ∉ footL lw E ∧
  ∀ (c : Cs) n t v H', Dw H p lw E c0 (k + 12) H' → 1 ≤ n → n ≤ 199 → (∀ new, c = .fam (.fork new) → 1 ≤ new ∧ E.length < 18) → H' v = some (.tup [.int n, .ref t]) → H' t = some (.tup (Cs.vals c)) → Q (.ref v) H'
section
variable {P : Program} {w : World} {K : PySem.W.Frag} {mg : Str → Option Value} {base : Heap} {f : Addr} {fd : FuncData}
theorem ok_LDrawn (F : Fun K "_law_drawn" "_law_drawn" sLDrawn f fd) (G__law_take : Kf P w K mg base 1 "_law_take" ["_law_box_here", "_law_below"] spTake) (G__law_pick : Kf P w K mg base 2 "_law_pick" ["_law_box_here", "_law_some"] spPick) (G__law_kids : Kf P w K mg base 1 "_law_kids" ["_law_world", "_law_n"] spLKids) (G__law_runs : Kf P w K mg base 1 "_law_runs" ["_law_world", "_law_n"] spLRuns) (m_len : mg "len" = none) (m_sorted : mg "sorted" = none) : FnOk P w K mg base CX0 3 f fd ["_law_box_here", "_law_world"] spLDrawn := by
  refine F.ok scLDrawn (fun vs H Q E h => ?_) (fun cdv A outer s H vs Q E hr h => ?_)
  · obtain ⟨p, lw, E, c0, k, rfl, _⟩ := h
    rfl
  · obtain ⟨p, lw, E, c0, k, rfl, D, hc, few, rng, run1, np, q⟩ := h
    have nd := scLDrawn.nd
    have hu := hu_of hr
    refine ⟨_, (pss_cons (ps_par (i := 3) (j := 4) (by rfl) nd rfl rfl (by decide) rfl rfl (pa_cons (pe_lc (own := [("_law_n", 2)]) (g := gName 2) (tt := tB (tCall spLRuns [] E0 (tCons (tVar 1) (tCons (tVar 2) tNil)))) (te := tVar 2) rfl nd (pi_list (pe_callB (cr_srtD rfl) (by rfl) m_sorted (by decide +kernel) (pa_cons (pv 1) pa_nil))) (blkOk_by (N := nLDrawn) (sc := defScope sLDrawn) (by decide +kernel)) (fun _ _ _ _ _ => (pg_name (i := 2) nd rfl (by first | exact .inl rfl | exact .inr rfl))) (fun _ _ _ _ _ => (pts_one (pt_val (pe_fn G__law_runs (hr.mono (by decide)) (pa_cons (pv 1) (pa_cons (pv 2) pa_nil)))))) (fun _ _ _ _ _ => (pv 2))) (pa_cons (pe_fn G__law_take (hr.mono (by decide)) (pa_cons (pv 0) (pa_cons pe_int pa_nil))) pa_nil)) (by rfl))
      (pss_cons (ps_set (i := 2) nd rfl (by first | exact .inl rfl | exact .inr rfl) (pe_ifExp (pt_cmpR op_gt (pe_fn G__law_take (hr.mono (by decide)) (pa_cons (pv 0) (pa_cons pe_int pa_nil))) pe_int (nomark _)) (pe_fn G__law_pick (hr.mono (by decide)) (pa_cons (pv 0) (pa_cons (pv 3) pa_nil))) (pe_fn G__law_pick (hr.mono (by decide)) (pa_cons (pv 0) (pa_cons (pe_callB (cr_srtD rfl) (by rfl) m_sorted (by decide +kernel) (pa_cons (pv 1) pa_nil)) pa_nil)))))
      (pss_cons (ps_par (i := 5) (j := 6) (by rfl) nd rfl rfl (by decide) rfl rfl (pa_cons (pe_fn G__law_kids (hr.mono (by decide)) (pa_cons (pv 1) (pa_cons (pv 2) pa_nil))) (pa_cons (pe_fn G__law_pick (hr.mono (by decide)) (pa_cons (pv 0) (pa_cons (pe_op op_cat (pe_callB (cr_srtD rfl) (by rfl) m_sorted (by decide +kernel) (pa_cons (pv 1) pa_nil)) (pe_lst (pa_cons pe_int pa_nil))) pa_nil))) pa_nil)) (by rfl))
      (pss_cons (ps_if (PW.pt (pw_and (pt_cmpR op_lt (pv 4) pe_int (nomark _)) (pw_and1 (pt_cmpR op_lt (pe_callB call_lenD (by rfl) m_len (by decide +kernel) (pa_cons (pv 1) pa_nil)) pe_int (nomark _))))) (pss_one (ps_ret (pe_tup (pa_cons (pv 2) (pa_cons (pe_tup (pa_cons pe_str (pa_cons (pe_op op_add pe_int (pe_fn G__law_take (hr.mono (by decide)) (pa_cons (pv 0) (pa_cons pe_int pa_nil)))) pa_nil))) pa_nil))))) pss_nil)
      (pss_cons (ps_if (pt_cmpR op_lt (pv 4) pe_int (nomark _)) (pss_one (ps_ret (pe_tup (pa_cons (pv 2) (pa_cons (pe_tup (pa_cons pe_str (pa_cons (pe_fn G__law_pick (hr.mono (by decide)) (pa_cons (pv 0) (pa_cons (pe_op op_cat (pe_op op_cat (pe_op op_cat (pe_lst (pa_cons pe_int (pa_cons pe_int (pa_cons pe_int pa_nil)))) (pv 5)) (pv 5)) (pe_lst (pa_cons (pv 6) pa_nil))) pa_nil))) pa_nil))) pa_nil))))) pss_nil)
      (pss_cons (ps_if (PW.pt (pw_and (pt_cmpR op_lt (pv 4) pe_int (nomark _)) (pw_and1 (pt_cmpR op_ne (pv 2) pe_int (nomark _))))) (pss_one (ps_ret (pe_tup (pa_cons (pv 2) (pa_cons (pe_tup (pa_cons pe_str (pa_cons (pe_op op_sub (pe_fn G__law_take (hr.mono (by decide)) (pa_cons (pv 0) (pa_cons pe_int pa_nil))) pe_int) pa_nil))) pa_nil))))) pss_nil)
      (pss_cons (ps_if (pt_cmpR op_lt (pv 4) pe_int (nomark _)) (pss_one (ps_ret (pe_tup (pa_cons (pv 2) (pa_cons (pe_ix ix_list (pe_lst (pa_cons (pe_tup (pa_cons pe_str pa_nil)) (pa_cons (pe_tup (pa_cons pe_str pa_nil)) pa_nil))) (pe_op op_mod (pv 4) pe_int) (fun _ _ => rfl)) pa_nil))))) pss_nil)
      (pss_cons (ps_if (pt_cmpR op_lt (pv 4) pe_int (nomark _)) (pss_one (ps_ret (pe_tup (pa_cons (pv 2) (pa_cons (pe_tup (pa_cons pe_str (pa_cons (pe_fn G__law_pick (hr.mono (by decide)) (pa_cons (pv 0) (pa_cons (pe_lst (pa_cons pe_str (pa_cons pe_str (pa_cons pe_str (pa_cons pe_str (pa_cons pe_str (pa_cons pe_str (pa_cons pe_str pa_nil)))))))) pa_nil))) (pa_cons (pv 6) pa_nil)))) pa_nil))))) pss_nil)
      (pss_one (ps_ret (pe_tup (pa_cons (pv 2) (pa_cons (pe_tup (pa_cons pe_str (pa_cons (pv 6) pa_nil))) pa_nil))))))))))))), ?_⟩
    have fin : ∀ (c : Cs) (n : Int) (m : Nat) (G : Hp) (t v : Addr), m ≤ 12 → Dw H p lw E c0 (k + m) G → 1 ≤ n → n ≤ 199 → (∀ new, c = .fam (.fork new) → 1 ≤ new ∧ E.length < 18) → G t = none → upd G t (.tup c.vals) v = none → Q (.ref v) (upd (upd G t (.tup c.vals)) v (.tup [.int n, .ref t])) := fun c n m G t v hm DG n0 n1 hf nt nv =>
      q c n t v _ ((DG.ex ((Ex.new nt).trans (Ex.new nv))).up (by omega)) n0 n1 hf upd_same ((Ex.new nv) _ _ upd_same)
    have sz2 : 2 ≤ sizeLine := by decide
    have sz1 : 1 ≤ sizeLine := by decide
    have sz3 : 3 ≤ sizeLine := by decide
    have slen : ((famE E).sorted.filter fun n => (famE E).runs n).length ≤ 63 := by
      have h1 := List.length_filter_le (fun n => (famE E).runs n) (famE E).sorted
      have h2 := len_asc (famE E).keys
      have h3 : (famE E).keys.length = E.length := by rw [fam_keys, List.length_map]
      have h4 : (famE E).sorted.length ≤ (famE E).keys.length := h2
      omega
    have soll : ((famE E).sorted).length ≤ 63 := by
      have h2 := len_asc (famE E).keys
      have h3 : (famE E).keys.length = E.length := by rw [fam_keys, List.length_map]
      have h4 : (famE E).sorted.length ≤ (famE E).keys.length := h2
      omega
    have s1 : (1 : Int) ∈ (famE E).sorted := mem_asc.mpr (by
      unfold Fam.runs at run1
      cases z : (famE E).at 1 with
      | none => rw [z] at run1; cases run1
      | some p1 => exact at_key z)
    have spos : 0 < ((famE E).sorted.filter fun n => (famE E).runs n).length := List.length_pos_of_mem (a := 1) (List.mem_filter.mpr ⟨s1, run1⟩)
    have sall : 0 < ((famE E).sorted).length := List.length_pos_of_mem s1
    -- some, way
    refine st_par (st_cons (st_evL (el_lcGN (K := K) (te := tVar 2) (t := tB (tCall spLRuns [] E0 (tCons (tVar 1) (tCons (tVar 2) tNil)))) (σ := start nLDrawn [.ref p, .ref lw]) (H := H) (j := 2) (vs := [2]) V.int (fun n => (famE E).runs n) V.int (el_lsorted D.w.rd D.w.keys (ev_var (i := 1) rfl) (by omega)) (sorted_len E (by omega)) (fun x => rfl) (fun n mn G e => et_B (ev_call (ea_cons (ev_var rfl) (ea_cons (ev_var rfl) ea_nil)) fun H2 e2 Q q E' => ⟨lw, E, n, rfl, (D.w.ex e).ex e2, q⟩)) (fun n _ _ G e => ev_var rfl)) fun a3 H1 n3 e1 g3 => st_cons ?_))
    have D1 := D.ex e1
    have na3 := D.ne n3
    have np1 : ∀ {b : Addr}, b ≠ p → b ∉ [p] := fun h z => h (List.mem_singleton.mp z)
    refine dw_take D1 (by omega) np rfl ev_c (by decide) (by decide) fun way H2 w0 w1 D2 f2 => st_nil ⟨_, _, rfl, ?_⟩
    show tSeq _ _ _ [some (.ref p), some (.ref lw), none, some (.ref a3), some (.int way), none, none] H2
    have g32 := f2 _ _ g3 (.inl (np1 na3))
    -- who
    refine q_asgR (dw_who (xs := (famE E).sorted.filter fun n => (famE E).runs n) (ys := (famE E).sorted) D2 (by omega) np rfl rfl g32 na3 spos (by omega) (fun n mn => rng n (mem_sorted.mp (List.mem_filter.mp mn).1)) (fun G DG => el_lsorted DG.w.rd DG.w.keys (ev_var rfl) (by omega)) sall (by omega) (fun n mn => rng n (mem_sorted.mp mn)) fun n H3 n0 n1 D3 => ?_)
    show tSeq _ _ _ [some (.ref p), some (.ref lw), some (.int n), some (.ref a3), some (.int way), none, none] H3
    -- kids, any
    refine st_par (st_cons (st_evL (el_call (ea_cons (ev_var rfl) (ea_cons (ev_var rfl) ea_nil)) fun G eG Q q E' => ⟨lw, E, n, rfl, D3.w.ex eG, by omega, q⟩) fun a5 H5 n5 e5 g5 => st_cons ?_))
    have D5 := D3.ex e5
    have na5 := D3.ne n5
    refine dw_pickL (xs := ((famE E).sorted ++ [197]).map V.int) D5 (by omega) np rfl (by
      rw [List.map_append]
      exact el_catM (el_lsorted D5.w.rd D5.w.keys (ev_var rfl) (by omega)) (el_lst (ea_cons ev_c ea_nil) (by show 1 ≤ 100000; omega)) (by rw [List.length_map]; show _ + 1 ≤ 100000; omega)) (by rw [List.length_map, List.length_append]; show 0 < _ + 1; omega) (by rw [List.length_map, List.length_append]; show _ + 1 ≤ 1000; omega) fun v6 H6 hv6 D6 f6 => st_nil ⟨_, _, rfl, ?_⟩
    obtain ⟨any, many, rfl⟩ := List.mem_map.mp hv6
    show tSeq _ _ _ [some (.ref p), some (.ref lw), some (.int n), some (.ref a3), some (.int way), some (.ref a5), some (.int any)] H6
    have g56 := f6 _ _ g5 (.inl (np1 na5))
    have kl : ((famE E).kids n).length ≤ 63 := by
      have h1 : ((famE E).kids n).length ≤ (famE E).sorted.length := List.length_filter_le _ _
      omega
    have nof : ∀ {c : Cs}, (∀ new, c ≠ .fam (.fork new)) → ∀ new, c = .fam (.fork new) → 1 ≤ new ∧ E.length < 18 := fun h new z => absurd z (h new)
    refine q_when (et_and (et_test (ev_op (z := .bl (decide (way < 4))) (ev_var rfl) ev_c (rv_I0 (g := fun i j => .bl (decide (i < j)))))) fun _ => et_test (ev_op (z := .bl (decide (((topK E).length : Int) < 18))) (ev_lenD (ev_var rfl) D6.w.top) ev_c (rv_I0 (g := fun i j => .bl (decide (i < j)))))) (fun hb H7 e7 => ?_) (fun hb H7 e7 => ?_)
    · have hl : E.length < 18 := by
        rw [Bool.and_eq_true, decide_eq_true_iff, decide_eq_true_iff, List.length_map] at hb
        omega
      refine st_ret (st_tup (st_cons (st_var rfl (st_cons (st_tup (st_cons (st_c (st_cons (st_op (st_c (dw_take (D6.ex e7) (by omega) np rfl ev_c (by decide) (by decide) fun r H8 r0 r1 D8 f8 => ⟨_, _, rfl, rfl, st_nil ⟨sz2, fun t nt => st_nil ⟨sz2, fun v nv => ?_⟩⟩⟩)))))))))))
      exact fin (.fam (.fork (2 + r))) n 5 _ t v (by omega) (D8.up (by omega)) n0 n1 (fun m hm => by cases hm; exact ⟨by omega, hl⟩) nt nv
    have D7 := D6.ex e7
    refine q_when (et_test (ev_op (z := .bl (decide (way < 11))) (ev_var rfl) ev_c (rv_I0 (g := fun i j => .bl (decide (i < j)))))) (fun hb H8 e8 => ?_) (fun hb H8 e8 => ?_)
    · have g58 := (e7.trans e8) _ _ g56
      refine st_ret (st_tup (st_cons (st_var rfl (st_cons (st_tup (st_cons (st_c (st_cons (dw_pickL (xs := ([0, 0, 0] ++ (famE E).kids n ++ (famE E).kids n ++ [any]).map V.int) (D7.ex e8) (by omega) np rfl (by
        rw [List.map_append, List.map_append, List.map_append]
        exact el_catM (el_catS (el_catS (el_lst (ea_cons ev_c (ea_cons ev_c (ea_cons ev_c ea_nil))) (by show 3 ≤ 100000; omega)) (ev_var rfl) g58 (by simp only [List.length_append, List.length_map, List.length_cons, List.length_nil]; omega)) (ev_var rfl) g58 (by simp only [List.length_append, List.length_map, List.length_cons, List.length_nil]; omega)) (el_lst (ea_cons (ev_var rfl) ea_nil) (by show 1 ≤ 100000; omega)) (by simp only [List.length_append, List.length_map, List.length_cons, List.length_nil]; omega)) (by simp) (by simp only [List.length_append, List.length_map, List.length_cons, List.length_nil]; omega) fun v9 H9 hv9 D9 f9 => st_nil ⟨sz2, fun t nt => st_nil ⟨sz2, fun v nv => ?_⟩⟩)))))))))
      obtain ⟨who, _, rfl⟩ := List.mem_map.mp hv9
      exact fin (.fam (.wait who)) n 5 _ t v (by omega) (D9.up (by omega)) n0 n1 (nof fun new z => by cases z) nt nv
    have D8 := D7.ex e8
    refine q_when (et_and (et_test (ev_op (z := .bl (decide (way < 16))) (ev_var rfl) ev_c (rv_I0 (g := fun i j => .bl (decide (i < j)))))) fun _ => et_test (ev_op (ev_var rfl) ev_c (rv_ne rfl))) (fun hb H9 e9 => ?_) (fun hb H9 e9 => ?_)
    · refine st_ret (st_tup (st_cons (st_var rfl (st_cons (st_tup (st_cons (st_c (st_cons (st_op (dw_take (D8.ex e9) (by omega) np rfl ev_c (by decide) (by decide) fun r H10 r0 r1 D10 f10 => st_c ⟨_, _, rfl, rfl, st_nil ⟨sz2, fun t nt => st_nil ⟨sz2, fun v nv => ?_⟩⟩⟩))))))))))
      exact fin (.fam (.fin (r - 3))) n 5 _ t v (by omega) (D10.up (by omega)) n0 n1 (nof fun new z => by cases z) nt nv
    have D9 := D8.ex e9
    refine q_when (et_test (ev_op (z := .bl (decide (way < 18))) (ev_var rfl) ev_c (rv_I0 (g := fun i j => .bl (decide (i < j)))))) (fun hb H10 e10 => ?_) (fun hb H10 e10 => ?_)
    · have D10 := D9.ex e10
      refine st_ret (st_tup (st_cons (st_var rfl (st_cons (st_op (st_lst (st_cons (st_tup (st_cons (st_c (st_nil ⟨sz1, fun t1 nt1 => st_cons (st_tup (st_cons (st_c (st_nil ⟨sz1, fun t2 nt2 => st_nil ⟨sz2, fun b nb => ?_⟩⟩))))⟩)))))))))))
      have x1 : Ex H10 (upd H10 t1 (.tup [.str "adopt"])) := Ex.new nt1
      have x2 : Ex (upd H10 t1 (.tup [.str "adopt"])) (upd (upd H10 t1 (.tup [.str "adopt"])) t2 (.tup [.str "lead"])) := Ex.new nt2
      have gt1 := x2 _ _ (upd_same (H := H10) (a := t1) (o := .tup [.str "adopt"]))
      have gt2 : upd (upd H10 t1 (.tup [.str "adopt"])) t2 (.tup [.str "lead"]) t2 = some (.tup [.str "lead"]) := upd_same
      have x12 := x1.trans x2
      generalize upd (upd H10 t1 (.tup [.str "adopt"])) t2 (.tup [.str "lead"]) = H11 at gt1 gt2 x12 nb ⊢
      have x3 : Ex H11 (upd H11 b (.lst [.ref t1, .ref t2])) := Ex.new nb
      have gb : upd H11 b (.lst [.ref t1, .ref t2]) b = some (.lst [.ref t1, .ref t2]) := upd_same
      have gt13 := x3 _ _ gt1
      have gt23 := x3 _ _ gt2
      have D12 := D10.ex (x12.trans x3)
      generalize upd H11 b (.lst [.ref t1, .ref t2]) = H12 at gb gt13 gt23 D12 ⊢
      refine st_op (st_var rfl (st_c ⟨_, _, rfl, rfl, (by decide : (0 : Int) < 2), ?_⟩))
      show rIxL _ (V.ref b) (V.int (way % 2)) H12 _
      have hm : way % 2 = 0 ∨ way % 2 = 1 := by omega
      rcases hm with hm | hm
      · rw [hm]
        refine ⟨b, _, _, .ref t1, rfl, rfl, SqL.of gb, atI_nat (j := 0) rfl, st_nil ⟨sz2, fun v nv => ?_⟩⟩
        exact q (.fam .adopt) n t1 v _ ((D12.ex (Ex.new nv)).up (by omega)) n0 n1 (nof fun new z => by cases z) upd_same ((Ex.new nv) _ _ gt13)
      · rw [hm]
        refine ⟨b, _, _, .ref t2, rfl, rfl, SqL.of gb, atI_nat (j := 1) rfl, st_nil ⟨sz2, fun v nv => ?_⟩⟩
        exact q (.fam .lead) n t2 v _ ((D12.ex (Ex.new nv)).up (by omega)) n0 n1 (nof fun new z => by cases z) upd_same ((Ex.new nv) _ _ gt23)
    have D10 := D9.ex e10
    refine q_when (et_test (ev_op (z := .bl (decide (way < 23))) (ev_var rfl) ev_c (rv_I0 (g := fun i j => .bl (decide (i < j)))))) (fun hb H11 e11 => ?_) (fun hb H11 e11 => ?_)
    · refine st_ret (st_tup (st_cons (st_var rfl (st_cons (st_tup (st_cons (st_c (st_cons (dw_pickL (xs := [.str "stop", .str "go", .str "go", .str "wake", .str "end", .str "stop", .str "go"]) (D10.ex e11) (by omega) np rfl (el_lst (ea_cons ev_c (ea_cons ev_c (ea_cons ev_c (ea_cons ev_c (ea_cons ev_c (ea_cons ev_c (ea_cons ev_c ea_nil))))))) (by show 7 ≤ 100000; omega)) (by decide) (by decide) fun v9 H12 hv9 D12 f12 => st_cons (st_var rfl (st_nil ⟨sz3, fun t nt => st_nil ⟨sz2, fun v nv => ?_⟩⟩)))))))))))
      have hk : ∃ kd : Kd, v9 = .str kd.word := by
        simp only [List.mem_cons, List.not_mem_nil, or_false] at hv9
        rcases hv9 with rfl | rfl | rfl | rfl | rfl | rfl | rfl
        · exact ⟨.stop, rfl⟩
        · exact ⟨.go, rfl⟩
        · exact ⟨.go, rfl⟩
        · exact ⟨.wake, rfl⟩
        · exact ⟨.fin, rfl⟩
        · exact ⟨.stop, rfl⟩
        · exact ⟨.go, rfl⟩
      obtain ⟨kd, rfl⟩ := hk
      exact fin (.send kd any) n 5 _ t v (by omega) (D12.up (by omega)) n0 n1 (nof fun new z => by cases z) nt nv
    · refine st_ret (st_tup (st_cons (st_var rfl (st_cons (st_tup (st_cons (st_c (st_cons (st_var rfl (st_nil ⟨sz2, fun t nt => st_nil ⟨sz2, fun v nv => ?_⟩⟩))))))))))
      exact fin (.fam (.about any)) n 4 _ t v (by omega) ((D10.ex e11).up (by omega)) n0 n1 (nof fun new z => by cases z) nt nv
end
end K02
set_option Elab.async false
set_option linter.all false
set_option maxRecDepth 100000
set_option maxHeartbeats 4000000
namespace K02
open PySem PySem.Spec PyProof.Rows L2 Evl KB
/-- what do does when its process runs, by families alone -/
def DoF (H : Hp) (CM CW CP tP : Addr) (R : List Addr) (ma : Addr) (E : List Ent) (n : Int) (c : Cs) (Q : VK) : Prop := ∀ p, (famE E).at n = some p → ∀ v H' R' E2, Fr R H H' → (∀ b ∈ R, b ∈ R') → (∀ b ∈ R', b ∈ R ∨ H b = none) → MaAt H' CM CW CP tP R' ma E2 →
  famE E2 = settS (perfPS (famE E) n p c).1 → Dx H' v (.tuple [(perfPS (famE E) n p c).2, .list (ansD (perfA (famE E) c ++ ansA (perfPS (famE E) n p c).1))]) → Q v H'
theorem doq_of {H : Hp} {CM CW CP tP : Addr} {R : List Addr} {ma : Addr} {E : List Ent} {n : Int} {c : Cs} {Q : VK} (I : Inv (famE E)) (few : E.length < 63) (hrun : (famE E).runs n = true) (hf : ∀ new, c = .fam (.fork new) → 1 ≤ new) (q : DoF H CM CW CP tP R ma E n c Q) : DoQS H CM CW CP tP R ma E n c Q := fun pa p l x E2 A2 v H' R' sr hno f s t M d => by
  have hp := fam_in l
  have hfp := perfs_fam (E := E) (n := n) (p := p) (c := c) (x := x)
  have fe : famE (perfES E n p c x).1 = (perfPS (famE E) n p c).1 := congrArg Prod.fst hfp
  have ae : (perfES E n p c x).2 = (perfPS (famE E) n p c).2 := congrArg Prod.snd hfp
  have Ip := inv_perfS I hp hrun c fun new hc => ⟨hf new hc, by rw [fam_len]; exact few⟩
  obtain ⟨h1, h2⟩ := setR_endA sr (by rw [fe]; exact Ip.ord.nd) (by rw [fe]; exact Ip.liv) hno
  rw [fe] at h1 h2
  exact q p hp v H' R' E2 f s t M h1 (by rw [← ae, ← h2]; exact d)
section
variable {σ : L2.St} {H : Hp} {te : TE} {D : Ends} {d : PyData} {C a dd : Addr} {f : Str} {fs : List (Str × V)} {v : V}
theorem ev_xf (h : Ev te σ H (.ref a)) (g : H dd = some (.xd fs)) (l : fs.lookup f = some v) : Ev (tXf a (.ref C) (some dd) C f te) σ H v := fun H1 e1 Q q => h H1 e1 _ fun H2 e2 => ⟨rfl, rfl, dd, fs, v, rfl, (e1.trans e2) _ _ g, l, q H2 e2⟩
theorem s_asgG {i : Nat} (h : EvG te σ H d) (k : ∀ v H1, Ex H H1 → Tp H1 v d → D.nx (σ.set i (some v)) H1) : tAsg te (gName i) D σ H := h H (Ex.refl H) _ k
end
abbrev sLTold : Stmt := topS 108
abbrev nLTold : List Str := ["_law_machine", "_law_n", "_law_call", "_law_found", "error"]
theorem scLTold : FnScope nLTold ["_law_machine", "_law_n", "_law_call"] (defScope sLTold) := ⟨rfl, rfl, rfl, by decide +kernel, rfl, by decide +kernel, by decide +kernel⟩
def spLTold (CM CW CP tP : Addr) : Sp := fun vs H Q _ => ∃ R ma E n t c, vs = [.ref ma, .int n, .ref t] ∧ H t = some (.tup (Cs.vals c)) ∧ MaAt H CM CW CP tP R ma E ∧ E.length < 63 ∧ Inv (famE E) ∧ (∀ new, c = .fam (.fork new) → 1 ≤ new) ∧ n.natAbs.log2 < 900 ∧
  ((famE E).runs n = false → RetT (.tuple [.str "not running", .int n]) H Q) ∧ ((famE E).runs n = true → DoF H CM CW CP tP R ma E n c Q)
section
variable {P : Program} {w : World} {K : PySem.W.Frag} {mg : Str → Option Value} {base : Heap} {CM CW CP tP CN f : Addr} {fd : FuncData}
theorem ok_LTold (F : Fun K "_law_told" "_law_told" sLTold f fd) (XN : ExcC K CN) (hno : PySem.W.findIn K (.ref CN) "number" = some none) (exm1 : PySem.W.exmOne K (.ref CN) (.ref CN) = some true) (qN : mg "NotRunning" = some (.ref CN)) (G_Machine_do : KmX P w K mg base 10 CM "do" ["self", "number", "call"] (spMDoS CM CW CP tP CN)) :
    FnOk P w K mg base CX0 11 f fd ["_law_machine", "_law_n", "_law_call"] (spLTold CM CW CP tP) := by
  refine F.ok scLTold (fun vs H Q E h => ?_) (fun cdv A outer s H vs Q E hr h => ?_)
  · obtain ⟨R, ma, E, n, t, c, rfl, _⟩ := h
    rfl
  · obtain ⟨R, ma, E, n, t, c, rfl, ht, M, few, I, hf, hn9, q1, q2⟩ := h
    have nd := scLTold.nd
    refine ⟨_, (pss_cons (ps_set (i := 3) nd rfl (.inl rfl) pe_non)
      (pss_cons (ps_try_as (i := 4) (tb := fun W => tAsg (tMethX CM "do" (spMDoS CM CW CP tP CN) (WE W) (tVar 0) (tCons (tVar 1) (tCons (tVar 2) tNil))) (gName 3)) (ts := fun a cls d => tAsg (tTup (tCons (tC (.str "not running")) (tCons (tXf a cls d CN "number" (tVar 4)) tNil))) (gName 3)) (Wout := fun _ _ _ _ => False) rfl rfl nd rfl rfl ⟨rfl, by decide, .inl qN⟩ takes0
          (fun W pn xe tk _ => pss_one (ps_set (i := 3) nd rfl (.inl rfl) (pe_mtS (pv 0) G_Machine_do hr (fun σ => passAt tk σ) (pa_cons (pv 1) (pa_cons (pv 2) pa_nil)))))
          (fun a oe cls d pn hz hf => pss_one (ps_set (i := 3) nd rfl (.inl rfl) (pe_tup (pa_cons pe_str (pa_cons (pe_xf ⟨XN.hg, XN.hk, XN.hs, XN.hd⟩ hno hz hf (pv 4)) pa_nil))))))
      (pss_one (ps_ret (pv 3))))), ?_⟩
    obtain ⟨wa, dxm, hm, W0⟩ := M.ex
    refine q_asg ev_c fun H1 e1 => ?_
    have M1 := M.same e1
    refine ef_methX (ev_var (σ := [some (.ref ma), some (.int n), some (.ref t), some .non, none]) (i := 0) rfl) (e1 _ _ hm) rfl (ea_cons (ev_var rfl) (ea_cons (ev_var rfl) ea_nil)) fun H2 e2 => ?_
    have e02 := e1.trans e2
    refine ⟨R, ma, E, n, t, c, rfl, .inl (e02 _ _ ht), M.same e02, few, I, hn9, fun hr' d H3 nd3 e3 gd => ?_, fun hr' => doq_of I few hr' hf ?_⟩
    · refine ⟨true, exm1, fun _ a na => ?_, fun h => nomatch h⟩
      refine s_asgG (eg_t2 (eg_v ev_c (.str _)) (eg_v (ev_xf (v := .int n) (ev_var rfl) gd rfl) (.int n))) fun v H4 e4 g4 => ?_
      exact s_ret (ev_var rfl) fun H5 e5 => q1 hr' v H5 (e02.trans (e3.trans (e4.trans e5))) (g4.ex e5)
    · intro p hp v H3 R3 E3 f3 s3 t3 M3 fam3 d3
      show tRet (tVar 3) _ [some (.ref ma), some (.int n), some (.ref t), some v, none] H3
      exact s_ret (ev_var rfl) fun H4 e4 => q2 hr' p hp v H4 R3 E3 ((Fr.same e02).trans (f3.trans (Fr.same e4))) s3 (fun b m => (t3 b m).imp id (fresh_back e02)) (M3.same e4) fam3 (d3.mono e4)
end
end K02
set_option Elab.async false
set_option linter.all false
set_option maxRecDepth 100000
set_option maxHeartbeats 4000000
namespace L2
open PySem PySem.Spec PyProof.Rows
/-- a class that is made, its __init__ with defaults -/
structure KcD (P : Program) (w : World) (K : PySem.W.Frag) (mg : Str → Option Value) (base : Heap) (L : Nat) (C : Addr) (x : Str) (ps : List Str) (dvs : List V) (sp : Sp) : Prop where
  ex : ∃ k f fd ds, k + 1 ≤ L ∧ FnOk P w K mg base CX0 k f fd ps sp ∧ Binds K fd ps ds ∧ Vals dvs ds ∧ Mk K C f ∧ mg x = some (.ref C)
section
variable {X : Cx} {L : Nat} {C : Addr} {ps : List Str} {sp : Sp} {x : Str} {p pos : Pos} {dvs : List V}
theorem pe_mkD0 (G : KcD X.prog X.w X.K X.mg X.base L C x ps dvs sp) (hr : Room L X.A) (hg : Gl X x := by rfl) (hdb : (x == ("__debug__" : Str)) = false := by decide) : PE X (.Call (.Name x p) [] [] pos) (tMake C sp dvs E0 tNil) := by
  obtain ⟨k, f, fd, ds, hk, F, b, hd, M, mg⟩ := G.ex
  exact pe_make0 M F (hr.mono hk) hg mg b hd pass0 hdb
end
end L2
namespace K02
open PySem PySem.Spec PyProof.Rows L2 Evl KB
section
variable {K : PySem.W.Frag} {σ : L2.St} {H : Hp} {CM CW CP tP e0 : Addr}
theorem ep_machine (tb : LamX.TabS H tP qLam) (hcc : CW ≠ CP) (he0 : ∀ G, SqT K G e0 []) : EvP (tMake CM (spMInit K CM CW CP tP) [.ref e0] E0 tNil) σ H (fun v G => ∃ x R pa, v = .ref x ∧ H x = none ∧ (∀ b ∈ R, b = tP ∨ H b = none) ∧ MaAt G CM CW CP tP R x [(1, pa, firstP)]) := fun G1 eg Q qq => by
  intro x dx nx ndx ne
  have tb1 : LamX.TabS (upd (upd G1 dx (.own x)) x (.ins CM dx [])) tP qLam := by
    refine tab_fr (F := []) tb (Fr.same (fun b o hb => ?_)) List.not_mem_nil
    have h1 := eg _ _ hb
    rw [upd_ne (ne_of_none h1 nx), upd_ne (ne_of_none h1 ndx)]
    exact h1
  refine ⟨x, dx, e0, rfl, he0, upd_same, hcc, tb1, fun G R pa off hR M => ⟨rfl, qq _ G (fun b u hb => ?_) ⟨x, R, pa, rfl, fresh_back eg nx, fun b m => ?_, M⟩⟩⟩
  · exact off b u (ne_of_none hb nx) (by rw [upd_ne (ne_of_none hb nx), upd_ne (ne_of_none hb ndx)]; exact hb)
  · rcases hR b m with z | z
    · exact .inl z
    · refine .inr (fresh_back eg ?_)
      have z1 : b ≠ x := fun y => by rw [y, upd_same] at z; cases z
      rw [upd_ne z1] at z
      by_cases y : b = dx
      · rw [y]; exact ndx
      · rw [upd_ne y] at z; exact z
end
/-! ### the story by hand, by families alone -/
/-- equal data, as a computation -/
def deq : Nat → PyData → PyData → Bool
  | 0, _, _ => false
  | k + 1, d, e => match d, e with
    | .none, .none => true
    | .int i, .int j => decide (i = j)
    | .str a, .str b => decide (a = b)
    | .tuple xs, .tuple ys => decide (xs.length = ys.length) && (xs.zip ys).all fun p => deq k p.1 p.2
    | _, _ => false
theorem deq_sound : ∀ (k : Nat) {d e : PyData}, deq k d e = true → d = e
  | 0, _, _, h => nomatch h
  | k + 1, d, e, h => by
    unfold deq at h
    split at h
    · rfl
    · rw [of_decide_eq_true h]
    · rw [of_decide_eq_true h]
    · rename_i xs ys
      rw [Bool.and_eq_true, decide_eq_true_iff] at h
      congr 1
      refine List.ext_getElem h.1 fun i h1 h2 => ?_
      have hz : i < (xs.zip ys).length := by rw [List.length_zip]; omega
      have h3 := List.all_eq_true.mp h.2 _ (List.getElem_mem hz)
      rw [List.getElem_zip] at h3
      exact deq_sound k h3
    · cases h
/-- what a row is told -/
inductive Wt
  | non | int (i : Int) | pair (i j : Int) | word (w : Str)
def Wt.d : Wt → PyData
  | .non => .none | .int i => .int i | .pair i j => .tuple [.int i, .int j] | .word w => .str w
def Wt.head : Wt → Str
  | .word _ => "refused"
  | _ => "told"
def Wt.ans (w : Wt) : PyData := .tuple [.str w.head, w.d]
def rowsK (a : Int) : List (Int × Cl × Wt) := [(1, .fork a, .int a), (a, .lead, .non), (a, .fork (a + 1), .int (a + 1)), (a + 1, .join (a + 1) (a + 1), .non),
  (a, .fin 4, .non), (1, .wait a, .pair a 4), (1, .fork a, .word "taken"), (a + 1, .fin 0, .non),
  (1, .fork a, .word "taken"), (1, .wait (a + 1), .pair (a + 1) 0), (1, .fork a, .int a),
  (1, .fork (a + 2), .int (a + 2)), (1, .fork (a + 3), .int (a + 3)), (1, .join (a + 3) (a + 2), .non), (a + 3, .fin 1, .non),
  (a + 2, .lead, .word "group"), (1, .wait (a + 3), .pair (a + 3) 1), (a + 2, .lead, .non),
  (1, .fork (a + 4), .int (a + 4)), (1, .fork (a + 5), .int (a + 5)), (1, .join (a + 5) (a + 4), .non), (a + 4, .fin 2, .non),
  (1, .wait (a + 4), .pair (a + 4) 2), (a + 5, .fin 3, .non), (1, .fork (a + 4), .word "taken"), (1, .fork (a + 6), .int (a + 6)),
  (1, .join (a + 6) (a + 4), .non), (1, .wait (a + 5), .pair (a + 5) 3), (1, .fork (a + 4), .word "taken"),
  (a + 6, .join (a + 6) 1, .non), (1, .fork (a + 4), .int (a + 4)), (1, .join (a + 2) 1, .word "no child")]
def okCl : Cl → Bool
  | .fork new => decide (1 ≤ new)
  | _ => true
def storyB : Fam → List (Int × Cl × Wt) → Bool
  | _, [] => true
  | S, (n, c, wt) :: rows => S.runs n && (okCl c && (decide (S.length < 40) && match S.at n with
    | none => false
    | some p => deq 4 (perfP S n p c).2 wt.ans && ((rdyK (perfP S n p c).1).isEmpty && storyB (settS (perfP S n p c).1) rows)))
end K02
set_option Elab.async false
set_option linter.all false
set_option maxRecDepth 100000
set_option maxHeartbeats 4000000
namespace K02
open PySem PySem.Spec PyProof.Rows L2 Evl KB
/-! ### data without lists -/
inductive Fl : Nat → PyData → Prop
  | non {k} : Fl k .none
  | bl {k} (b : Bool) : Fl k (.bool b)
  | int {k} (i : Int) : Fl k (.int i)
  | str {k} {s : Str} (h : cpOk s) : Fl k (.str s)
  | tup {k} {ds : List PyData} (hl : ds.length ≤ 10) (h : ∀ d ∈ ds, Fl k d) : Fl (k + 1) (.tuple ds)
theorem dxall_map {H H' : Hp} : ∀ {xs : List V} {ds : List PyData}, DxAll H xs ds → (∀ v, ∀ d ∈ ds, Dx H v d → Dx H' v d) → DxAll H' xs ds
  | _, _, .nil, _ => .nil
  | _, _, .cons h t, f => .cons (f _ _ List.mem_cons_self h) (dxall_map t fun v d m => f v d (List.mem_cons_of_mem _ m))
theorem Fl.fr {F : List Addr} {H H' : Hp} (f : Fr F H H') {k : Nat} {d : PyData} (h : Fl k d) : ∀ {v : V}, Dx H v d → Dx H' v d := by
  induction h with
  | non => intro v g; cases g; exact .non
  | bl b => intro v g; cases g; exact .bl b
  | int i => intro v g; cases g; exact .int i
  | str h => intro v g; cases g; exact .str _
  | tup hl h ih =>
    intro v g
    cases g with
    | tup e k => exact .tup (f _ _ e (.inr (.inl ⟨_, rfl⟩))) (dxall_map k fun v d m => ih d m)
theorem lay_all : ∀ {ds : List PyData}, (∀ d ∈ ds, PyData.canLay0 d = true) → PyData.canLayAll0 ds = true
  | [], _ => by simp [PyData.canLayAll0]
  | d :: ds, h => by
    simp only [PyData.canLayAll0, Bool.and_eq_true]
    exact ⟨h d List.mem_cons_self, lay_all fun x m => h x (List.mem_cons_of_mem _ m)⟩
theorem depth_all {n : Nat} : ∀ {ds : List PyData}, (∀ d ∈ ds, PyData.depth d ≤ n) → PyData.depthAll ds ≤ n
  | [], _ => by simp [PyData.depthAll]
  | d :: ds, h => by
    have h1 := h d List.mem_cons_self
    have h2 := depth_all (ds := ds) fun x m => h x (List.mem_cons_of_mem _ m)
    simp only [PyData.depthAll]
    omega
theorem Fl.lay {k : Nat} {d : PyData} (h : Fl k d) : PyData.canLay0 d = true ∧ PyData.depth d ≤ k := by
  induction h with
  | non => exact ⟨by simp [PyData.canLay0], by simp [PyData.depth]⟩
  | bl b => exact ⟨by simp [PyData.canLay0], by simp [PyData.depth]⟩
  | int i => exact ⟨by simp [PyData.canLay0], by simp [PyData.depth]⟩
  | str h => exact ⟨cp_lay h, by simp [PyData.depth]⟩
  | tup hl h ih =>
    refine ⟨by simp only [PyData.canLay0]; exact lay_all fun d m => (ih d m).1, ?_⟩
    simp only [PyData.depth]
    have := depth_all fun d m => (ih d m).2
    omega
theorem Fl.shaped {k : Nat} {d : PyData} (h : Fl k d) (hk : k ≤ 64) : SeqAt.shaped d = true := by
  obtain ⟨a, b⟩ := h.lay
  show (d.canLay0 && decide (d.depth ≤ 64)) = true
  rw [a, decide_eq_true (by omega : d.depth ≤ 64)]
  rfl
theorem Fl.sh {k : Nat} {d : PyData} (h : Fl k d) : Sh (k + 1) d := by
  induction h with
  | non => exact True.intro
  | bl b => exact True.intro
  | int i => exact True.intro
  | str h => exact True.intro
  | tup hl h ih => exact ⟨by omega, ih⟩
theorem Fl.up {k : Nat} {d : PyData} (h : Fl k d) : Fl (k + 1) d := by
  induction h with
  | non => exact .non
  | bl b => exact .bl b
  | int i => exact .int i
  | str h => exact .str h
  | tup hl h ih => exact .tup hl ih
theorem Fl.le {k m : Nat} {d : PyData} (h : Fl k d) (hm : k ≤ m) : Fl m d := by
  induction hm with
  | refl => exact h
  | step _ ih => exact ih.up
theorem fl_s (s : String) {k : Nat} : Fl k (.str (s : Str)) := .str (cp_of s)
theorem fl_2 {k : Nat} {d e : PyData} (h1 : Fl k d) (h2 : Fl k e) : Fl (k + 1) (.tuple [d, e]) := .tup (by show 2 ≤ 10; decide) fun x m => by
  rcases List.mem_cons.mp m with rfl | m
  · exact h1
  · rw [List.mem_singleton.mp m]; exact h2
theorem fl_told {k : Nat} {d : PyData} (h : Fl k d) : Fl (k + 1) (toldD d) := fl_2 (fl_s "told") h
theorem fl_ref {k : Nat} (w : String) : Fl (k + 1) (refD (w : Str)) := fl_2 (fl_s "refused") (fl_s w)
theorem fl_opt {k : Nat} (o : Option Int) : Fl k (optD o) := by cases o with | none => exact .non | some i => exact .int i
theorem fl_word (p : Pr) {k : Nat} : Fl k (.str (wordP p)) := by
  unfold wordP
  split
  · exact fl_s "ended"
  · split
    · exact fl_s "stopped"
    · split
      · exact fl_s "runs"
      · exact fl_s "waits"
theorem fl_about (S : Fam) (who : Int) : Fl 3 (aboutD S who) := by
  unfold aboutD
  split
  · refine fl_told (.tup (by show 5 ≤ 10; decide) fun d m => ?_)
    rename_i p _
    simp only [List.mem_cons, List.not_mem_nil, or_false] at m
    rcases m with rfl | rfl | rfl | rfl | rfl
    · exact .int _
    · exact .int _
    · exact fl_word p
    · unfold placeD
      split
      · exact .non
      · exact .int _
    · cases p.who with
      | none => exact .non
      | some w => exact fl_2 (fl_s "wait") (.int _)
  · exact fl_ref "no process"
theorem fl_ans (S : Fam) (k : Int) : Fl 3 (ansOf S k) := by
  unfold ansOf
  split
  · exact fl_told (fl_2 (.int _) (fl_opt _))
  · exact .non
theorem fl_perf (S : Fam) (n : Int) (p : Pr) (c : Cl) : Fl 3 (perfP S n p c).2 := by
  cases c with
  | fork new =>
    show Fl 3 (if decide (199 < new) || takenB S new then (S, refD "taken") else (S ++ [(new, newP (some n) p.ses p.grp)], toldD (.int new))).2
    split
    · exact fl_ref "taken"
    · exact fl_told (.int _)
  | lead =>
    show Fl 3 (if S.kids n ≠ [] then (S, refD "children") else if grpB S n = true then (S, refD "group") else (S.set n { p with ses := n, grp := n }, toldD .none)).2
    split
    · exact fl_ref "children"
    · split
      · exact fl_ref "group"
      · exact fl_told .non
  | adopt =>
    show Fl 3 (if S.kids n ≠ [] then (S, refD "children") else (S.set n { p with ado := true }, toldD .none)).2
    split
    · exact fl_ref "children"
    · exact fl_told .non
  | join who g =>
    show Fl 3 (joinS S n who g).2
    unfold joinS
    split
    · exact fl_ref "no child"
    · split
      · exact fl_ref "no child"
      · split
        · exact fl_ref "leads"
        · split
          · exact fl_ref "no group"
          · exact fl_told .non
  | fin code =>
    show Fl 3 (if n = 1 then (S, refD "first") else (endS S n p code, toldD .none)).2
    split
    · exact fl_ref "first"
    · exact fl_told .non
  | wait who =>
    show Fl 3 (if S.kids n = [] then (S, refD "no child") else if who ∉ 0 :: S.kids n then (S, refD "no child") else beginS S n p who).2
    split
    · exact fl_ref "no child"
    · split
      · exact fl_ref "no child"
      · unfold beginS
        split
        · unfold waitS
          split
          · exact .non
          · exact fl_told (fl_2 (.int _) (fl_opt _))
        · split
          · exact fl_ref "first"
          · exact .tup (by show 1 ≤ 10; decide) fun d m => by rw [List.mem_singleton.mp m]; exact fl_s "waits"
  | about who => exact fl_about S who
theorem fl_oth (S : Fam) : ∀ d ∈ othD S, Fl 4 d := fun d m => by
  obtain ⟨k, _, rfl⟩ := List.mem_map.mp m
  exact fl_2 (.int _) (fl_ans S k)
/-- what do returned stands behind other changes -/
theorem due_fr {F : List Addr} {H H' : Hp} {u : V} {a : PyData} {ds : List PyData} {k : Nat} (f : Fr F H H') (ha : Fl k a) (hd : ∀ d ∈ ds, Fl k d) (h : Dx H u (.tuple [a, .list ds])) (hn : ∀ t va la, u = .ref t → H t = some (.tup [va, .ref la]) → la ∉ F) : Dx H' u (.tuple [a, .list ds]) := by
  cases h with
  | @tup t xs _ e kx =>
    cases kx with
    | @cons va _ vs _ h1 kx =>
      cases kx with
      | @cons vl _ _ _ h2 kx =>
        cases kx
        cases h2 with
        | @lst la ys _ e2 k2 =>
          have nla := hn t va la rfl e
          exact .tup (f _ _ e (.inr (.inl ⟨_, rfl⟩))) (.cons (ha.fr f h1) (.cons (.lst (f _ _ e2 (.inl nla)) (dxall_map k2 fun v d m => (hd d m).fr f)) .nil))
theorem pass_no {X : Cx} {σ : L2.St} : PassesAt (L2.CX X.prog X.w) X σ E0 := fun _ _ _ _ _ _ h => by
  obtain ⟨_, _, _, _, _, _, _, _, _, _, _, _, h⟩ := h
  exact h.elim
section
variable {K : PySem.W.Frag} {σ : L2.St} {H : Hp} {te : TE} {v : V}
theorem ev_isStr {w : Wt} (h : Ev te σ H v) (g : Dx H v w.d) : Ev (tCB (rIsi K) (tCons te (tCons (tC (.ty "str")) tNil))) σ H (.bl (decide (w.head = "refused"))) := fun H1 e1 Q q => h H1 e1 _ fun H2 e2 => by
  have g2 := g.mono (e1.trans e2)
  have q2 := q H2 e2
  cases w with
  | non =>
    cases g2
    exact ⟨_, _, _, _, false, rfl, .ty _, .base .non, kit_ty (by decide +kernel), by rw [show decide (Wt.non.head = "refused") = false by decide +kernel] at q2; exact q2⟩
  | int i =>
    cases g2
    exact ⟨_, _, _, _, false, rfl, .ty _, .base (.int i), kit_ty (by decide +kernel), by rw [show decide ((Wt.int i).head = "refused") = false from (show decide (("told" : Str) = "refused") = false by decide +kernel)] at q2; exact q2⟩
  | pair i j =>
    cases g2 with
    | tup e k => exact ⟨_, _, _, _, false, rfl, .ty _, .base (.tup e), kit_ty (by decide +kernel), by rw [show decide ((Wt.pair i j).head = "refused") = false from (show decide (("told" : Str) = "refused") = false by decide +kernel)] at q2; exact q2⟩
  | word s =>
    cases g2
    exact ⟨_, _, _, _, true, rfl, .ty _, .base (.str s), kit_ty (by decide +kernel), by rw [show decide ((Wt.word s).head = "refused") = true from (show decide (("refused" : Str) = "refused") = true by decide +kernel)] at q2; exact q2⟩
end
end K02
set_option Elab.async false
set_option linter.all false
set_option maxRecDepth 100000
set_option maxHeartbeats 4000000
namespace K02
open PySem PySem.Spec PyProof.Rows L2 Evl KB
/-! ### what is told is flat -/
theorem fl_send (S : Fam) (k : Kd) (who : Int) : Fl 3 (sendS S k who).2 := by
  unfold sendS
  cases S.at who with
  | none => exact fl_ref "no process"
  | some q =>
    show Fl 3 (if q.code.isSome = true then (S, refD "no process") else if who = 1 then (S, refD "first") else (delS S who q k, toldD .none)).2
    split
    · exact fl_ref "no process"
    · split
      · exact fl_ref "first"
      · exact fl_told .non
theorem fl_perfS (S : Fam) (n : Int) (p : Pr) (c : Cs) : Fl 3 (perfPS S n p c).2 := by
  cases c with
  | fam c => exact fl_perf S n p c
  | send k who => exact fl_send S k who
theorem fl_look {A : List (Int × PyData)} (h : ∀ x ∈ A, Fl 3 x.2) (k : Int) : Fl 3 ((A.lookup k).getD .none) := by
  induction A with
  | nil => exact .non
  | cons a A ih =>
    rw [List.lookup_cons]
    by_cases z : k = a.1
    · rw [beq_iff_eq.mpr z]
      exact h a List.mem_cons_self
    · rw [beq_eq_false_iff_ne.mpr z]
      exact ih fun x m => h x (List.mem_cons_of_mem _ m)
theorem fl_ansD {A : List (Int × PyData)} (h : ∀ x ∈ A, Fl 3 x.2) : ∀ d ∈ ansD A, Fl 4 d := fun d m => by
  obtain ⟨k, _, rfl⟩ := List.mem_map.mp m
  exact fl_2 (.int _) (fl_look h k)
theorem fl_both (S : Fam) (n : Int) (p : Pr) (c : Cs) : ∀ x ∈ perfA S c ++ ansA (perfPS S n p c).1, Fl 3 x.2 := fun x m => by
  rcases List.mem_append.mp m with m | m
  · rcases perfA_cases S c with h | ⟨_, _, _, _, _, _, _, h⟩
    · rw [h] at m; cases m
    · rw [h] at m
      rw [List.mem_singleton.mp m]
      exact .tup (by show 1 ≤ 10; decide) fun d m => by rw [List.mem_singleton.mp m]; exact fl_s "woken"
  · obtain ⟨k, _, rfl⟩ := List.mem_map.mp m
    exact fl_ans _ k
theorem ansD_len (A : List (Int × PyData)) : (ansD A).length ≤ A.length := by
  unfold ansD
  rw [List.length_map]
  have := len_asc (A.map (·.1))
  rw [List.length_map] at this
  exact this
theorem both_len (S : Fam) (n : Int) (p : Pr) (c : Cs) (h : S.length ≤ 64) : (ansD (perfA S c ++ ansA (perfPS S n p c).1)).length ≤ 1000 := by
  have h1 := ansD_len (perfA S c ++ ansA (perfPS S n p c).1)
  have h2 := perfA_len S c
  have h3 : (ansA (perfPS S n p c).1).length = (rdyK (perfPS S n p c).1).length := by unfold ansA; rw [List.length_map]
  have h4 := rdy_len (perfPS S n p c).1
  have h5 := (perfs_len S n p c).1
  rw [List.length_append] at h1
  omega
theorem inv_one : Inv [(1, firstP)] := by
  refine ⟨⟨by decide, ⟨firstP, [], rfl, rfl, rfl, rfl⟩, fun i n p h z => ?_, by show 1 < 64; decide, fun e m hd => ?_⟩, fun e m hw => ?_, fun e m w hw => ?_, fun p hp => ?_, fun k m => ?_⟩
  · cases i with
    | zero => exact absurd rfl z
    | succ i => simp at h
  · rw [List.mem_singleton.mp m] at hd; cases hd
  · rw [List.mem_singleton.mp m] at hw; cases hw
  · rw [List.mem_singleton.mp m] at hw; cases hw
  · have : firstP = p := Option.some.inj (show some firstP = some p from hp)
    rw [← this]
    exact ⟨rfl, rfl⟩
  · have : k = 1 := by simpa [Fam.keys] using m
    omega
theorem log_small {n : Int} (h1 : 1 ≤ n) (h2 : n ≤ 199) : n.natAbs.log2 < 900 := by
  have h3 : n.natAbs ≤ 199 := by omega
  have : n.natAbs.log2 ≤ n.natAbs := Nat.log2_le_self _
  omega
/-- machine, law's world and box, between two calls -/
structure Rw (H0 : Hp) (CM CW CP tP p ma lw : Addr) (R : List Addr) (E L : List Ent) (c0 : Int) (k : Nat) (G : Hp) : Prop where
  m : MaAt G CM CW CP tP R ma E
  l : LW G lw L
  eq : famE E = famE L
  inv : Inv (famE L)
  set : rdyK (famE L) = []
  few : L.length ≤ 18
  src : ∃ c, Src G p c ∧ c0 ≤ c ∧ c ≤ c0 + k
  pR : p ∉ ma :: R
  pl : p ∉ footL lw L
  dj : ∀ b ∈ footL lw L, b ∉ ma :: R
  fr : Fr [p, tP] H0 G
  nR : ∀ b ∈ R, b = tP ∨ H0 b = none
  nL : ∀ b ∈ footL lw L, H0 b = none
  nM : H0 ma = none
section
variable {H0 G G' : Hp} {CM CW CP tP p ma lw : Addr} {R : List Addr} {E L : List Ent} {c0 : Int} {k : Nat}
theorem Rw.ex (W : Rw H0 CM CW CP tP p ma lw R E L c0 k G) (e : Ex G G') : Rw H0 CM CW CP tP p ma lw R E L c0 k G' := by
  obtain ⟨c, s, h1, h2⟩ := W.src
  exact ⟨W.m.same e, W.l.ex e, W.eq, W.inv, W.set, W.few, ⟨c, src_ex e s, h1, h2⟩, W.pR, W.pl, W.dj, W.fr.trans (Fr.same e), W.nR, W.nL, W.nM⟩
theorem Rw.up {m : Nat} (W : Rw H0 CM CW CP tP p ma lw R E L c0 k G) (h : k ≤ m) : Rw H0 CM CW CP tP p ma lw R E L c0 m G := by
  obtain ⟨c, s, h1, h2⟩ := W.src
  exact ⟨W.m, W.l, W.eq, W.inv, W.set, W.few, ⟨c, s, h1, by omega⟩, W.pR, W.pl, W.dj, W.fr, W.nR, W.nL, W.nM⟩
theorem Rw.draw {m : Nat} (W : Rw H0 CM CW CP tP p ma lw R E L c0 k G) (D : Dw G p lw L c0 m G') : Rw H0 CM CW CP tP p ma lw R E L c0 m G' :=
  ⟨W.m.fr D.fr fun a ma' z => W.pR (by rw [← List.mem_singleton.mp z]; exact ma'), D.w, W.eq, W.inv, W.set, W.few, D.src, W.pR, W.pl, W.dj, W.fr.trans (D.fr.more fun b m => by rw [List.mem_singleton.mp m]; exact List.mem_cons_self), W.nR, W.nL, W.nM⟩
theorem MaAt.alo (M : MaAt G CM CW CP tP R ma E) : ∀ b ∈ ma :: R, ∃ o, G b = some o := fun b m => by
  obtain ⟨wa, dx, h, pd, ad, fi, th, pi, si, ar, dx', ser, W⟩ := M.ex
  rcases List.mem_cons.mp m with z | m
  · rw [z]; exact ⟨_, h⟩
  · exact W.alo b m
theorem LW.alo {lw : Addr} {L : List Ent} (W : LW G lw L) : ∀ b ∈ footL lw L, ∃ o, G b = some o := fun b m => by
  rcases List.mem_cons.mp m with z | m
  · rw [z]; exact ⟨_, W.top⟩
  · obtain ⟨e, me, ee⟩ := List.mem_map.mp m
    obtain ⟨vc, h1, _⟩ := W.recs e me
    rw [← ee]
    exact ⟨_, h1⟩
theorem MaAt.tab (M : MaAt G CM CW CP tP R ma E) : LamX.TabS G tP qLam := by
  obtain ⟨wa, dx, h, pd, ad, fi, th, pi, si, ar, dx', ser, W⟩ := M.ex
  exact W.tab.1
/-- both made a call -/
theorem Rw.step {L' E' : List Ent} {R' : List Addr} {G2 G3 : Hp} {S' : Fam} (W : Rw H0 CM CW CP tP p ma lw R E L c0 k G) (f2 : Fr (footL lw L) G G2) (s2 : ∀ b ∈ footL lw L', b ∈ footL lw L ∨ G b = none) (W2 : LW G2 lw L') (f3 : Fr R G2 G3) (t3 : ∀ b ∈ R', b ∈ R ∨ G2 b = none) (M3 : MaAt G3 CM CW CP tP R' ma E')
    (e1 : famE L' = S') (e2 : famE E' = S') (I : Inv S') (st : rdyK S' = []) (few : S'.length ≤ 18) : Rw H0 CM CW CP tP p ma lw R' E' L' c0 k G3 := by
  obtain ⟨c, s, h1, h2⟩ := W.src
  have d2 : ∀ b ∈ footL lw L', b ∉ ma :: R := fun b m z => by
    rcases s2 b m with y | y
    · exact W.dj b y z
    · obtain ⟨o, ho⟩ := W.m.alo b z
      rw [y] at ho
      cases ho
  have d3 : ∀ b ∈ footL lw L', b ∉ ma :: R' := fun b m z => by
    rcases List.mem_cons.mp z with z | z
    · exact d2 b m (by rw [z]; exact List.mem_cons_self)
    · rcases t3 b z with y | y
      · exact d2 b m (List.mem_cons_of_mem _ y)
      · obtain ⟨o, ho⟩ := W2.alo b m
        rw [y] at ho
        cases ho
  have hs : ∃ a b, G p = some (.lst [.int a, .int b, .int c]) ∧ 0 ≤ a ∧ 0 ≤ b ∧ b < 2 ^ 33 ∧ 0 ≤ c := s
  obtain ⟨a, b, hp, hr⟩ := hs
  have hp2 := f2 _ _ hp (.inl W.pl)
  have pR2 : p ∉ R := fun m => W.pR (List.mem_cons_of_mem _ m)
  have hp3 := f3 _ _ hp2 (.inl pR2)
  refine ⟨M3, W2.fr f3 fun x mx z => d2 x mx (List.mem_cons_of_mem _ z), e2.trans e1.symm, by rw [e1]; exact I, by rw [e1]; exact st, by rw [← fam_len, e1]; exact few, ⟨c, ⟨a, b, hp3, hr⟩, h1, h2⟩, fun m => ?_, fun m => ?_, d3, ?_, fun x m => ?_, fun x m => ?_, W.nM⟩
  · rcases List.mem_cons.mp m with z | z
    · exact W.pR (by rw [z]; exact List.mem_cons_self)
    · rcases t3 p z with y | y
      · exact pR2 y
      · rw [hp2] at y; cases y
  · rcases s2 p m with y | y
    · exact W.pl y
    · rw [hp] at y; cases y
  · have g2 : Fr [p, tP] H0 G2 := W.fr.comp f2 fun x m => .inr (W.nL x m)
    exact g2.comp f3 fun x m => (W.nR x m).imp (fun z => by rw [z]; exact List.mem_cons_of_mem _ List.mem_cons_self) id
  · have g2 : Fr [p, tP] H0 G2 := W.fr.comp f2 fun x m => .inr (W.nL x m)
    rcases t3 x m with y | y
    · exact W.nR x y
    · rcases fr_back g2 y with z | z
      · rcases List.mem_cons.mp z with z | z
        · rw [z, hp2] at y; cases y
        · exact .inl (List.mem_singleton.mp z)
      · exact .inr z
  · rcases s2 x m with y | y
    · exact W.nL x y
    · rcases fr_back W.fr y with z | z
      · rcases List.mem_cons.mp z with z | z
        · rw [z, hp] at y; cases y
        · obtain ⟨ps, h1, _⟩ := W.m.tab
          rw [List.mem_singleton.mp z, h1] at y; cases y
      · exact z
/-- both made a call, the machine first -/
theorem Rw.step2 {L' E' : List Ent} {R' : List Addr} {G2 G3 : Hp} {S' : Fam} (W : Rw H0 CM CW CP tP p ma lw R E L c0 k G) (f3 : Fr R G G2) (t3 : ∀ b ∈ R', b ∈ R ∨ G b = none) (M3 : MaAt G2 CM CW CP tP R' ma E') (f2 : Fr (footL lw L) G2 G3) (s2 : ∀ b ∈ footL lw L', b ∈ footL lw L ∨ G2 b = none) (W2 : LW G3 lw L')
    (e1 : famE L' = S') (e2 : famE E' = S') (I : Inv S') (st : rdyK S' = []) (few : S'.length ≤ 18) : Rw H0 CM CW CP tP p ma lw R' E' L' c0 k G3 := by
  obtain ⟨c, s, h1, h2⟩ := W.src
  have dL : ∀ b ∈ footL lw L, b ∉ ma :: R' := fun b m z => by
    rcases List.mem_cons.mp z with z | z
    · exact W.dj b m (by rw [z]; exact List.mem_cons_self)
    · rcases t3 b z with y | y
      · exact W.dj b m (List.mem_cons_of_mem _ y)
      · obtain ⟨o, ho⟩ := W.l.alo b m
        rw [y] at ho
        cases ho
  have d3 : ∀ b ∈ footL lw L', b ∉ ma :: R' := fun b m z => by
    rcases s2 b m with y | y
    · exact dL b y z
    · obtain ⟨o, ho⟩ := M3.alo b z
      rw [y] at ho
      cases ho
  have hs : ∃ a b, G p = some (.lst [.int a, .int b, .int c]) ∧ 0 ≤ a ∧ 0 ≤ b ∧ b < 2 ^ 33 ∧ 0 ≤ c := s
  obtain ⟨a, b, hp, hr⟩ := hs
  have pR : p ∉ R := fun m => W.pR (List.mem_cons_of_mem _ m)
  have hp2 := f3 _ _ hp (.inl pR)
  have hp3 := f2 _ _ hp2 (.inl W.pl)
  have g2 : Fr [p, tP] H0 G2 := W.fr.comp f3 fun x m => (W.nR x m).imp (fun z => by rw [z]; exact List.mem_cons_of_mem _ List.mem_cons_self) id
  have tb2 := M3.tab
  refine ⟨M3.fr f2 fun x mx z => dL x z mx, W2, e2.trans e1.symm, by rw [e1]; exact I, by rw [e1]; exact st, by rw [← fam_len, e1]; exact few, ⟨c, ⟨a, b, hp3, hr⟩, h1, h2⟩, fun m => ?_, fun m => ?_, d3, ?_, fun x m => ?_, fun x m => ?_, W.nM⟩
  · rcases List.mem_cons.mp m with z | z
    · exact W.pR (by rw [z]; exact List.mem_cons_self)
    · rcases t3 p z with y | y
      · exact pR y
      · rw [hp] at y; cases y
  · rcases s2 p m with y | y
    · exact W.pl y
    · rw [hp2] at y; cases y
  · exact g2.comp f2 fun x m => .inr (W.nL x m)
  · rcases t3 x m with y | y
    · exact W.nR x y
    · rcases fr_back W.fr y with z | z
      · rcases List.mem_cons.mp z with z | z
        · rw [z, hp] at y; cases y
        · exact .inl (List.mem_singleton.mp z)
      · exact .inr z
  · rcases s2 x m with y | y
    · exact W.nL x y
    · rcases fr_back g2 y with z | z
      · rcases List.mem_cons.mp z with z | z
        · rw [z, hp2] at y; cases y
        · obtain ⟨ps, h1, _⟩ := tb2
          rw [List.mem_singleton.mp z, h1] at y; cases y
      · exact z
/-- a list that is no part of them is changed -/
theorem Rw.mut {D : Addr} {xs ys : List V} (W : Rw H0 CM CW CP tP p ma lw R E L c0 k G) (hD : G D = some (.lst xs)) (n0 : H0 D = none) (np : D ≠ p) (nR : D ∉ ma :: R) (nL : D ∉ footL lw L) : Rw H0 CM CW CP tP p ma lw R E L c0 k (upd G D (.lst ys)) := by
  have f : Fr [D] G (upd G D (.lst ys)) := Fr.upd hD True.intro (List.mem_singleton.mpr rfl)
  obtain ⟨c, ⟨a, b, hp, hr⟩, h1, h2⟩ := W.src
  exact ⟨W.m.fr f fun x m z => nR (by rw [← List.mem_singleton.mp z]; exact m), W.l.fr f fun x m z => nL (by rw [← List.mem_singleton.mp z]; exact m), W.eq, W.inv, W.set, W.few, ⟨c, ⟨a, b, (upd_ne (Ne.symm np)).trans hp, hr⟩, h1, h2⟩, W.pR, W.pl, W.dj, W.fr.comp f (fun x m => .inr (by rw [List.mem_singleton.mp m]; exact n0)), W.nR, W.nL, W.nM⟩
end
section
variable {K : PySem.W.Frag} {σ : L2.St} {H : Hp} {te ta t1 t2 : TE} {tz : TS} {D : Ends} {Q : VK} {v1 : V} {d : PyData} {tx : TA} {vs : List V} {E : XK} {sp : Sp}
theorem st_seqIf {t : TT} {tu tw : TS} (h : t σ H fun b H1 => if b = true then tu { D with nx := tz D } σ H1 else tw { D with nx := tz D } σ H1) : tSeq (tIfS t tu tw) tz D σ H := h
theorem el_listOf {K : PySem.W.Frag} {a : Addr} {xs : List V} (h : Ev ta σ H (.ref a)) (g : H a = some (.tup xs)) : EvL (tCB (fun xs H Q => ∃ p ys, xs = [.ref p] ∧ (SqL K H p ys ∨ SqT K H p ys) ∧ ∀ l, H l = none → Q (.ref l) (upd H l (.lst ys))) (tCons ta tNil)) σ H xs := fun H1 e Q q =>
  h H1 e _ fun H2 e2 => ⟨a, xs, rfl, .inr (st_of ((e.trans e2) _ _ g)), fun l nl => q l _ (fresh_back e2 nl) (e2.trans (Ex.new nl)) upd_same⟩
theorem ev_neS {K : PySem.W.Frag} {v : V} {d : PyData} {s : String} (h : Ev ta σ H v) (g : Dx H v d) (sd : SeqAt.shaped d = true) : Ev (tOp (rNeD K) ta (tC (.str (s : Str)))) σ H (.bl (!PyData.eqv d (.str (s : Str)))) := fun H1 e Q q =>
  h H1 e _ fun H2 e2 => ⟨d, .str (s : Str), (g.mono (e.trans e2)).dp, .str _, sd, (fl_s s (k := 0)).shaped (by decide), q H2 e2⟩
theorem st_seqG {g : TG} (h : te σ H fun x H1 => g x σ H1 (tz D)) : tSeq (tAsg te g) tz D σ H := h
theorem ef_methXL {C : Addr} {m : Str} {sp : Sp} {E : L2.St → XK} {xs : List V} {a dx : Addr} {fs : List (Str × V)} (ho : Ev ta σ H (.ref a)) (he : H a = some (.ins C dx fs)) (hl : fs.lookup m = none) (h1 : Ev t1 σ H v1) (h2 : EvL t2 σ H xs) (k : ∀ p H1, Ex H H1 → H1 p = some (.lst xs) → sp [.ref a, v1, .ref p] H1 Q (E σ)) : tMethX C m sp E ta (tCons t1 (tCons t2 tNil)) σ H Q :=
  ho H (Ex.refl H) _ fun H1 e1 => ⟨a, dx, fs, rfl, e1 _ _ he, hl, h1 H1 e1 _ fun H2 e2 => h2 H2 (e1.trans e2) _ fun p H3 np e3 g3 => k p H3 (e1.trans (e2.trans e3)) g3⟩
theorem ef_methXU {C : Addr} {m : Str} {sp : Sp} {E : L2.St → XK} {xs : List V} {a dx : Addr} {fs : List (Str × V)} (ho : Ev ta σ H (.ref a)) (he : H a = some (.ins C dx fs)) (hl : fs.lookup m = none) (h1 : Ev t1 σ H v1) (h2 : EvU t2 σ H xs) (k : ∀ p H1, Ex H H1 → H1 p = some (.tup xs) → sp [.ref a, v1, .ref p] H1 Q (E σ)) : tMethX C m sp E ta (tCons t1 (tCons t2 tNil)) σ H Q :=
  ho H (Ex.refl H) _ fun H1 e1 => ⟨a, dx, fs, rfl, e1 _ _ he, hl, h1 H1 e1 _ fun H2 e2 => h2 H2 (e1.trans e2) _ fun p H3 np e3 g3 => k p H3 (e1.trans (e2.trans e3)) g3⟩
theorem eg_callT (h : EvA tx σ H vs) (hs : ∀ H1, Ex H H1 → ∀ Q, RetT d H1 Q → sp (vs ++ []) H1 Q E) : EvG (tCall sp [] E tx) σ H d := fun H1 e1 Q q => h H1 e1 _ fun H2 e2 => hs H2 (e1.trans e2) Q fun v H3 e3 g => q v H3 (e2.trans e3) g
theorem ex_g (h : EvG te σ H d) : EvX te σ H d := fun H1 e1 Q q => h H1 e1 Q fun v H2 e2 g => q v H2 e2 g.dx
theorem ex_intsL {ns : List Int} (h : EvL te σ H (ns.map V.int)) : EvX te σ H (.list (ns.map PyData.int)) := fun H1 e1 Q q => h H1 e1 _ fun p H2 np e2 gp => q _ H2 e2 (.lst gp (dx_ints ns))
theorem sh_ints {n : Nat} (ns : List Int) (h : ns.length ≤ 1000) : Sh (n + 2) (.list (ns.map PyData.int)) := ⟨by rw [List.length_map]; exact h, fun d m => by
  obtain ⟨i, _, rfl⟩ := List.mem_map.mp m
  exact True.intro⟩
/-- both are told the same: the machine's answer is there, what follows -/
theorem same_rest {CM CW CP tP ma lw : Addr} {R : List Addr} {Es L : List Ent} {dd : PyData} {x0 x3 x4 x5 : Option V} {v6 v7 : V} {Kt : Bool → Hp → Prop} (M : MaAt H CM CW CP tP R ma Es) (W : LW H lw L) (eq : famE Es = famE L) (few : L.length < 64) (h6 : Dx H v6 dd) (h7 : Dx H v7 dd) (sh : Sh 7 dd) (k : ∀ G', Ex H G' → Kt true G') :
    tCons (tMeth CM "numbers" (spMNumbers CM CW CP tP) [] E0 (tVar 1) tNil) tNil [x0, some (.ref ma), some (.ref lw), x3, x4, x5, some v6] H (fun xs H2 => (v7 :: xs).length ≤ sizeLine ∧ ∀ p, H2 p = none → tCons (tLst (tCons (tVar 6) (tCons (tCB rSrtD (tCons (tVar 2) tNil)) tNil))) tNil [x0, some (.ref ma), some (.ref lw), x3, x4, x5, some v6] (upd H2 p (.lst (v7 :: xs))) (fun ys H3 => spSame 8 ((.ref p :: ys) ++ []) H3 (fun u H4 => ∃ c, u = .bl c ∧ Kt c H4) E0)) := by
  have hl : ((famE L).sorted).length ≤ 1000 := by
    have h1 := len_asc (famE L).keys
    have h2 : (famE L).keys.length = L.length := by rw [fam_keys, List.length_map]
    have h3 : (famE L).sorted.length ≤ (famE L).keys.length := h1
    omega
  obtain ⟨wa, dx, hm, W0⟩ := M.ex
  have numb : EvX (tMeth CM "numbers" (spMNumbers CM CW CP tP) [] E0 (tVar 1) tNil) [x0, some (.ref ma), some (.ref lw), x3, x4, x5, some v6] H (.list ((famE L).sorted.map PyData.int)) := fun H1 e1 Q q =>
    ef_meth (ev_var rfl) (e1 _ _ hm) rfl ea_nil fun H2 e2 => ⟨R, ma, Es, rfl, M.same (e1.trans e2), by rw [← fam_len, eq, fam_len]; exact few, fun p H3 np e3 gp => q _ H3 (e2.trans e3) (by rw [eq] at gp; exact .lst gp (dx_ints _))⟩
  refine st_cons (numb H (Ex.refl H) _ fun v1 H1 e1 g1 => st_nil ⟨by show 2 ≤ sizeLine; decide, fun a na => ?_⟩)
  have e2 : Ex H1 (upd H1 a (.lst [v7, v1])) := Ex.new na
  have ga : Dx (upd H1 a (.lst [v7, v1])) (.ref a) (.list [dd, .list ((famE L).sorted.map PyData.int)]) := .lst upd_same (.cons ((h7.mono e1).mono e2) (.cons (g1.mono e2) .nil))
  generalize upd H1 a (.lst [v7, v1]) = H2 at e2 ga ⊢
  have e02 := e1.trans e2
  refine st_cons ((ex_lstA (xa_cons (ev_x (ev_var rfl) (h6.mono e02)) (xa_cons (ex_intsL (el_lsorted (W.ex e02).rd W.keys (ev_var rfl) few)) xa_nil)) (by show 2 ≤ 100000; omega)) H2 (Ex.refl H2) _ fun b H3 e3 g3 => st_nil ?_)
  refine ⟨.ref a, b, _, rfl, ga.mono e3, g3, ⟨by show 2 ≤ 1000; omega, fun d md => ?_⟩, fun H4 e4 => ⟨true, rfl, k H4 (e02.trans (e3.trans e4))⟩⟩
  rcases List.mem_cons.mp md with rfl | md
  · exact sh
  · rw [List.mem_singleton.mp md]
    exact sh_ints (n := 5) _ hl
theorem sh_due {n : Nat} {a : PyData} {ds : List PyData} (ha : Fl 3 a) (hd : ∀ d ∈ ds, Fl 4 d) (hl : ds.length ≤ 1000) : Sh 7 (.tuple [a, .list ds]) := ⟨by show 2 ≤ 1000; omega, fun d md => by
  rcases List.mem_cons.mp md with rfl | md
  · exact (ha.le (show 3 ≤ 5 by decide)).sh
  · rw [List.mem_singleton.mp md]
    exact ⟨hl, fun e me => (hd e me).sh⟩⟩
end
theorem eqv_nstr {d : PyData} (h : ∀ z, d ≠ .str z) (s : Str) : PyData.eqv d (.str s) = false := by
  cases d with
  | str z => exact absurd rfl (h z)
  | _ => simp [PyData.eqv]
theorem inv_run1 {S : Fam} (I : Inv S) : S.runs 1 = true := by
  obtain ⟨p, h1, _, _, _, h4⟩ := first_at I.ord
  obtain ⟨h5, h6⟩ := I.fst p h1
  unfold Fam.runs
  rw [h1]
  show (p.code.isNone && !p.stp && p.who.isNone) = true
  rw [h4, h5, h6]
  rfl
/-- the parts of what do returns -/
theorem due_kind {H : Hp} {u : V} {a : PyData} {ds : List PyData} (h : Dx H u (.tuple [a, .list ds])) : ∃ t va la ys, u = .ref t ∧ H t = some (.tup [va, .ref la]) ∧ H la = some (.lst ys) ∧ Dx H va a := by
  cases h with
  | @tup t xs _ e kx =>
    cases kx with
    | @cons va _ vs _ h1 kx =>
      cases kx with
      | @cons vl _ _ _ h2 kx =>
        cases kx
        cases h2 with
        | @lst la ys _ e2 k2 => exact ⟨t, va, la, ys, rfl, e, e2, h1⟩
theorem LW.nolst {H : Hp} {lw : Addr} {L : List Ent} (W : LW H lw L) {la : Addr} {ys : List V} (h : H la = some (.lst ys)) : la ∉ footL lw L := fun m => by
  rcases List.mem_cons.mp m with z | m
  · rw [z, W.top] at h; cases h
  · obtain ⟨e, me, ee⟩ := List.mem_map.mp m
    obtain ⟨vc, h1, _⟩ := W.recs e me
    rw [ee, h] at h1
    cases h1
/-- behind settling nothing is left to tell -/
theorem set_about {S : Fam} (h : rdyK S = []) (n : Int) {q : Pr} (who : Int) : settS (perfPS S n q (.fam (.about who))).1 = S ∧ ansD (perfA S (.fam (.about who)) ++ ansA (perfPS S n q (.fam (.about who))).1) = [] := by
  refine ⟨?_, ?_⟩
  · show settS S = S
    unfold settS
    rw [h, fin_nil]
  · show ansD ([] ++ ansA S) = []
    unfold ansA
    rw [h]
    rfl
end K02
set_option Elab.async false
set_option linter.all false
set_option maxRecDepth 100000
set_option maxHeartbeats 4000000
namespace K02
open PySem PySem.Spec PyProof.Rows L2 Evl KB
theorem st_yes {σ : L2.St} {H : Hp} {Q : Bool → Hp → Prop} (h : Q true H) : tYes σ H Q := h
abbrev sLAllAbout : Stmt := topS 111
abbrev nLAllAbout : List Str := ["_law_machine", "_law_world", "_law_n"]
theorem scLAllAbout : FnScope nLAllAbout ["_law_machine", "_law_world"] (defScope sLAllAbout) := ⟨rfl, rfl, rfl, by decide +kernel, rfl, by decide +kernel, by decide +kernel⟩
def spLAllAbout (CM CW CP tP : Addr) : Sp := fun vs H Q _ => ∃ H0 p ma lw R E L c0 k, vs = [.ref ma, .ref lw] ∧ Rw H0 CM CW CP tP p ma lw R E L c0 k H ∧ ∀ H' R' E', Rw H0 CM CW CP tP p ma lw R' E' L c0 k H' → Q (.bl true) H'
section
variable {P : Program} {w : World} {K : PySem.W.Frag} {mg : Str → Option Value} {base : Heap} {CM CW CP tP CN f : Addr} {fd : FuncData}
theorem ok_LAllAbout (F : Fun K "_law_all_about" "_law_all_about" sLAllAbout f fd) (TM : MT K CM) (G_Machine_do : KmX P w K mg base 10 CM "do" ["self", "number", "call"] (spMDoS CM CW CP tP CN)) (G__law_same : Kf P w K mg base 8 "_law_same" ["_law_found", "_law_due"] (spSame 8)) (G__law_about : Kf P w K mg base 1 "_law_about" ["_law_world", "_law_who"] spLAbout)
    (m_sorted : mg "sorted" = none) (m_all : mg "all" = none) : FnOk P w K mg base CX0 11 f fd ["_law_machine", "_law_world"] (spLAllAbout CM CW CP tP) := by
  refine F.ok scLAllAbout (fun vs H Q E h => ?_) (fun cdv A outer s H vs Q E hr h => ?_)
  · obtain ⟨H0, p, ma, lw, R, E, L, c0, k, rfl, _⟩ := h
    rfl
  · obtain ⟨H0, p, ma, lw, R, E, L, c0, k, rfl, W, q⟩ := h
    have nd := scLAllAbout.nd
    have hu := hu_of hr
    refine ⟨_, (pss_one (ps_ret (pe_callB (cr_all rfl) (by rfl) m_all (by decide +kernel) (pa_cons (pe_lc (own := [("_law_n", 2)]) (g := gName 2) (tt := tYes) (te := tCall (spSame 8) [] E0 (tCons (tMethX CM "do" (spMDoS CM CW CP tP CN) (fun _ => E0) (tVar 0) (tCons (tC (.int 1)) (tCons (tTup (tCons (tC (.str "about")) (tCons (tVar 2) tNil))) tNil))) (tCons (tTup (tCons (tCall spLAbout [] E0 (tCons (tVar 1) (tCons (tVar 2) tNil))) (tCons (tLst tNil) tNil))) tNil))) rfl nd (pi_list (pe_callB (cr_srtD rfl) (by rfl) m_sorted (by decide +kernel) (pa_cons (pv 1) pa_nil))) (blkOk_by (N := nLAllAbout) (sc := defScope sLAllAbout) (by decide +kernel)) (fun _ _ _ _ _ => (pg_name (i := 2) nd rfl (by first | exact .inl rfl | exact .inr rfl))) (fun _ _ _ _ _ => pts_nil) (fun _ _ _ _ _ => (pe_fn G__law_same (hr.mono (by decide)) (pa_cons (pe_mtS (E := fun _ => E0) (pv 0) G_Machine_do (hr.mono (by decide)) (fun σ => pass_no) (pa_cons pe_int (pa_cons (pe_tup (pa_cons pe_str (pa_cons (pv 2) pa_nil))) pa_nil))) (pa_cons (pe_tup (pa_cons (pe_fn G__law_about (hr.mono (by decide)) (pa_cons (pv 1) (pa_cons (pv 2) pa_nil))) (pa_cons (pe_lst pa_nil) pa_nil))) pa_nil))))) pa_nil)))), ?_⟩
    have few := W.few
    have sl : ((famE L).sorted).length ≤ 18 := by
      have h1 := len_asc (famE L).keys
      have h2 : (famE L).keys.length = L.length := by rw [fam_keys, List.length_map]
      have h3 : (famE L).sorted.length ≤ (famE L).keys.length := h1
      omega
    have lens : EvL (tCB rSrtD (tCons (tVar 1) tNil)) (start nLAllAbout [.ref ma, .ref lw]) H ((famE L).sorted.map V.int) := el_lsorted W.l.rd W.l.keys (ev_var rfl) (by omega)
    refine lens H (Ex.refl H) _ fun a H1 na e1 ga => ⟨a, rfl, ⟨_, sq_of ga⟩, fun Dl hD => ?_⟩
    have W1 := W.ex e1
    have back : ∀ {b : Addr} {G : Hp}, G b = none → (∀ x, H b = some x → ∃ y, G b = some y) → H b = none := fun {b G} hb hx => by
      cases z : H b with
      | none => rfl
      | some x =>
        obtain ⟨y, hy⟩ := hx x z
        rw [hb] at hy
        cases hy
    have nH : H Dl = none := fresh_back e1 hD
    have old : ∀ {b : Addr} {G : Hp}, H b = none → G = H → True := fun _ _ => True.intro
    have nDH0 : H0 Dl = none := by
      rcases fr_back W.fr nH with z | z
      · obtain ⟨c, ⟨x1, x2, hp, _⟩, _⟩ := W.src
        rcases List.mem_cons.mp z with z | z
        · rw [z, hp] at nH; cases nH
        · obtain ⟨ps, h1, _⟩ := W.m.tab
          rw [List.mem_singleton.mp z, h1] at nH; cases nH
      · exact z
    have nDp : Dl ≠ p := fun z => by
      obtain ⟨c, ⟨x1, x2, hp, _⟩, _⟩ := W.src
      rw [z, hp] at nH; cases nH
    have nDR : Dl ∉ ma :: R := fun m => by
      obtain ⟨o, ho⟩ := W.m.alo Dl m
      rw [nH] at ho; cases ho
    have nDL : Dl ∉ footL lw L := fun m => by
      obtain ⟨o, ho⟩ := W.l.alo Dl m
      rw [nH] at ho; cases ho
    have naR : a ∉ R := fun m => by
      obtain ⟨o, ho⟩ := W.m.alo a (List.mem_cons_of_mem _ m)
      rw [na] at ho; cases ho
    have naD : a ≠ Dl := fun z => by rw [z, hD] at ga; cases ga
    refine lc_it (walk_list (K := K) (a := a) (xs := (famE L).sorted.map V.int)) (fun i G => ∃ R E, Rw H0 CM CW CP tP p ma lw R E L c0 k G ∧ G a = some (.lst ((famE L).sorted.map V.int)) ∧ G Dl = some (.lst ((List.replicate i true).map V.bl)) ∧ a ∉ R ∧ Dl ∉ ma :: R) ⟨R, E, W1.ex (Ex.new hD), (Ex.new hD) _ _ ga, upd_same, naR, nDR⟩ (fun i G _ m => by
      obtain ⟨_, _, _, h, _⟩ := m
      exact SqL.of h) ?_ fun G m => ?_
    · rintro i x G0 G hi ⟨R1, E1, W2, ga2, gD2, naR2, nDR2⟩ ⟨rfl, ex⟩
      rw [List.getElem?_map] at ex
      obtain ⟨n, en, rfl⟩ := Option.map_eq_some_iff.mp ex
      refine ⟨rfl, st_yes (iteT ?_)⟩
      show tCall (spSame 8) [] E0 _ [some (.ref ma), some (.ref lw), some (.int n)] G _
      have fewE : E1.length < 63 := by rw [← fam_len, W2.eq, fam_len]; omega
      have InvE : Inv (famE E1) := by rw [W2.eq]; exact W2.inv
      have run1 : (famE E1).runs 1 = true := inv_run1 InvE
      obtain ⟨wa, dxm, hm, W0⟩ := W2.m.ex
      refine st_call (st_cons (ef_methXU (ev_var rfl) hm rfl ev_c (eu_tup (ea_cons ev_c (ea_cons (ev_var rfl) ea_nil)) (by show 2 ≤ 100000; omega)) fun pt G2 e2 gpt => ?_))
      refine ⟨R1, ma, E1, 1, pt, .fam (.about n), rfl, .inl gpt, W2.m.same e2, fewE, InvE, log_small (by decide) (by decide), fun h => absurd run1 (by rw [h]; decide), fun _ => doq_of InvE fewE run1 (fun new hc => by cases hc) ?_⟩
      intro p1 hp1 v G3 R3 E3 f3 s3 t3 M3 fam3 d3
      rw [W2.eq] at fam3 d3
      obtain ⟨hs, ho⟩ := set_about W2.set 1 (q := p1) n
      rw [hs] at fam3
      rw [ho] at d3
      have d3 : Dx G3 v (.tuple [aboutD (famE L) n, .list []]) := d3
      have W3 := W2.step (Fr.refl (H := G)) (fun b m => .inl m) W2.l ((Fr.same e2).trans f3) (fun b m => (t3 b m).imp id (fresh_back e2)) M3 rfl fam3 W2.inv W2.set (by rw [fam_len]; exact few)
      have tl : EvX (tTup (tCons (tCall spLAbout [] E0 (tCons (tVar 1) (tCons (tVar 2) tNil))) (tCons (tLst tNil) tNil))) [some (.ref ma), some (.ref lw), some (.int n)] G3 (.tuple [aboutD (famE L) n, .list []]) := ex_tupA (xa_cons (ex_g (eg_callT (sp := spLAbout) (d := aboutD (famE L) n) (ea_cons (ev_var rfl) (ea_cons (ev_var rfl) ea_nil)) fun H1 e1 Q q => ⟨lw, L, n, rfl, W3.l.ex e1, q⟩)) (xa_cons (ex_lstA xa_nil (by show 0 ≤ 100000; omega)) xa_nil)) (by show 2 ≤ 100000; omega)
      refine st_cons (tl G3 (Ex.refl G3) _ fun u G4 e4 g4 => st_nil ?_)
      refine ⟨v, u, _, rfl, d3.mono e4, g4, ⟨by show 2 ≤ 1000; omega, fun d md => ?_⟩, fun G5 e5 => ?_⟩
      · rcases List.mem_cons.mp md with rfl | md
        · exact ((fl_about _ _).le (show 3 ≤ 6 by decide)).sh
        · rw [List.mem_singleton.mp md]
          exact ⟨by show 0 ≤ 1000; omega, fun _ m => nomatch m⟩
      have e35 := e4.trans e5
      have ga5 := e35 _ _ (f3 _ _ (e2 _ _ ga2) (.inl naR2))
      have gD5 := e35 _ _ (f3 _ _ (e2 _ _ gD2) (.inl fun m => nDR2 (List.mem_cons_of_mem _ m)))
      have nDR3 : Dl ∉ ma :: R3 := fun m => by
        rcases List.mem_cons.mp m with z | m
        · exact nDR2 (by rw [z]; exact List.mem_cons_self)
        · rcases t3 Dl m with z | z
          · exact nDR2 (List.mem_cons_of_mem _ z)
          · rw [e2 _ _ gD2] at z; cases z
      refine ⟨_, gD5, ?_, R3, E3, (W3.ex e35).mut gD5 nDH0 nDp nDR3 nDL, (upd_ne naD).trans ga5, ?_, fun m => ?_, nDR3⟩
      · rw [List.length_map, List.length_replicate]
        rw [List.length_map] at hi
        exact Nat.lt_of_le_of_lt (show i ≤ 18 by omega) (by decide)
      · rw [upd_same, List.replicate_succ', List.map_append]
        rfl
      · rcases t3 a m with z | z
        · exact naR2 z
        · rw [e2 _ _ ga2] at z; cases z
    · obtain ⟨R1, E1, W2, ga2, gD2, _, _⟩ := m
      refine ⟨Dl, _, rfl, sq_of gD2, ?_⟩
      rw [show ((List.replicate ((famE L).sorted.map V.int).length true).all id) = true from by simp]
      exact q G R1 E1 W2
end
end K02
set_option Elab.async false
set_option linter.all false
set_option maxRecDepth 100000
set_option maxHeartbeats 4000000
namespace K02
open PySem PySem.Spec PyProof.Rows L2 Evl KB
/-! ### the tree at first, by families alone -/
structure Gn (S : Fam) (m : Nat) : Prop where
  keys : S.keys = (List.range (m + 1)).map fun i : Nat => 1 + (i : Int)
  all : ∀ e ∈ S, e.2.code = none ∧ e.2.stp = false ∧ e.2.who = none ∧ 1 ≤ e.2.ses ∧ e.2.ses ≤ m + 1 ∧ 1 ≤ e.2.grp ∧ e.2.grp ≤ m + 1
theorem gn_one : Gn [(1, firstP)] 0 := ⟨rfl, fun e m => by
  rw [List.mem_singleton.mp m]
  exact ⟨rfl, rfl, rfl, by decide, by decide, by decide, by decide⟩⟩
section
variable {S : Fam} {m : Nat}
theorem gn_mem (g : Gn S m) {n : Int} : n ∈ S.keys ↔ 1 ≤ n ∧ n ≤ m + 1 := by
  rw [g.keys, List.mem_map]
  constructor
  · rintro ⟨i, mi, rfl⟩
    have := List.mem_range.mp mi
    omega
  · rintro ⟨h1, h2⟩
    exact ⟨(n - 1).toNat, List.mem_range.mpr (by omega), by omega⟩
theorem gn_len (g : Gn S m) : S.length = m + 1 := by
  have h := congrArg List.length g.keys
  unfold Fam.keys at h
  rw [List.length_map, List.length_map, List.length_range] at h
  exact h
theorem gn_at (g : Gn S m) {n : Int} (h : n ∈ S.keys) : ∃ p, S.at n = some p ∧ (n, p) ∈ S := by
  cases z : S.at n with
  | none =>
    obtain ⟨e, me, ee⟩ := List.mem_map.mp h
    have nd : S.keys.Nodup := by
      rw [g.keys]
      unfold List.Nodup
      rw [List.pairwise_map]
      exact (List.nodup_range (n := m + 1)).imp fun {a b} ne y => ne (by omega)
    have := mem_at nd me
    rw [ee, z] at this
    cases this
  | some p => exact ⟨p, rfl, at_mem z⟩
theorem gn_runs (g : Gn S m) {n : Int} (h : n ∈ S.keys) : S.runs n = true := by
  obtain ⟨p, h1, h2⟩ := gn_at g h
  obtain ⟨a, b, c, _⟩ := g.all _ h2
  unfold Fam.runs
  rw [h1]
  have a : p.code = none := a
  have b : p.stp = false := b
  have c : p.who = none := c
  show (p.code.isNone && !p.stp && p.who.isNone) = true
  rw [a, b, c]
  rfl
theorem gn_set (g : Gn S m) : rdyK S = [] := by
  rw [List.eq_nil_iff_forall_not_mem]
  intro k mk
  have h := mem_rdyK.mp mk
  unfold rdyB at h
  rw [Bool.and_eq_true, decide_eq_true_iff] at h
  have h1 := (List.mem_filter.mp h.1).1
  unfold waitK at h1
  obtain ⟨e, me, _⟩ := List.mem_map.mp h1
  obtain ⟨m1, m2⟩ := List.mem_filter.mp me
  rw [(g.all e m1).2.2.1] at m2
  cases m2
theorem gn_sett (g : Gn S m) : settS S = S := by
  unfold settS
  rw [gn_set g, fin_nil]
theorem gn_put (g : Gn S m) {n : Int} {p' : Pr} (h : p'.code = none ∧ p'.stp = false ∧ p'.who = none ∧ 1 ≤ p'.ses ∧ p'.ses ≤ m + 1 ∧ 1 ≤ p'.grp ∧ p'.grp ≤ m + 1) : Gn (S.set n p') m := by
  refine ⟨by rw [set_map, map_keys]; exact g.keys, fun e me => ?_⟩
  rw [set_map] at me
  obtain ⟨e0, m0, rfl⟩ := List.mem_map.mp me
  show (if e0.1 = n then p' else e0.2).code = none ∧ (if e0.1 = n then p' else e0.2).stp = false ∧ (if e0.1 = n then p' else e0.2).who = none ∧ 1 ≤ (if e0.1 = n then p' else e0.2).ses ∧ (if e0.1 = n then p' else e0.2).ses ≤ m + 1 ∧ 1 ≤ (if e0.1 = n then p' else e0.2).grp ∧ (if e0.1 = n then p' else e0.2).grp ≤ m + 1
  by_cases z : e0.1 = n
  · rw [if_pos z]; exact h
  · rw [if_neg z]; exact g.all e0 m0
theorem gn_fork (g : Gn S m) (hm : m ≤ 100) {up : Int} {p : Pr} (h : S.at up = some p) : Gn (perfPS S up p (.fam (.fork (m + 2)))).1 (m + 1) := by
  show Gn (if decide ((199 : Int) < m + 2) || takenB S (m + 2) then (S, refD "taken") else (S ++ [((m : Int) + 2, newP (some up) p.ses p.grp)], toldD (.int (m + 2)))).1 (m + 1)
  have h0 := g.all _ (at_mem h)
  have ht : takenB S (m + 2) = false := by
    unfold takenB
    rw [List.any_eq_false]
    intro e me z
    have z := of_decide_eq_true z
    obtain ⟨_, _, _, a, b, c, d⟩ := g.all e me
    have hk := (gn_mem g).mp (List.mem_map_of_mem (f := fun e : Int × Pr => e.1) me)
    simp only [List.mem_cons, List.not_mem_nil, or_false] at z
    rcases z with z | z | z <;> omega
  rw [ht, Bool.or_false, if_neg (by rw [decide_eq_true_iff]; omega)]
  refine ⟨?_, fun e me => ?_⟩
  · unfold Fam.keys
    rw [List.map_append, show S.map (·.1) = S.keys from rfl, g.keys, List.range_succ (n := m + 1), List.map_append]
    show _ ++ [(m : Int) + 2] = _ ++ [1 + ((m + 1 : Nat) : Int)]
    congr 2
    omega
  · rcases List.mem_append.mp me with me | me
    · obtain ⟨a, b, c, d, e', f, g'⟩ := g.all e me
      exact ⟨a, b, c, d, by omega, f, by omega⟩
    · rw [List.mem_singleton.mp me]
      obtain ⟨a, b, c, d, e', f, g'⟩ := h0
      have d : 1 ≤ p.ses := d
      have e' : p.ses ≤ m + 1 := e'
      have f : 1 ≤ p.grp := f
      have g' : p.grp ≤ m + 1 := g'
      exact ⟨rfl, rfl, rfl, d, by show p.ses ≤ _; omega, f, by show p.grp ≤ _; omega⟩
theorem gn_more (g : Gn S m) {n : Int} {p : Pr} (h : S.at n = some p) {c : Cs} (hc : c = .fam .adopt ∨ c = .fam .lead) : Gn (perfPS S n p c).1 m := by
  have h0 := g.all _ (at_mem h)
  have hn := (gn_mem g).mp (at_key h)
  rcases hc with rfl | rfl
  · show Gn (if S.kids n ≠ [] then (S, refD "children") else (S.set n { p with ado := true }, toldD .none)).1 m
    split
    · exact g
    · exact gn_put g h0
  · show Gn (if S.kids n ≠ [] then (S, refD "children") else if grpB S n = true then (S, refD "group") else (S.set n { p with ses := n, grp := n }, toldD .none)).1 m
    split
    · exact g
    · split
      · exact g
      · exact gn_put g ⟨h0.1, h0.2.1, h0.2.2.1, hn.1, hn.2, hn.1, hn.2⟩
end
/-! ### lists of rows -/
inductive Items (G : Hp) : List V → List (Int × Cs) → Prop
  | nil : Items G [] []
  | cons {u t : Addr} {n : Int} {c : Cs} {us : List V} {rows : List (Int × Cs)} : G u = some (.tup [.int n, .ref t]) → G t = some (.tup (Cs.vals c)) → Items G us rows → Items G (.ref u :: us) ((n, c) :: rows)
theorem Items.fr {F : List Addr} {G G' : Hp} (f : Fr F G G') {us : List V} {rows : List (Int × Cs)} (h : Items G us rows) : Items G' us rows := by
  induction h with
  | nil => exact .nil
  | cons a b _ ih => exact .cons (f _ _ a (.inr (.inl ⟨_, rfl⟩))) (f _ _ b (.inr (.inl ⟨_, rfl⟩))) ih
theorem Items.app {G : Hp} {us vs : List V} {rows more : List (Int × Cs)} (h : Items G us rows) (k : Items G vs more) : Items G (us ++ vs) (rows ++ more) := by
  induction h with
  | nil => exact k
  | cons a b _ ih => exact .cons a b ih
theorem Items.at {G : Hp} {us : List V} {rows : List (Int × Cs)} (h : Items G us rows) : ∀ {i : Nat} {x : V}, us[i]? = some x → ∃ u t n c, x = .ref u ∧ rows[i]? = some (n, c) ∧ G u = some (.tup [.int n, .ref t]) ∧ G t = some (.tup (Cs.vals c)) := by
  induction h with
  | nil => intro i x hx; simp at hx
  | @cons u t n c us rows a b _ ih =>
    intro i x hx
    cases i with
    | zero =>
      have : V.ref u = x := by simpa using hx
      exact ⟨u, t, n, c, this.symm, rfl, a, b⟩
    | succ i =>
      obtain ⟨u', t', n', c', h1, h2, h3, h4⟩ := ih (i := i) (x := x) (by simpa using hx)
      exact ⟨u', t', n', c', h1, by simpa using h2, h3, h4⟩
theorem Items.len {G : Hp} {us : List V} {rows : List (Int × Cs)} (h : Items G us rows) : us.length = rows.length := by
  induction h with
  | nil => rfl
  | cons _ _ _ ih => rw [List.length_cons, List.length_cons, ih]
def RowsOk (rows : List (Int × Cs)) (up new : Int) : Prop := ∃ rest, rows = (up, .fam (.fork new)) :: rest ∧ rest.length ≤ 2 ∧ ∀ r ∈ rest, r.1 = new ∧ (r.2 = .fam .adopt ∨ r.2 = .fam .lead)
section
variable {K : PySem.W.Frag} {σ : L2.St} {H0 H H' : Hp} {p lw : Addr} {E : List Ent} {c0 : Int} {k : Nat} {te tl tb ta : TE} {Q : VK} {i j : Nat} {tx : TA} {r : List V → Hp → VK → Prop} {tz : TS} {D : Ends} {up new : Int}
theorem st_cb (h : tx σ H fun xs H1 => r xs H1 Q) : tCB r tx σ H Q := h
abbrev rInt1 : List V → Hp → VK → Prop := fun xs H Q => (∃ i, xs = [.int i] ∧ Q (.int i) H) ∨ ∃ k, xs = [.bl k] ∧ Q (.int (if k then 1 else 0)) H
/-- [(new, (w,))] * int(take(box, m) == 0) -/
theorem dw_rep {w : Str} {m : Int} {c : Cs} (hcv : c.vals = [.str w]) (Dd : Dw H0 p lw E c0 k H) (hc : c0 + k < 850000) (np : p ∉ footL lw E) (h0 : σ[0]? = some (some (.ref p))) (h6 : σ[6]? = some (some (.int new))) (m0 : 0 < m) (m1 : m ≤ 1000)
    (q : ∀ l us (b : Bool) G, Dw H0 p lw E c0 (k + 1) G → Fr [p] H G → G l = some (.lst us) → H l = none → Items G us (if b = true then [(new, c)] else []) → Q (.ref l) G) :
    tOp rRep (tLst (tCons (tTup (tCons (tVar 6) (tCons (tTup (tCons (tC (.str w)) tNil)) tNil))) tNil)) (tCB rInt1 (tCons (tOp rEq (tCall spTake [] E0 (tCons (tVar 0) (tCons (tC (.int m)) tNil))) (tC (.int 0))) tNil)) σ H Q := by
  have sz1 : 1 ≤ sizeLine := by decide
  have sz2 : 2 ≤ sizeLine := by decide
  refine st_op (st_lst (st_cons (st_tup (st_cons (st_var h6 (st_cons (st_tup (st_cons (st_c (st_nil ⟨sz1, fun t nt => st_nil ⟨sz2, fun u nu => st_nil ⟨sz1, fun l nl => ?_⟩⟩⟩))))))))))
  have e1 : Ex H (upd H t (.tup [.str w])) := Ex.new nt
  have g1 : upd H t (.tup [.str w]) t = some (.tup [.str w]) := upd_same
  generalize upd H t (.tup [.str w]) = H1 at e1 g1 nu nl ⊢
  have e2 : Ex H1 (upd H1 u (.tup [.int new, .ref t])) := Ex.new nu
  have g2 : upd H1 u (.tup [.int new, .ref t]) u = some (.tup [.int new, .ref t]) := upd_same
  have g12 := e2 _ _ g1
  generalize upd H1 u (.tup [.int new, .ref t]) = H2 at e2 g2 g12 nl ⊢
  have e3 : Ex H2 (upd H2 l (.lst [.ref u])) := Ex.new nl
  have g3 : upd H2 l (.lst [.ref u]) l = some (.lst [.ref u]) := upd_same
  have g23 := e3 _ _ g2
  have g13 := e3 _ _ g12
  generalize upd H2 l (.lst [.ref u]) = H3 at e3 g3 g23 g13 ⊢
  have e03 := e1.trans (e2.trans e3)
  have D3 := Dd.ex e03
  have nlp : l ≠ p := fun z => by
    obtain ⟨cc, ⟨x1, x2, hp, _⟩, _⟩ := Dd.src
    have := (e1.trans e2) _ _ hp
    rw [← z, nl] at this
    cases this
  refine st_cb (st_cons (st_op (dw_take D3 (by omega) np h0 ev_c m0 (by omega) fun r H4 r0 r1 D4 f4 => st_c ((rv_eq rfl) H4 (Ex.refl H4) _ fun H5 e5 => st_nil (.inr ⟨_, rfl, ?_⟩)))))
  have f5 : Fr [p] H3 H5 := f4.trans (Fr.same e5)
  have g35 := f5 _ _ g3 (.inl fun z => nlp (List.mem_singleton.mp z))
  have D5 := D4.ex e5
  refine ⟨l, _, [.ref u], rfl, rfl, g35, by split <;> decide, by split <;> decide, by split <;> (show _ ≤ sizeLine) <;> first | exact Nat.le_trans (show 1 * 1 ≤ 1 by decide) (by decide) | exact Nat.zero_le _, fun l2 nl2 => ?_⟩
  have hus : Items H5 (List.replicate (if decide (V.int r = V.int 0) = true then (1 : Int) else 0).toNat [V.ref u]).flatten (if decide (V.int r = V.int 0) = true then [(new, c)] else []) := by
    by_cases z : decide (V.int r = V.int 0) = true
    · rw [if_pos z, if_pos z]
      show Items H5 [V.ref u] [(new, c)]
      exact .cons (f5 _ _ g23 (.inr (.inl ⟨_, rfl⟩))) (by rw [hcv]; exact f5 _ _ g13 (.inr (.inl ⟨_, rfl⟩))) .nil
    · rw [if_neg z, if_neg z]
      exact .nil
  generalize (List.replicate (if decide (V.int r = V.int 0) = true then (1 : Int) else 0).toNat [V.ref u]).flatten = us at hus ⊢
  have e6 : Ex H5 (upd H5 l2 (.lst us)) := Ex.new nl2
  have nH : H l2 = none := by
    rcases fr_back f5 nl2 with z | z
    · exfalso
      obtain ⟨cc, ⟨x1, x2, hp, _⟩, _⟩ := D5.src
      rw [List.mem_singleton.mp z, hp] at nl2
      cases nl2
    · exact fresh_back e03 z
  exact q l2 us (decide (V.int r = V.int 0)) _ (D5.ex e6) ((Fr.same e03).trans (f5.trans (Fr.same e6))) upd_same nH (hus.fr (F := []) (Fr.same e6))
end
end K02
set_option Elab.async false
set_option linter.all false
set_option maxRecDepth 100000
set_option maxHeartbeats 4000000
namespace K02
open PySem PySem.Spec PyProof.Rows L2 Evl KB
def ForW (J : It) (g : TG) (tb : TS) (D : Ends) (σ : L2.St) (H1 : Hp) : Prop := ∃ W : Nat → Nat → L2.St → Hp → Prop, (∃ m, W 0 m σ H1) ∧ ∀ i m σ H, W i m σ H → (J.stop i H ∧ D.nx σ H) ∨ (J.go i H ∧ ∃ N : L2.St → Hp → Prop, (∀ σ' H', N σ' H' → ∃ m', m' < m ∧ W (i + 1) m' σ' H') ∧ ∀ x H', J.yld i H x H' → g x σ H' fun σ2 H2 => tb { D with nx := N, ct := N, bk := D.nx } σ2 H2)
section
variable {K : PySem.W.Frag} {σ : L2.St} {H : Hp} {tl te : TE} {ta : TA} {g : TG} {tb tz : TS} {D : Ends} {j : Nat}
theorem st_forL (h : tl σ H fun v H1 => ∃ a, v = .ref a ∧ (∃ xs, SqL K H1 a xs) ∧ ForW (Itl K a) g tb D σ H1) : tFor (iList K tl) g tb D σ H := h
theorem st_seqForR (h : ta σ H fun vs H1 => ∃ n : Int, vs = [.int n] ∧ -(2 ^ 62) ≤ n ∧ n < 2 ^ 62 ∧ ForW (Itr 0 n.toNat) (gName j) tb { D with nx := tz D } σ H1) : tSeq (tFor (iRng1 ta) (gName j) tb) tz D σ H := h
theorem el_slN {tl th : TO} {xs : List V} {lo hi : Option Int} (h : EvL te σ H xs) (h1 : EvO tl σ H lo) (h2 : EvO th σ H hi) : EvL (tSl (rSlL K) te tl th) σ H (cutV xs lo hi) := fun H1 e _ q =>
  h H1 e _ fun a H2 na e2 ga => h1 H2 (e.trans e2) _ fun H3 e3 => h2 H3 ((e.trans e2).trans e3) _ fun H4 e4 => ⟨a, xs, rfl, SqL.of ((e3.trans e4) _ _ ga), fun p hp => q p _ (fresh_back ((e2.trans e3).trans e4) hp) (((e2.trans e3).trans e4).trans (Ex.new hp)) upd_same⟩
theorem cut_sub {xs : List V} {lo hi : Option Int} : ∀ v ∈ cutV xs lo hi, v ∈ xs := by
  unfold cutV
  intro v m
  exact List.mem_of_mem_drop (List.mem_of_mem_take m)
end
theorem sh_due8 {a : PyData} {ds : List PyData} (ha : Fl 3 a) (hd : ∀ d ∈ ds, Fl 4 d) (hl : ds.length ≤ 1000) : Sh 8 (.tuple [a, .list ds]) := ⟨by show 2 ≤ 1000; omega, fun d md => by
  rcases List.mem_cons.mp md with rfl | md
  · exact (ha.le (show 3 ≤ 6 by decide)).sh
  · rw [List.mem_singleton.mp md]
    exact ⟨hl, fun e me => ((hd e me).le (show 4 ≤ 5 by decide)).sh⟩⟩
abbrev sLGrown : Stmt := topS 110
abbrev nLGrown : List Str := ["_law_box_here", "_law_machine", "_law_world", "_law_turn", "_law_n", "_law_up", "_law_new", "_law_some", "_law_call"]
theorem scLGrown : FnScope nLGrown ["_law_box_here", "_law_machine", "_law_world"] (defScope sLGrown) := ⟨rfl, rfl, rfl, by decide +kernel, rfl, by decide +kernel, by decide +kernel⟩
def spLGrown (CM CW CP tP : Addr) : Sp := fun vs H Q _ => ∃ H0 p ma lw R E L c0 k, vs = [.ref p, .ref ma, .ref lw] ∧ Rw H0 CM CW CP tP p ma lw R E L c0 k H ∧ Gn (famE L) 0 ∧ c0 + k ≤ 2000 ∧ ∀ H' R' E' L', Rw H0 CM CW CP tP p ma lw R' E' L' c0 (k + 50) H' → Q (.bl true) H'
section
variable {P : Program} {w : World} {K : PySem.W.Frag} {mg : Str → Option Value} {base : Heap} {CM CW CP tP CN f : Addr} {fd : FuncData}
theorem ok_LGrown (F : Fun K "_law_grown" "_law_grown" sLGrown f fd) (TM : MT K CM) (G_Machine_do : KmX P w K mg base 10 CM "do" ["self", "number", "call"] (spMDoS CM CW CP tP CN)) (G__law_same : Kf P w K mg base 8 "_law_same" ["_law_found", "_law_due"] (spSame 8)) (G__law_do : Kf P w K mg base 4 "_law_do" ["_law_world", "_law_n", "_law_call"] spLDo) (G__law_take : Kf P w K mg base 1 "_law_take" ["_law_box_here", "_law_below"] spTake) (G__law_pick : Kf P w K mg base 2 "_law_pick" ["_law_box_here", "_law_some"] spPick)
    (m_sorted : mg "sorted" = none) (m_range : mg "range" = none) (m_int : mg "int" = none) : FnOk P w K mg base CX0 11 f fd ["_law_box_here", "_law_machine", "_law_world"] (spLGrown CM CW CP tP) := by
  refine F.ok scLGrown (fun vs H Q E h => ?_) (fun cdv A outer s H vs Q E hr h => ?_)
  · obtain ⟨H0, p, ma, lw, R, E, L, c0, k, rfl, _⟩ := h
    rfl
  · obtain ⟨H0, p, ma, lw, R, E, L, c0, k, rfl, W, g0, hc, q⟩ := h
    have nd := scLGrown.nd
    have hu := hu_of hr
    refine ⟨_, (pss_cons (ps_for PassesOwn.never rfl (pi_range1 (by rfl) m_range (pa_cons (pe_op op_add pe_int (pe_fn G__law_take (hr.mono (by decide)) (pa_cons (pv 0) (pa_cons pe_int pa_nil)))) pa_nil)) (pg_name (i := 3) nd rfl (by first | exact .inl rfl | exact .inr rfl)) (pss_cons (ps_par (i := 5) (j := 6) (by rfl) nd rfl rfl (by decide) rfl rfl (pa_cons (pe_fn G__law_pick (hr.mono (by decide)) (pa_cons (pv 0) (pa_cons (pe_op op_cat (pe_lc (own := [("_law_n", 4)]) (g := gName 4) (tt := tTest (tOp (rI0 fun i j => .bl (decide (i < j))) (tVar 4) (tC (.int 9)))) (te := tVar 4) rfl nd (pi_list (pe_callB (cr_srtD rfl) (by rfl) m_sorted (by decide +kernel) (pa_cons (pv 2) pa_nil))) (blkOk_by (N := nLGrown) (sc := defScope sLGrown) (by decide +kernel)) (fun _ _ _ _ _ => (pg_name (i := 4) nd rfl (by first | exact .inl rfl | exact .inr rfl))) (fun _ _ _ _ _ => (pts_one (pt_cmpR op_lt (pv 4) pe_int (nomark _)))) (fun _ _ _ _ _ => (pv 4))) (pe_slice sl_list (pe_callB (cr_srtD rfl) (by rfl) m_sorted (by decide +kernel) (pa_cons (pv 2) pa_nil)) (po_some (pe_un un_neg pe_int)) po_none)) pa_nil))) (pa_cons (pe_op op_add pe_int (pv 3)) pa_nil)) (by rfl))
      (pss_cons (ps_set (i := 7) nd rfl (by first | exact .inl rfl | exact .inr rfl) (pe_op op_cat (pe_lst (pa_cons (pe_tup (pa_cons (pv 5) (pa_cons (pe_tup (pa_cons pe_str (pa_cons (pv 6) pa_nil))) pa_nil))) pa_nil)) (pe_op op_rep (pe_lst (pa_cons (pe_tup (pa_cons (pv 6) (pa_cons (pe_tup (pa_cons pe_str pa_nil)) pa_nil))) pa_nil)) (pe_callTy call_int1 (by rfl) m_int (by decide +kernel) (pa_cons (pe_cmpR op_eq (pe_fn G__law_take (hr.mono (by decide)) (pa_cons (pv 0) (pa_cons pe_int pa_nil))) pe_int (nomark _)) pa_nil)))))
      (pss_one (ps_for PassesOwn.never rfl (pi_list (pe_op op_cat (pv 7) (pe_op op_rep (pe_lst (pa_cons (pe_tup (pa_cons (pv 6) (pa_cons (pe_tup (pa_cons pe_str pa_nil)) pa_nil))) pa_nil)) (pe_callTy call_int1 (by rfl) m_int (by decide +kernel) (pa_cons (pe_cmpR op_eq (pe_fn G__law_take (hr.mono (by decide)) (pa_cons (pv 0) (pa_cons pe_int pa_nil))) pe_int (nomark _)) pa_nil))))) (pg_tup (by rfl) (pgs_cons (pg_name (i := 4) nd rfl (by first | exact .inl rfl | exact .inr rfl)) (pgs_cons (pg_name (i := 8) nd rfl (by first | exact .inl rfl | exact .inr rfl)) pgs_nil))) (pss_one (ps_if (pt_not (pt_val (pe_fn G__law_same (hr.mono (by decide)) (pa_cons (pe_mtS (E := fun _ => E0) (pv 1) G_Machine_do (hr.mono (by decide)) (fun σ => pass_no) (pa_cons (pv 4) (pa_cons (pv 8) pa_nil))) (pa_cons (pe_fn G__law_do (hr.mono (by decide)) (pa_cons (pv 2) (pa_cons (pv 4) (pa_cons (pv 8) pa_nil)))) pa_nil))))) (pss_one (ps_ret pe_bl)) pss_nil)))))))
      (pss_one (ps_ret pe_bl))), ?_⟩
    have sz1 : 1 ≤ sizeLine := by decide
    have sz2 : 2 ≤ sizeLine := by decide
    have np1 : ∀ {b : Addr}, b ≠ p → b ∉ [p] := fun h z => h (List.mem_singleton.mp z)
    have dwOf : ∀ {R E L k G}, Rw H0 CM CW CP tP p ma lw R E L c0 k G → Dw G p lw L c0 k G := fun W => ⟨Fr.refl, W.src, W.l⟩
    refine st_seqForR (st_cons (st_op (st_c (dw_take (dwOf W) (by omega) W.pl rfl ev_c (by decide) (by decide) fun r H2 r0 r1 D2 f2 => ⟨_, _, rfl, rfl, st_nil ⟨7 + r, rfl, by omega, by omega, ?_⟩⟩))))
    have W2 := W.draw D2
    obtain ⟨tn, htn, htn2⟩ : ∃ tn : Nat, (7 + r).toNat = tn ∧ tn ≤ 12 := ⟨_, rfl, by omega⟩
    rw [htn]
    refine for_range (fun i σ G => ∃ R E L x3 x4 x5 x6 x7 x8, σ = [some (.ref p), some (.ref ma), some (.ref lw), x3, x4, x5, x6, x7, x8] ∧ Rw H0 CM CW CP tP p ma lw R E L c0 (k + 1 + 3 * i) G ∧ Gn (famE L) i) ⟨R, E, L, _, _, _, _, _, _, rfl, W2, g0⟩ ?_ ?_
    · rintro i σ' G hi ⟨R1, E1, L1, x3, x4, x5, x6, x7, x8, rfl, W3, g3⟩
      rw [show (0 : Int) + (i : Int) = (i : Int) by omega]
      show tSeq _ _ _ [some (.ref p), some (.ref ma), some (.ref lw), some (.int (i : Int)), x4, x5, x6, x7, x8] G
      have few := W3.few
      have soll : ((famE L1).sorted).length ≤ 18 := by
        have h2 := len_asc (famE L1).keys
        have h3 : (famE L1).keys.length = L1.length := by rw [fam_keys, List.length_map]
        have h4 : (famE L1).sorted.length ≤ (famE L1).keys.length := h2
        omega
      have one : (1 : Int) ∈ (famE L1).sorted := mem_asc.mpr ((gn_mem g3).mpr ⟨by omega, by omega⟩)
      have lc : ∀ G, LW G lw L1 → EvL (tLc (iList K (tCB rSrtD (tCons (tVar 2) tNil))) (gName 4) (tTest (tOp (rI0 fun i j => .bl (decide (i < j))) (tVar 4) (tC (.int 9)))) (tVar 4) [4]) [some (.ref p), some (.ref ma), some (.ref lw), some (.int (i : Int)), x4, x5, x6, x7, x8] G (((famE L1).sorted.filter fun n => decide (n < 9)).map V.int) := fun G LW1 =>
        el_lcGN (K := K) (te := tVar 4) (t := tTest (tOp (rI0 fun i j => .bl (decide (i < j))) (tVar 4) (tC (.int 9)))) (j := 4) (vs := [4]) V.int (fun n => decide (n < 9)) V.int (el_lsorted LW1.rd LW1.keys (ev_var rfl) (by omega)) (sorted_len L1 (by omega)) (fun x => rfl) (fun n mn G e => et_test (ev_op (z := .bl (decide (n < 9))) (ev_var rfl) ev_c (rv_I0 (g := fun i j => .bl (decide (i < j)))))) (fun n _ _ G e => ev_var rfl)
      have fl1 : ((famE L1).sorted.filter fun n => decide (n < 9)).length ≤ 18 := Nat.le_trans (List.length_filter_le _ _) soll
      have cl1 := cutV_length ((famE L1).sorted.map V.int) (some (-2)) none
      rw [List.length_map] at cl1
      refine st_par (st_cons (dw_pickL (xs := ((famE L1).sorted.filter fun n => decide (n < 9)).map V.int ++ cutV ((famE L1).sorted.map V.int) (some (-2)) none) (dwOf W3) (by omega) W3.pl rfl (el_catM (lc G W3.l) (el_slN (el_lsorted W3.l.rd W3.l.keys (ev_var rfl) (by omega)) (eo_some (ev_un ev_c ru_neg)) eo_none) (by rw [List.length_map]; omega)) (by
        rw [List.length_append, List.length_map]
        have : 0 < ((famE L1).sorted.filter fun n => decide (n < 9)).length := List.length_pos_of_mem (a := 1) (List.mem_filter.mpr ⟨one, by decide⟩)
        omega) (by rw [List.length_append, List.length_map]; omega) fun v5 H5 hv5 D5 f5 => st_cons (st_op (st_c (st_var rfl ⟨_, _, rfl, rfl, st_nil ⟨_, _, rfl, ?_⟩⟩)))))
      have hup : ∃ up : Int, v5 = .int up ∧ up ∈ (famE L1).keys := by
        rcases List.mem_append.mp hv5 with m | m
        · obtain ⟨n, mn, rfl⟩ := List.mem_map.mp m
          exact ⟨n, rfl, mem_asc.mp (List.mem_filter.mp mn).1⟩
        · obtain ⟨n, mn, rfl⟩ := List.mem_map.mp (cut_sub _ m)
          exact ⟨n, rfl, mem_asc.mp mn⟩
      obtain ⟨up, rfl, mup⟩ := hup
      show tSeq _ _ _ [some (.ref p), some (.ref ma), some (.ref lw), some (.int (i : Int)), x4, some (.int up), some (.int (2 + (i : Int))), x7, x8] H5
      have W5 := W3.draw D5
      -- the rows
      refine q_asgR (st_op (st_lst (st_cons (st_tup (st_cons (st_var rfl (st_cons (st_tup (st_cons (st_c (st_cons (st_var rfl (st_nil ⟨sz2, fun t1 nt1 => st_nil ⟨sz2, fun u1 nu1 => st_nil ⟨sz1, fun l1 nl1 => ?_⟩⟩⟩)))))))))))))
      have e1 : Ex H5 (upd H5 t1 (.tup [.str "fork", .int (2 + (i : Int))])) := Ex.new nt1
      have g1 : upd H5 t1 (.tup [.str "fork", .int (2 + (i : Int))]) t1 = some (.tup [.str "fork", .int (2 + (i : Int))]) := upd_same
      generalize upd H5 t1 (.tup [.str "fork", .int (2 + (i : Int))]) = H6 at e1 g1 nu1 nl1 ⊢
      have e2 : Ex H6 (upd H6 u1 (.tup [.int up, .ref t1])) := Ex.new nu1
      have g2 : upd H6 u1 (.tup [.int up, .ref t1]) u1 = some (.tup [.int up, .ref t1]) := upd_same
      have g12 := e2 _ _ g1
      generalize upd H6 u1 (.tup [.int up, .ref t1]) = H7 at e2 g2 g12 nl1 ⊢
      have nl1H : H5 l1 = none := fresh_back (e1.trans e2) nl1
      have e3' : Ex H7 (upd H7 l1 (.lst [.ref u1])) := Ex.new nl1
      have g3' : upd H7 l1 (.lst [.ref u1]) l1 = some (.lst [.ref u1]) := upd_same
      have it1 : Items (upd H7 l1 (.lst [.ref u1])) [.ref u1] [(up, .fam (.fork (2 + (i : Int))))] := .cons (e3' _ _ g2) (e3' _ _ g12) .nil
      generalize upd H7 l1 (.lst [.ref u1]) = H8 at e3' g3' it1 ⊢
      have W8 := W5.ex (e1.trans (e2.trans e3'))
      refine dw_rep (w := "adopt") (c := .fam .adopt) rfl (dwOf W8) (by omega) W8.pl rfl rfl (by decide) (by decide) fun l2 us2 b2 H9 D9 f9 g9 nl2 it2 => ?_
      have W9 := W8.draw D9
      have nl1p : l1 ≠ p := (dwOf W5).ne nl1H
      have g19 := f9 _ _ g3' (.inl (np1 nl1p))
      have lus2 : us2.length ≤ 1 := by
        have := it2.len
        rw [this]
        split <;> simp
      refine ⟨l1, l2, [.ref u1], us2, rfl, rfl, g19, g9, sz_of (by show 1 + us2.length ≤ 100000; omega), fun l7 nl7 => ?_⟩
      have e10 : Ex H9 (upd H9 l7 (.lst ([.ref u1] ++ us2))) := Ex.new nl7
      have g10 : upd H9 l7 (.lst ([.ref u1] ++ us2)) l7 = some (.lst ([.ref u1] ++ us2)) := upd_same
      have it10 : Items (upd H9 l7 (.lst ([.ref u1] ++ us2))) ([.ref u1] ++ us2) ([(up, .fam (.fork (2 + (i : Int))))] ++ if b2 = true then [(2 + (i : Int), .fam .adopt)] else []) := ((it1.fr f9).app it2).fr (F := []) (Fr.same e10)
      have nl7p : l7 ≠ p := (dwOf W9).ne nl7
      generalize upd H9 l7 (.lst ([.ref u1] ++ us2)) = H10 at e10 g10 it10 ⊢
      have W10 := W9.ex e10
      show tFor _ _ _ _ [some (.ref p), some (.ref ma), some (.ref lw), some (.int (i : Int)), x4, some (.int up), some (.int (2 + (i : Int))), some (.ref l7), x8] H10
      refine st_forL (st_op (st_var rfl (dw_rep (w := "lead") (c := .fam .lead) rfl (dwOf W10) (by omega) W10.pl rfl rfl (by decide) (by decide) fun l11 us11 b11 H11 D11 f11 g11 nl11 it11 => ?_)))
      have W11 := W10.draw D11
      have g711 := f11 _ _ g10 (.inl (np1 nl7p))
      have lus11 : us11.length ≤ 1 := by
        have := it11.len
        rw [this]
        split <;> simp
      refine ⟨l7, l11, _, us11, rfl, rfl, g711, g11, sz_of (by rw [List.length_append]; show 1 + us2.length + us11.length ≤ 100000; omega), fun l nl => ?_⟩
      have e12 : Ex H11 (upd H11 l (.lst (([.ref u1] ++ us2) ++ us11))) := Ex.new nl
      have g12l : upd H11 l (.lst (([.ref u1] ++ us2) ++ us11)) l = some (.lst (([.ref u1] ++ us2) ++ us11)) := upd_same
      have it12 : Items (upd H11 l (.lst (([.ref u1] ++ us2) ++ us11))) (([.ref u1] ++ us2) ++ us11) (([(up, .fam (.fork (2 + (i : Int))))] ++ if b2 = true then [(2 + (i : Int), .fam .adopt)] else []) ++ if b11 = true then [(2 + (i : Int), .fam .lead)] else []) := ((it10.fr f11).app it11).fr (F := []) (Fr.same e12)
      have W12 := W11.ex e12
      have rok : RowsOk (([(up, .fam (.fork (2 + (i : Int))))] ++ if b2 = true then [(2 + (i : Int), .fam .adopt)] else []) ++ if b11 = true then [(2 + (i : Int), .fam .lead)] else []) up (2 + (i : Int)) := by
        refine ⟨(if b2 = true then [(2 + (i : Int), .fam .adopt)] else []) ++ if b11 = true then [(2 + (i : Int), .fam .lead)] else [], rfl, ?_, fun rr mr => ?_⟩
        · rw [List.length_append]
          cases b2 <;> cases b11 <;> simp
        · rcases List.mem_append.mp mr with m | m
          · cases b2 with
            | true => rw [List.mem_singleton.mp m]; exact ⟨rfl, .inl rfl⟩
            | false => cases m
          · cases b11 with
            | true => rw [List.mem_singleton.mp m]; exact ⟨rfl, .inr rfl⟩
            | false => cases m
      have nlp : l ≠ p := (dwOf W11).ne nl
      have nlR : l ∉ ma :: R1 := fun m => by
        obtain ⟨o, ho⟩ := W11.m.alo l m
        rw [nl] at ho; cases ho
      generalize (([(up, .fam (.fork (2 + (i : Int))))] ++ if b2 = true then [(2 + (i : Int), .fam .adopt)] else []) ++ if b11 = true then [(2 + (i : Int), .fam .lead)] else [] : List (Int × Cs)) = rows at it12 rok
      generalize (([.ref u1] ++ us2) ++ us11 : List V) = us at g12l it12 e12 W12 ⊢
      generalize upd H11 l (.lst us) = H12 at g12l it12 e12 W12 ⊢
      obtain ⟨rest, hrows, hrl, hrest⟩ := rok
      have hk : k + 1 + 3 * i + 1 + 1 + 1 = k + 1 + 3 * (i + 1) := by omega
      rw [hk] at W12
      refine ⟨l, rfl, ⟨us, sq_of g12l⟩, for_list (fun jj σ G => ∃ R E L x4 x8, σ = [some (.ref p), some (.ref ma), some (.ref lw), some (.int (i : Int)), x4, some (.int up), some (.int (2 + (i : Int))), some (.ref l7), x8] ∧ Rw H0 CM CW CP tP p ma lw R E L c0 (k + 1 + 3 * (i + 1)) G ∧ G l = some (.lst us) ∧ l ∉ ma :: R ∧ Items G us rows ∧ (jj = 0 → Gn (famE L) i ∧ up ∈ (famE L).keys) ∧ (jj ≠ 0 → Gn (famE L) (i + 1))) ⟨R1, E1, L1, x4, x8, rfl, W12, g12l, nlR, it12, fun _ => ⟨g3, mup⟩, fun z => absurd rfl z⟩ (fun jj σ' G' _ h => by
        obtain ⟨_, _, _, _, _, _, _, h, _⟩ := h
        exact SqL.of h) ?_ ?_⟩
      · rintro jj x σ' G1 hx ⟨R, E, L, y4, y8, rfl, V1, gl, nlR, it, gz, gs⟩
        obtain ⟨u, t, n, cc, rfl, hrow, gu, gt⟩ := it.at hx
        refine ⟨u, _, rfl, SqT.of gu, rfl, _, _, rfl, _, _, rfl, rfl, ?_⟩
        show tIfS _ _ _ _ [some (.ref p), some (.ref ma), some (.ref lw), some (.int (i : Int)), some (.int n), some (.int up), some (.int (2 + (i : Int))), some (.ref l7), some (.ref t)] G1
        -- what this row is
        have kind : ∃ m', Gn (famE L) m' ∧ n ∈ (famE L).keys ∧ (∀ new, cc = .fam (.fork new) → 1 ≤ new) ∧ m' ≤ i + 1 ∧ (∀ pp, (famE L).at n = some pp → Gn (perfPS (famE L) n pp cc).1 (i + 1)) := by
          rw [hrows] at hrow
          cases jj with
          | zero =>
            have hrow : (up, Cs.fam (.fork (2 + (i : Int)))) = (n, cc) := by simpa using hrow
            obtain ⟨h1, h2⟩ := Prod.mk.inj hrow
            subst h1 h2
            obtain ⟨ga, gb⟩ := gz rfl
            refine ⟨i, ga, gb, fun new hn => by cases hn; omega, by omega, fun pp hpp => ?_⟩
            have := gn_fork ga (by omega) hpp
            rw [show (i : Int) + 2 = 2 + (i : Int) by omega] at this
            exact this
          | succ j' =>
            have hrow : rest[j']? = some (n, cc) := by simpa using hrow
            obtain ⟨h1, h2⟩ := hrest _ (List.mem_of_getElem? hrow)
            have h1 : n = 2 + (i : Int) := h1
            have h2 : cc = .fam .adopt ∨ cc = .fam .lead := h2
            have ga := gs (Nat.succ_ne_zero _)
            refine ⟨i + 1, ga, (gn_mem ga).mpr ⟨by omega, by rw [h1]; omega⟩, fun new hn => ?_, by omega, fun pp hpp => gn_more ga hpp h2⟩
            rcases h2 with rfl | rfl <;> cases hn
        obtain ⟨m', gm, mn, hf, hm', gnx⟩ := kind
        have hruns : (famE L).runs n = true := gn_runs gm mn
        obtain ⟨pp, hpp, _⟩ := gn_at gm mn
        have fewL := V1.few
        have fewE : E.length < 63 := by rw [← fam_len, V1.eq, fam_len]; omega
        have InvE : Inv (famE E) := by rw [V1.eq]; exact V1.inv
        have hrunE : (famE E).runs n = true := by rw [V1.eq]; exact hruns
        have rn := V1.inv.rng n mn
        have gP := gnx pp hpp
        obtain ⟨wa, dxm, hm, _⟩ := V1.m.ex
        refine st_ifS (st_not (st_B (st_call (st_cons (ef_methX (ev_var rfl) hm rfl (ea_cons (ev_var rfl) (ea_cons (ev_var rfl) ea_nil)) fun G2 e2 => ?_)))))
        refine ⟨R, ma, E, n, t, cc, rfl, .inl (e2 _ _ gt), V1.m.same e2, fewE, InvE, log_small rn.1 rn.2, fun h => absurd hrunE (by rw [h]; decide), fun _ => doq_of InvE fewE hrunE hf ?_⟩
        intro p1 hp1 v G3 R3 E3 f3 s3 t3 M3 fam3 d3
        rw [V1.eq] at hp1 fam3 d3
        have epp : p1 = pp := Option.some.inj (hp1.symm.trans hpp)
        subst epp
        have F3 : Fr R G1 G3 := (Fr.same e2).trans f3
        have T3 : ∀ b ∈ R3, b ∈ R ∨ G1 b = none := fun b m => (t3 b m).imp id (fresh_back e2)
        have W3' : LW G3 lw L := V1.l.fr F3 fun a m z => V1.dj a m (List.mem_cons_of_mem _ z)
        have gt3 : G3 t = some (.tup (Cs.vals cc)) := F3 _ _ gt (.inr (.inl ⟨_, rfl⟩))
        refine st_cons (ef_call (ea_cons (ev_var rfl) (ea_cons (ev_var rfl) (ea_cons (ev_var rfl) ea_nil))) fun G4 e4 => ⟨lw, L, n, t, cc, rfl, e4 _ _ gt3, W3'.ex e4, by omega, V1.inv, hf, fun h => absurd hruns (by rw [h]; decide), fun _ => ?_⟩)
        intro p2 hp2 u5 G5 L5 f5 s5 W5' fam5 d5 nl5
        have epp : p2 = p1 := Option.some.inj (hp2.symm.trans hpp)
        subst epp
        have F5 : Fr (footL lw L) G3 G5 := (Fr.same e4).trans f5
        have T5 : ∀ b ∈ footL lw L5, b ∈ footL lw L ∨ G3 b = none := fun b m => (s5 b m).imp id (fresh_back e4)
        have flp := fl_perfS (famE L) n p2 cc
        have flo := fl_ansD (fl_both (famE L) n p2 cc)
        have dv5 := due_fr (k := 4) F5 (flp.le (by decide)) flo d3 fun t' va' la' et ht' => by
          obtain ⟨t6, va6, la6, ys6, h6, h7, h8, _⟩ := due_kind d3
          have : t' = t6 := by rw [h6] at et; cases et; rfl
          subst this
          rw [h7] at ht'
          have ht' := Option.some.inj ht'
          injection ht' with ht'
          injection ht' with _ ht'
          injection ht' with ht' _
          cases ht'
          exact W3'.nolst h8
        refine st_nil ⟨v, u5, _, rfl, dv5, d5, sh_due8 flp flo (both_len _ _ _ _ (by rw [fam_len]; omega)), fun G6 e6 => ⟨true, rfl, iteF ?_⟩⟩
        have Ip : Inv (perfPS (famE L) n p2 cc).1 := inv_perfS V1.inv hpp hruns cc fun new hc => ⟨hf new hc, by rw [fam_len]; omega⟩
        have hset := gn_sett gP
        rw [hset] at fam3 fam5
        have V6 := (V1.step2 F3 T3 M3 F5 T5 W5' fam5 fam3 Ip (gn_set gP) (by rw [gn_len gP]; omega)).ex e6
        have gl3 := F3 _ _ gl (.inl fun m => nlR (List.mem_cons_of_mem _ m))
        have gl5 := F5 _ _ gl3 (.inl (W3'.nolst gl3))
        refine ⟨R3, E3, L5, _, _, rfl, V6, e6 _ _ gl5, fun m => ?_, (((it.fr F3).fr F5).fr (F := []) (Fr.same e6)), fun z => absurd z (Nat.succ_ne_zero _), fun _ => by rw [fam5]; exact gP⟩
        rcases List.mem_cons.mp m with z | m
        · exact nlR (by rw [z]; exact List.mem_cons_self)
        · rcases T3 l m with z | z
          · exact nlR (List.mem_cons_of_mem _ z)
          · rw [gl] at z; cases z
      · rintro σ' G1 ⟨R, E, L, y4, y8, rfl, V1, gl, nlR, it, gz, gs⟩
        have hl : us.length ≠ 0 := by
          rw [it.len, hrows]
          exact Nat.succ_ne_zero _
        exact ⟨R, E, L, _, _, _, _, _, _, rfl, V1, gs hl⟩
    · rintro σ' G ⟨R1, E1, L1, x3, x4, x5, x6, x7, x8, rfl, W3, g3⟩
      show tRet (tC (.bl true)) { nx := fun _ H2 => Q V.non H2, rt := Q } [some (.ref p), some (.ref ma), some (.ref lw), x3, x4, x5, x6, x7, x8] G
      exact s_ret ev_c fun G2 e2 => q G2 R1 E1 L1 ((W3.ex e2).up (by omega))
end
end K02
set_option Elab.async false
set_option linter.all false
set_option maxRecDepth 100000
set_option maxHeartbeats 4000000
namespace K02
open PySem PySem.Spec PyProof.Rows L2 Evl KB
abbrev sLRight : Stmt := topS 112
abbrev nLRight : List Str := ["_law_box_here", "_law_machine", "_law_world", "_law_turn", "_law_n", "_law_call", "_law_due"]
theorem scLRight : FnScope nLRight ["_law_box_here"] (defScope sLRight) := ⟨rfl, rfl, rfl, by decide +kernel, rfl, by decide +kernel, by decide +kernel⟩
def spLRight (tP : Addr) : Sp := fun vs H Q _ => ∃ p c, vs = [.ref p] ∧ Src H p c ∧ c ≤ 1000 ∧ LamX.TabS H tP qLam ∧ ∀ H', Fr [p, tP] H H' → LamX.TabS H' tP qLam → Q (.bl true) H'
section
variable {P : Program} {w : World} {K : PySem.W.Frag} {mg : Str → Option Value} {base : Heap} {CM CW CP tP CN e0 f : Addr} {fd : FuncData}
theorem ok_LRight (F : Fun K "_law_right" "_law_right" sLRight f fd) (hcc : CW ≠ CP) (he0 : ∀ G, SqT K G e0 []) (TM : MT K CM) (M_Machine : KcD P w K mg base 6 CM "Machine" ["self", "files"] [.ref e0] (spMInit K CM CW CP tP)) (G_Machine_numbers : Km P w K mg base 1 CM "numbers" ["self"] (spMNumbers CM CW CP tP)) (G__law_same : Kf P w K mg base 8 "_law_same" ["_law_found", "_law_due"] (spSame 8))
    (G__law_proc : Kf P w K mg base 1 "_law_proc" ["_law_parent", "_law_session", "_law_group"] spLProc) (G__law_drawn : Kf P w K mg base 3 "_law_drawn" ["_law_box_here", "_law_world"] spLDrawn) (G__law_do : Kf P w K mg base 4 "_law_do" ["_law_world", "_law_n", "_law_call"] spLDo) (G__law_told : Kf P w K mg base 11 "_law_told" ["_law_machine", "_law_n", "_law_call"] (spLTold CM CW CP tP)) (G__law_grown : Kf P w K mg base 11 "_law_grown" ["_law_box_here", "_law_machine", "_law_world"] (spLGrown CM CW CP tP)) (G__law_all_about : Kf P w K mg base 11 "_law_all_about" ["_law_machine", "_law_world"] (spLAllAbout CM CW CP tP))
    (m_sorted : mg "sorted" = none) (m_range : mg "range" = none) : FnOk P w K mg base CX0 12 f fd ["_law_box_here"] (spLRight tP) := by
  refine F.ok scLRight (fun vs H Q E h => ?_) (fun cdv A outer s H vs Q E hr h => ?_)
  · obtain ⟨p, c, rfl, _⟩ := h
    rfl
  · obtain ⟨p, c, rfl, S0, hc, tb, q⟩ := h
    have nd := scLRight.nd
    have hu := hu_of hr
    refine ⟨_, (pss_cons (ps_par (i := 1) (j := 2) (by rfl) nd rfl rfl (by decide) rfl rfl (pa_cons (pe_mkD0 M_Machine (hr.mono (by decide))) (pa_cons (pe_disp (pps_cons pe_int (pe_fn G__law_proc (hr.mono (by decide)) (pa_cons pe_non (pa_cons pe_int (pa_cons pe_int pa_nil)))) pps_nil) (by rfl) (by rfl) (fun z => by cases z) (by decide)) pa_nil)) (by rfl))
      (pss_cons (ps_if (pt_not (pt_val (pe_fn G__law_grown (hr.mono (by decide)) (pa_cons (pv 0) (pa_cons (pv 1) (pa_cons (pv 2) pa_nil)))))) (pss_one (ps_ret pe_bl)) pss_nil)
      (pss_cons (ps_for PassesOwn.never rfl (pi_range1 (by rfl) m_range (pa_cons pe_int pa_nil)) (pg_name (i := 3) nd rfl (by first | exact .inl rfl | exact .inr rfl)) (pss_cons (ps_asg (pe_fn G__law_drawn (hr.mono (by decide)) (pa_cons (pv 0) (pa_cons (pv 2) pa_nil))) (pg_tup (by rfl) (pgs_cons (pg_name (i := 4) nd rfl (by first | exact .inl rfl | exact .inr rfl)) (pgs_cons (pg_name (i := 5) nd rfl (by first | exact .inl rfl | exact .inr rfl)) pgs_nil))))
      (pss_cons (ps_set (i := 6) nd rfl (by first | exact .inl rfl | exact .inr rfl) (pe_fn G__law_do (hr.mono (by decide)) (pa_cons (pv 2) (pa_cons (pv 4) (pa_cons (pv 5) pa_nil)))))
      (pss_cons (ps_if (pt_not (pt_val (pe_fn G__law_same (hr.mono (by decide)) (pa_cons (pe_lst (pa_cons (pe_fn G__law_told (hr.mono (by decide)) (pa_cons (pv 1) (pa_cons (pv 4) (pa_cons (pv 5) pa_nil)))) (pa_cons (pe_mt0 (pv 1) G_Machine_numbers (hr.mono (by decide))) pa_nil))) (pa_cons (pe_lst (pa_cons (pv 6) (pa_cons (pe_callB (cr_srtD rfl) (by rfl) m_sorted (by decide +kernel) (pa_cons (pv 2) pa_nil)) pa_nil))) pa_nil))))) (pss_one (ps_ret pe_bl)) pss_nil)
      (pss_one (ps_if (PW.pt (pw_and (pt_cmpR op_eq (pe_op op_mod (pv 3) pe_int) pe_int (nomark _)) (pw_and1 (pt_not (pt_val (pe_fn G__law_all_about (hr.mono (by decide)) (pa_cons (pv 1) (pa_cons (pv 2) pa_nil)))))))) (pss_one (ps_ret pe_bl)) pss_nil))))))
      (pss_one (ps_ret pe_bl))))), ?_⟩
    have S0' := S0
    obtain ⟨a0, b0, hp0, hr0⟩ := S0'
    have npt : p ≠ tP := fun z => by
      obtain ⟨ps, h1, _⟩ := tb
      rw [← z, hp0] at h1
      cases h1
    -- the machine, the law's world
    refine st_par (st_cons ((ep_machine tb hcc he0) H (Ex.refl H) _ fun v3 H3 e3 h3 => st_cons ?_))
    obtain ⟨ma, R0, pa0, rfl, nma, hR0, M3⟩ := h3
    intro lw nlw
    refine st_c (ef_call (ea_cons ev_c (ea_cons ev_c (ea_cons ev_c ea_nil))) fun H5 e5 => ⟨none, 1, 1, rfl, fun r1' H6 nr e6 gr => ?_⟩)
    have x3 : Ex H3 (upd H3 lw (.dK [])) := Ex.new nlw
    have glw5 : H5 lw = some (.dK []) := e5 _ _ upd_same
    have nrl : r1' ≠ lw := fun z => by rw [z, glw5] at nr; cases nr
    refine ⟨e6 _ _ glw5, [(Sum.inl 1, .ref r1')], rfl, by show 1 ≤ 15; decide, st_nil ⟨_, _, rfl, ?_⟩⟩
    show tSeq _ _ _ [some (.ref p), some (.ref ma), some (.ref lw), none, none, none, none] (upd H6 lw (.dK (mergeK [] [(Sum.inl 1, .ref r1')])))
    have x36 : Ex H3 H6 := x3.trans (e5.trans e6)
    have x37 : Ex H3 (upd H6 lw (.dK (mergeK [] [(Sum.inl 1, .ref r1')]))) := Ex.mut x36 nlw
    have W7 : LW (upd H6 lw (.dK (mergeK [] [(Sum.inl 1, .ref r1')]))) lw [(1, r1', firstP)] := by
      refine ⟨upd_same, fun e m => ?_, ?_, by simp⟩
      · rw [List.mem_singleton.mp m]
        exact ⟨.non, (upd_ne nrl).trans gr, rfl⟩
      · show [lw, r1'].Nodup
        simp [nrl.symm]
    generalize upd H6 lw (.dK (mergeK [] [(Sum.inl 1, .ref r1')])) = H7 at x37 W7 ⊢
    have hp3 := e3 _ _ hp0
    have hp7 := x37 _ _ hp3
    have M7 := M3.same x37
    have nr3 : H3 r1' = none := fresh_back (x3.trans e5) nr
    have RW : Rw H CM CW CP tP p ma lw R0 [(1, pa0, firstP)] [(1, r1', firstP)] c 0 H7 := by
      refine ⟨M7, W7, rfl, inv_one, rfl, by show 1 ≤ 18; omega, ⟨c, ⟨a0, b0, hp7, hr0⟩, by omega, by omega⟩, fun m => ?_, fun m => ?_, fun b m z => ?_, Fr.same (e3.trans x37), fun b m => hR0 b m, fun b m => ?_, nma⟩
      · rcases List.mem_cons.mp m with z | m
        · rw [← z, hp0] at nma; cases nma
        · rcases hR0 p m with z | z
          · exact npt z
          · rw [hp0] at z; cases z
      · rcases List.mem_cons.mp m with z | m
        · rw [← z, hp3] at nlw; cases nlw
        · have z : p = r1' := List.mem_singleton.mp m
          rw [← z, hp3] at nr3; cases nr3
      · obtain ⟨o, ho⟩ := M3.alo b z
        rcases List.mem_cons.mp m with y | m
        · rw [y, nlw] at ho; cases ho
        · rw [show b = r1' from List.mem_singleton.mp m, nr3] at ho; cases ho
      · rcases List.mem_cons.mp m with y | m
        · rw [y]; exact fresh_back e3 nlw
        · rw [show b = r1' from List.mem_singleton.mp m]; exact fresh_back e3 nr3
    -- the tree
    refine st_seqIf (st_not (st_B (ef_call (ea_cons (ev_var rfl) (ea_cons (ev_var rfl) (ea_cons (ev_var rfl) ea_nil))) fun H8 e8 => ⟨H, p, ma, lw, R0, _, _, c, 0, rfl, RW.ex e8, gn_one, by omega, fun H9 R9 E9 L9 W9 => ⟨true, rfl, iteF ?_⟩⟩)))
    show tSeq _ _ _ [some (.ref p), some (.ref ma), some (.ref lw), none, none, none, none] H9
    refine q_forR1 (ea_cons ev_c ea_nil) (by decide) (fun i σ G => ∃ R E L x3 x4 x5 x6, σ = [some (.ref p), some (.ref ma), some (.ref lw), x3, x4, x5, x6] ∧ Rw H CM CW CP tP p ma lw R E L c (50 + 12 * i) G) (fun G eG => ⟨R9, E9, L9, none, none, none, none, rfl, (W9.ex eG).up (by omega)⟩) ?_ ?_
    · rintro i σ' G hi ⟨R, E, L, x3, x4, x5, x6, rfl, W⟩
      show tSeq _ _ _ [some (.ref p), some (.ref ma), some (.ref lw), some (.int (i : Int)), x4, x5, x6] G
      have few := W.few
      have rng : ∀ n ∈ L.map (·.1), 1 ≤ n ∧ n ≤ 199 := fun n m => W.inv.rng n (by rw [fam_keys]; exact m)
      refine st_seqG (st_call (st_cons (st_var rfl (st_cons (st_var rfl (st_nil ?_))))))
      refine ⟨p, lw, L, c, 50 + 12 * i, rfl, ⟨Fr.refl, W.src, W.l⟩, by omega, by omega, rng, inv_run1 W.inv, W.pl, fun cl n t v G1 D1 n0 n1 hf gv gt => ?_⟩
      refine ⟨v, _, rfl, SqT.of gv, rfl, _, _, rfl, _, _, rfl, rfl, ?_⟩
      show tSeq _ _ _ [some (.ref p), some (.ref ma), some (.ref lw), some (.int (i : Int)), some (.int n), some (.ref t), x6] G1
      have W1 := W.draw D1
      have hk12 : 50 + 12 * i + 12 = 50 + 12 * (i + 1) := by omega
      rw [hk12] at W1
      refine q_asgC (ea_cons (ev_var rfl) (ea_cons (ev_var rfl) (ea_cons (ev_var rfl) ea_nil))) fun G2 e2 => ?_
      have W2 := W1.ex e2
      have gt2 := e2 _ _ gt
      have fewE : E.length < 63 := by rw [← fam_len, W.eq, fam_len]; omega
      have InvE : Inv (famE E) := by rw [W.eq]; exact W.inv
      have hf1 : ∀ new, cl = .fam (.fork new) → 1 ≤ new := fun new hc => (hf new hc).1
      have hlog := log_small n0 n1
      have b1e : ∀ (y6 : Option V) (G' : Hp), Ev (tOp (rI (fun _ j => 0 < j) fun i j => .int (i % j)) (tVar 3) (tC (.int 8))) [some (.ref p), some (.ref ma), some (.ref lw), some (.int (i : Int)), some (.int n), some (.ref t), y6] G' (.int ((i : Int) % 8)) := fun y6 G' => ev_op (ev_var rfl) ev_c fun H' e' Q' q' => ⟨_, _, rfl, rfl, (by decide : (0 : Int) < 8), q' H' (Ex.refl H')⟩
      -- about, now and then
      have aft : ∀ {D : Ends} (y6 : Option V) (G' : Hp) (R' : List Addr) (E' L' : List Ent), Rw H CM CW CP tP p ma lw R' E' L' c (50 + 12 * (i + 1)) G' → (∀ G2 R2 E2, Rw H CM CW CP tP p ma lw R2 E2 L' c (50 + 12 * (i + 1)) G2 → D.nx [some (.ref p), some (.ref ma), some (.ref lw), some (.int (i : Int)), some (.int n), some (.ref t), y6] G2) →
          tIfS (tAnd (tTest (tOp rEq (tOp (rI (fun _ j => 0 < j) fun i j => .int (i % j)) (tVar 3) (tC (.int 8))) (tC (.int 7)))) (tNot (tB (tCall (spLAllAbout CM CW CP tP) [] E0 (tCons (tVar 1) (tCons (tVar 2) tNil)))))) (tRet (tC (.bl false))) tNext D [some (.ref p), some (.ref ma), some (.ref lw), some (.int (i : Int)), some (.int n), some (.ref t), y6] G' := fun {D} y6 G' R' E' L' Vw hk => by
        refine st_ifS (st_and ((et_test (ev_op (b1e _ _) ev_c (rv_eq rfl))) G' (Ex.refl G') _ fun G2 e2 => ?_))
        have V2 := Vw.ex e2
        by_cases z : decide (V.int ((i : Int) % 8) = V.int 7) = true
        · rw [z]
          refine iteT (st_not (st_B (ef_call (ea_cons (ev_var rfl) (ea_cons (ev_var rfl) ea_nil)) fun G3 e3 => ⟨H, p, ma, lw, R', E', L', c, _, rfl, V2.ex e3, fun G4 R4 E4 V4 => ⟨true, rfl, iteF (hk G4 R4 E4 V4)⟩⟩)))
        · rw [Bool.eq_false_iff.mpr z]
          exact iteF (iteF (hk G2 R' E' V2))
      refine ⟨lw, L, n, t, cl, rfl, gt2, W2.l, by omega, W2.inv, hf1, fun hr => ?_, fun hr => ?_⟩
      · -- not running
        intro u G3 e3 gu
        have W3 := W2.ex e3
        have hruns : (famE E).runs n = false := by rw [W.eq]; exact hr
        have gud := gu.dx
        show tSeq _ _ _ [some (.ref p), some (.ref ma), some (.ref lw), some (.int (i : Int)), some (.int n), some (.ref t), some u] G3
        refine st_seqIf (st_not (st_B (st_call (st_cons (st_lst (st_cons (ef_call (ea_cons (ev_var rfl) (ea_cons (ev_var rfl) (ea_cons (ev_var rfl) ea_nil))) fun G4 e4 => ?_)))))))
        refine ⟨R, ma, E, n, t, cl, rfl, (e3.trans e4) _ _ gt2, (W3.ex e4).m, fewE, InvE, hf1, hlog, fun _ v7 G5 e5 g7 => ?_, fun hr' => absurd hr' (by rw [hruns]; decide)⟩
        have W5 := W3.ex (e4.trans e5)
        refine same_rest W5.m W5.l W5.eq (by omega) (gud.mono (e4.trans e5)) g7.dx ((fl_2 (fl_s "not running" (k := 5)) (.int n)).sh) fun G6 e6 => iteF ?_
        exact aft (some u) G6 R E L (W5.ex e6) fun G7 R7 E7 V7 => ⟨R7, E7, L, _, _, _, _, rfl, V7⟩
      · -- it runs
        intro pr hpr u G3 L3 f3 s3 W3 fam3 du nl
        have hruns : (famE E).runs n = true := by rw [W.eq]; exact hr
        obtain ⟨tu, va, la, rfl, htu, hla⟩ := nl
        show tSeq _ _ _ [some (.ref p), some (.ref ma), some (.ref lw), some (.int (i : Int)), some (.int n), some (.ref t), some (.ref tu)] G3
        have nla : la ∉ ma :: R := fun m => by
          rcases hla with z | z
          · exact W2.dj la z m
          · obtain ⟨o, ho⟩ := W2.m.alo la m
            rw [z] at ho; cases ho
        have fl := fl_perfS (famE L) n pr cl
        have flo := fl_ansD (fl_both (famE L) n pr cl)
        have M3' := W2.m.fr f3 fun a m z => W2.dj a z m
        have gt3 : G3 t = some (.tup (Cs.vals cl)) := f3 _ _ gt2 (.inr (.inl ⟨_, rfl⟩))
        have Ip : Inv (perfPS (famE L) n pr cl).1 := inv_perfS W.inv hpr hr cl fun new hc => ⟨hf1 new hc, by rw [fam_len]; omega⟩
        have lp := perfs_len (famE L) n pr cl
        have lS : (settS (perfPS (famE L) n pr cl).1).length ≤ 18 := by
          have h1 := sett_len (perfPS (famE L) n pr cl).1
          rw [fam_len] at lp
          by_cases hfk : ∃ new, cl = .fam (.fork new)
          · obtain ⟨new, hc⟩ := hfk
            have := (hf new hc).2
            omega
          · have := lp.2 fun new hc => hfk ⟨new, hc⟩
            omega
        refine st_seqIf (st_not (st_B (st_call (st_cons (st_lst (st_cons (ef_call (ea_cons (ev_var rfl) (ea_cons (ev_var rfl) (ea_cons (ev_var rfl) ea_nil))) fun G4 e4 => ?_)))))))
        refine ⟨R, ma, E, n, t, cl, rfl, e4 _ _ gt3, M3'.same e4, fewE, InvE, hf1, hlog, fun h => absurd hruns (by rw [h]; decide), fun _ => ?_⟩
        intro p' hp' v7 G5 R5 E5 f5 s5 t5 M5 fam5 d5
        rw [W.eq] at hp' fam5 d5
        have epp : p' = pr := Option.some.inj (hp'.symm.trans hpr)
        subst epp
        have W5 := W2.step f3 s3 W3 ((Fr.same e4).trans f5) (fun b m => (t5 b m).imp id (fresh_back e4)) M5 fam3 fam5 (inv_sett Ip) (rdy_sett Ip.ord.nd Ip.liv) lS
        have du5 : Dx G5 (.ref tu) (.tuple [(perfPS (famE L) n p' cl).2, .list (ansD (perfA (famE L) cl ++ ansA (perfPS (famE L) n p' cl).1))]) := due_fr (k := 4) ((Fr.same e4).trans f5) (fl.le (by decide)) flo du fun t' va' la' et ht' => by
          have : tu = t' := by cases et; rfl
          subst this
          rw [htu] at ht'
          have ht' := Option.some.inj ht'
          injection ht' with ht'
          injection ht' with _ ht'
          injection ht' with ht' _
          cases ht'
          exact fun m => nla (List.mem_cons_of_mem _ m)
        refine same_rest W5.m W5.l W5.eq (by have := W5.few; omega) du5 d5 (sh_due (n := 0) fl flo (both_len _ _ _ _ (by rw [fam_len]; omega))) fun G6 e6 => iteF ?_
        exact aft (some (.ref tu)) G6 R5 E5 L3 (W5.ex e6) fun G7 R7 E7 V7 => ⟨R7, E7, L3, _, _, _, _, rfl, V7⟩
    · rintro σ' G ⟨R, E, L, x3, x4, x5, x6, rfl, W⟩
      exact s_ret ev_c fun G2 e2 => q G2 (W.fr.trans (Fr.same e2)) (W.ex e2).m.tab
end
end K02
set_option Elab.async false
set_option linter.all false
set_option maxRecDepth 100000
set_option maxHeartbeats 4000000
namespace K02
open PySem PySem.Spec PyProof.Rows L2 Evl KB
abbrev sLLaw : Stmt := topS 113
abbrev nLLaw : List Str := ["_law_script", "_law_k"]
theorem scLLaw : FnScope nLLaw ["_law_script"] (defScope sLLaw) := ⟨rfl, rfl, rfl, by decide +kernel, rfl, by decide +kernel, by decide +kernel⟩
def spLaw (K : PySem.W.Frag) (tP : Addr) : Sp := fun vs H Q _ => ∃ (a : Addr) (ns : List Int), vs = [.ref a] ∧ SqL K H a (ns.map V.int) ∧ ns.length ≤ 63 ∧ LamX.TabS H tP qLam ∧ ∀ H', Q (.bl true) H'
theorem sq_frT {K : PySem.W.Frag} {H G : Hp} {tP a : Addr} {xs : List V} (tb : LamX.TabS H tP qLam) (f : Fr [tP] H G) (h : SqL K H a xs) : SqL K G a xs := by
  obtain ⟨ps, ht, _⟩ := tb
  have key : ∀ {o : HO}, H a = some o → (∀ ps, o ≠ .tbl ps) → G a = some o := fun {o} e n => f _ _ e (.inl fun z => by
    rw [List.mem_singleton.mp z, ht] at e
    cases e
    exact n _ rfl)
  rcases h with (h | ⟨ob, h⟩) | h
  · exact .inl (.inl (key h fun _ z => by cases z))
  · exact .inl (.inr ⟨ob, key h fun _ z => by cases z⟩)
  · exact .inr h
section
variable {P : Program} {w : World} {K : PySem.W.Frag} {mg : Str → Option Value} {base : Heap} {tP f : Addr} {fd : FuncData}
theorem ok_LLaw (F : Fun K "law" "law" sLLaw f fd) (G__law_box : Kf P w K mg base 1 "_law_box" ["_law_script", "_law_k"] (spBox K)) (G__law_right : Kf P w K mg base 12 "_law_right" ["_law_box_here"] (spLRight tP))
    (m_all : mg "all" = none) (m_range : mg "range" = none) (m_min : mg "min" = none) (m_len : mg "len" = none) : FnOk P w K mg base CX0 13 f fd ["_law_script"] (spLaw K tP) := by
  refine F.ok scLLaw (fun vs H Q E h => ?_) (fun cdv A outer s H vs Q E hr h => ?_)
  · obtain ⟨a, ns, rfl, _⟩ := h
    rfl
  · obtain ⟨a, ns, rfl, hS, hn, tb, q⟩ := h
    have nd := scLLaw.nd
    refine ⟨_, (pss_one (ps_ret (pe_callB (cr_all rfl) (by rfl) m_all (by decide +kernel) (pa_cons (pe_lc (own := [("_law_k", 1)]) (g := gName 1) (tt := tYes) (te := tCall (spLRight tP) [] E0 (tCons (tCall (spBox K) [] E0 (tCons (tVar 0) (tCons (tVar 1) tNil))) tNil)) rfl nd (pi_range1 (by rfl) m_range (pa_cons (pe_op op_add pe_int (pe_callB (call_min2 rfl) (by rfl) m_min (by decide +kernel) (pa_cons pe_int (pa_cons (pe_callB call_len_seq (by rfl) m_len (by decide +kernel) (pa_cons (pv 0) pa_nil)) pa_nil)))) pa_nil)) (blkOk_by (N := nLLaw) (sc := defScope sLLaw) (by decide +kernel)) (fun _ _ _ _ _ => (pg_name (i := 1) nd rfl (by first | exact .inl rfl | exact .inr rfl))) (fun _ _ _ _ _ => pts_nil) (fun _ _ _ _ _ => (pe_fn G__law_right (hr.mono (by decide)) (pa_cons (pe_fn G__law_box (hr.mono (by decide)) (pa_cons (pv 0) (pa_cons (pv 1) pa_nil))) pa_nil)))) pa_nil)))), ?_⟩
    refine ⟨_, rfl, a, _, rfl, .inl hS, ?_⟩
    rw [List.length_map]
    obtain ⟨m, hm, hm3⟩ : ∃ m : Nat, (1 + (if (ns.length : Int) < 2 then (ns.length : Int) else 2)) = (m : Int) ∧ m ≤ 3 := by
      by_cases z : (ns.length : Int) < 2
      · rw [if_pos z]
        exact ⟨1 + ns.length, by omega, by omega⟩
      · rw [if_neg z]
        exact ⟨3, rfl, Nat.le_refl _⟩
    refine ⟨2, _, rfl, _, _, rfl, rfl, ?_⟩
    dsimp only
    rw [hm]
    refine ⟨_, rfl, by omega, by omega, fun D nD => ?_⟩
    rw [Int.toNat_natCast]
    have nDt : D ≠ tP := fun z => by
      obtain ⟨ps, ht, _⟩ := tb
      rw [z, ht] at nD
      cases nD
    refine lc_it (walk_range (lo := 0) (n := m)) (fun j G => Fr [tP] H G ∧ LamX.TabS G tP qLam ∧ G D = some (.lst ((List.replicate j true).map V.bl))) ⟨Fr.same (same_new nD), tab_fr (F := []) tb (Fr.same (same_new nD)) List.not_mem_nil, upd_same⟩ (fun _ _ _ _ => True.intro) ?_ ?_
    · rintro j x G G2 hj ⟨fG, tG, gD⟩ ⟨rfl, rfl⟩
      refine ⟨rfl, _, rfl, _, rfl, a, ns, j, by simp, sq_frT tb fG hS, by omega, fun src G5 nsrc sq S0 => ?_⟩
      have n2 : D ≠ src := fun z => by
        rw [← z, gD] at nsrc
        cases nsrc
      have t5 : LamX.TabS G5 tP qLam := tab_fr (F := []) tG (Fr.same sq) List.not_mem_nil
      refine ⟨src, 0, rfl, S0, by decide, t5, fun G6 f6 t6 => ?_⟩
      have gD6 : G6 D = some (.lst ((List.replicate j true).map V.bl)) := f6 _ _ (sq _ _ gD) (.inl fun z => by
        rcases List.mem_cons.mp z with z | z
        · exact n2 z
        · exact nDt (List.mem_singleton.mp z))
      have f7 : Fr [tP] H G6 := fG.trans fun b o e n => by
        refine f6 b o (sq _ _ e) (n.imp (fun z y => ?_) id)
        rcases List.mem_cons.mp y with y | y
        · rw [y, nsrc] at e
          cases e
        · exact z y
      refine ⟨_, gD6, ?_, ⟨fun b o e n => ?_, ?_, ?_⟩⟩
      · rw [List.length_map, List.length_replicate]
        exact Nat.lt_of_le_of_lt (show j ≤ 10 by omega) (by decide)
      · rw [upd_ne (ne_of_none e nD)]
        exact f7 b o e n
      · obtain ⟨ps, ht, r1, r2⟩ := t6
        refine ⟨ps, (upd_ne (Ne.symm nDt)).trans ht, r1, fun pos cv hc => ?_⟩
        obtain ⟨c, e, hcc⟩ := r2 pos cv hc
        refine ⟨c, e, (upd_ne fun z => ?_).trans hcc⟩
        rw [z, gD6] at hcc
        cases hcc
      · rw [upd_same, List.replicate_succ', List.map_append]
        rfl
    · rintro G ⟨_, _, gD⟩
      refine ⟨D, _, rfl, sq_of gD, ?_⟩
      rw [show ((List.replicate m true).all id) = true from by simp]
      exact q _
end
end K02
set_option Elab.async false
set_option linter.all false
set_option maxRecDepth 100000
set_option maxHeartbeats 4000000
namespace K02
open PySem PySem.Spec PyProof.Rows L2 Evl KB
/-! ### NotRunning -/
abbrev sNotRun : Stmt := inClass (topS 2) 0
theorem scNotRun : FnScope ["self", "number"] ["self", "number"] (defScope sNotRun) := ⟨rfl, rfl, rfl, by decide +kernel, rfl, by decide +kernel, by decide +kernel⟩
section
variable {P : Program} {w : World} {K : PySem.W.Frag} {mg : Str → Option Value} {base : Heap} {C fI f CN : Addr} {fd : FuncData}
theorem ok_NotRun (F : Fun K "__init__" "NotRunning.__init__" sNotRun fI fd) (T : ExK K C fI mroR "RuntimeError.__new__") (hno : PySem.W.findIn K (.ref C) "number" = some none) (mB : mg "RuntimeError" = none)
    (fc : PySem.W.findCls K (.type "RuntimeError") (.type "type") "__init__" = some (.val (.builtin "RuntimeError.__init__"))) : FnOk P w K mg base CX0 1 fI fd ["self", "number"] (spInit C "number") := by
  refine F.ok scNotRun (fun vs H Q E h => ?_) (fun cdv A outer s H vs Q E hr h => ?_)
  · obtain ⟨a, y, rfl, _⟩ := h
    rfl
  · obtain ⟨a, y, rfl, ea, sy, q⟩ := h
    obtain ⟨m, hm, fm⟩ := said_fmt sy
    refine ⟨_, pss_cons (ps_expr (pe_xin PySem.F.excBase_RuntimeError T (by rfl) mB (by decide +kernel) ty_R (by decide +kernel) fc (pa_cons (pv 0) (pa_cons (pe_joined (PJ.cons pe_str (PJ.cons (pe_fmt (pv 1)) (PJ.cons pe_str PJ.nil)))) pa_nil))))
      (pss_one (ps_xst PySem.F.store_RuntimeError T hno (pv 0) (pv 1))), ?_⟩
    refine ⟨_, rfl, _, rfl, small_line (len_add sz0 (by decide +kernel : _ ≤ 100) (by decide : 0 + 100 ≤ 100000)), ?_⟩
    show tFmt (tVar 1) _ _ _
    refine fm _ 1 _ _ rfl ?_
    have l2 := len_add (k := 10000) (len_add (k := 100) (b := (("process " : String) : Str)) sz0 (by decide +kernel : _ ≤ 100) (Nat.le_refl _)) hm (by decide)
    refine ⟨_, rfl, small_line (Nat.le_trans l2 (by decide)), _, rfl, small_line (len_add l2 (by decide +kernel : _ ≤ 100) (by decide)), ?_⟩
    refine ⟨a, _, rfl, (show 1 ≤ 1000 by decide), ea, ?_⟩
    exact ⟨_, rfl, _, rfl, a, rfl, ea, q⟩
end
/-! ### the table of the calls -/
def tags (es : List DictEntry) : List (Option V × Int) := es.map fun e => (absV e.key, e.hash)
def tagsOf (P : Params) (ks : List Str) : List (Option V × Int) := ks.map fun k => (some (V.str k), PyData.keyHash P k)
theorem abs_str {u : Value} {x : Str} (h : absV u = some (V.str x)) : ∃ t, u = .str x t := by
  cases u <;> simp [absV] at h
  subst h
  exact ⟨_, rfl⟩
theorem kdict_of {K : PySem.W.Frag} {w : World} {a : Addr} {ks : List Str} : ∀ {es : Array DictEntry} {n : Nat}, K.lookup a = some ⟨.type "dict", none, .dict es n, #[]⟩ → (a == sysModules) = false → tags es.toList = tagsOf w.params ks → KDict K w a es n := by
  intro es n l o h
  refine ⟨l, ?_, o⟩
  have all : ∀ e ∈ es.toList, ∃ x t, e.key = .str x t ∧ e.hash = PyData.keyHash w.params x := fun e m => by
    have m2 : (absV e.key, e.hash) ∈ tagsOf w.params ks := by
      rw [← h]
      exact List.mem_map_of_mem (f := fun e : DictEntry => (absV e.key, e.hash)) m
    obtain ⟨k, _, ek⟩ := List.mem_map.mp m2
    obtain ⟨e1, e2⟩ := Prod.mk.inj ek
    obtain ⟨t, et⟩ := abs_str e1.symm
    exact ⟨k, t, et, e2.symm⟩
  generalize es.toList = l at all
  induction l with
  | nil => trivial
  | cons e r ih => exact ⟨all e List.mem_cons_self, ih fun x m => all x (List.mem_cons_of_mem _ m)⟩
/-! ### an empty tuple of the text -/
theorem sq_emp {K : PySem.W.Frag} {a : Addr} {od : Option Addr} {n : Nat} {sl : Array (Option Value)} (h : K.lookup a = some ⟨.type "tuple", od, .seq #[] n, sl⟩) : ∀ G, SqT K G a [] := fun G => .inr ⟨_, #[], n, h, rfl, rfl, Nat.zero_le _, .nil⟩
theorem dfl_emp {K : PySem.W.Frag} {x qual : Str} {st : Stmt} {f T e0 : Addr} {oc : Value} {od an oT : Option Addr} {osl slT : Array (Option Value)} {nT : Nat} {doc pm cdv ct : Value}
    (l : K.lookup f = some ⟨oc, od, .func (PySem.W.fnOf x qual (defArgs st) (defBody st) (defScope st) (.ref T) .none doc pm an cdv ct), osl⟩) (hcd : PySem.W.codeIn K cdv qual = true) (kp : PySem.W.keepIn K (.ref f) = true)
    (lT : K.lookup T = some ⟨.type "tuple", oT, .seq #[.ref e0] nT, slT⟩) : FunD K x qual (defArgs st) (defBody st) (defScope st) [.ref e0] [] f (PySem.W.fnOf x qual (defArgs st) (defBody st) (defScope st) (.ref T) .none doc pm an cdv ct) :=
  ⟨⟨_, _, _, _, _, _, _, _, _, _, rfl, l, hcd, .inr ⟨by simp, T, _, [.ref e0], nT, rfl, lT, rfl, .cons rfl .nil⟩, .inl rfl⟩, kp⟩
theorem tabIn_of {K : PySem.W.Frag} {y : Str} {f c P : Addr} {oc e : Value} {od dd : Option Addr} {fd : FuncData} {sl sl2 : Array (Option Value)} {vs : Array Value} (a : PySem.W.nsIn K mainGlobals y = some (some (.ref f))) (l : K.lookup f = some ⟨oc, od, .func fd, sl⟩) (hc : fd.code = .ref c) (lc : K.lookup c = some ⟨e, dd, .fields vs, sl2⟩)
    (hv : vs[11]? = some (.ref P)) : PySem.W.tabIn K y = some (c, P) := by
  unfold PySem.W.tabIn
  rw [a]
  dsimp only
  rw [l]
  dsimp only
  rw [hc]
  dsimp only
  rw [lc]
  dsimp only
  rw [hv]
theorem tabS_emp {H : Hp} {P : Addr} {q : Str} (h : H P = some (.tbl #[])) : LamX.TabS H P q := ⟨#[], h, by trivial, fun _ _ z => by cases z⟩
end K02
/-! ### the end, with a table of a def of the text -/
namespace LamX
open PySem PySem.Spec PyProof.Rows L2
theorem walk_ofY {l : PySem.W.OpenLaw} {n k : Nat} {q : Program} {loose : List Str} {XP : (Str → Option Value) → Heap → Prop} {YP : World → Heap → Prop} {d : DefRec} {K : Params → PySem.W.Frag} {CX : World → CXT} {x : Str} (y : Str)
    (hn : l.most = some n) (hn2 : n ≤ sizeLine) (hdf : d.params.defaults = []) (hr : Room k callerA) (hrec : ((recsOf q).any fun e => e.name == y) = true) (hY : ∀ (w : World) (h : Heap), YP w h → (K w.params).In h)
    (F : ∀ (w : World) (mg : Str → Option Value) (fa : Addr) (h : Heap), YP w h → (K w.params).In h → h.Ns mainGlobals mg → mg d.name = some (.ref fa) →
      (∀ c P, PySem.W.tabIn (K w.params) y = some (c, P) → PySem.W.CodeHd h c P ∧ h.get? P = some { cls := .none, data := .fields #[] }) → LawAtS l w (K w.params) (CX w) k n x mg fa h)
    (hCX : ∀ (w : World) (H : Hp) (s : Shared) (e : Value) (s' : Shared), CX w [] H s (fun _ _ _ => False) e s' → False) :
    PySem.W.WalkO q loose XP YP l.row.toRowW d [] (fun f vs => PySem.call f vs) := by
  refine Att.attach_callB hn hdf fun w s₀ s₁ mg mb fa o pm cd doc a vs ns G Y ho hd hcd hmg hobj hints hlen hbits hg => ?_
  have KX := hY w _ Y
  obtain ⟨e, hf⟩ : ∃ e, (recsOf q).find? (fun e => e.name == y) = some e := by
    obtain ⟨e, hm, he⟩ := List.any_eq_true.mp hrec
    cases z : (recsOf q).find? (fun e => e.name == y) with
    | none => exact absurd he (by rw [List.find?_eq_none] at z; exact z e hm)
    | some e => exact ⟨e, rfl⟩
  obtain ⟨fd, cs, sp, hT, nT, C, hb, hsp, hF⟩ := F w mg fa _ Y KX G.T.g hmg fun c P ht => PySem.W.tab_of G.T KX hf ht
  exact law_callTs KX G.T.g G.T.b G.T.builtins G.T.nolimit hg hT nT C G.T.bmain hobj hints (Nat.le_trans hlen hn2) hr hF hb (fun H hH hS => hsp H a ns hlen hbits hH hS) fun H e s' => hCX w H s₁ e s'
end LamX
set_option Elab.async false
set_option linter.all false
set_option maxRecDepth 100000
set_option maxHeartbeats 4000000
/-! The head of a large text: what is looked at are the objects that the names of the module, the classes' own dicts and the functions lead to, and nothing else (HeadHook4's hookX looks at all that is reached in n steps, each step without doubles: too much for the kernel where the text has a hundred defs). -/
namespace HL
open PySem PySem.Spec PyProof.Rows L2 He
/-- what is behind functions (code, defaults) and classes (their dict) -/
def behind (o : Obj) : List Addr := match o.data with
  | .func fd => refV fd.code ++ refV fd.defaults
  | .cls cd => [cd.ns]
  | _ => []
/-- what dicts and tuples hold -/
def held (o : Obj) : List Addr := match o.data with
  | .dict es _ => es.toList.flatMap fun e => refV e.val
  | .seq its _ => its.toList.flatMap refV
  | _ => []
def onlyNs (o : Obj) : List Addr := match o.data with
  | .cls cd => [cd.ns]
  | _ => []
def over (g : Addr → Option Obj) (f : Obj → List Addr) (as : List Addr) : List Addr := as.flatMap fun a => match g a with
  | some o => f o
  | none => []
def asL (g : Addr → Option Obj) : List Addr :=
  let l1 := over g held [mainGlobals]
  let l2 := over g behind l1
  let l3 := over g held (over g onlyNs l1)
  let l4 := over g behind l3
  mainGlobals :: (l1 ++ (l2 ++ (l3 ++ (l4 ++ over g held l4))))
section
variable (fa : List Fa) (fn : List DefD) (ts : List Tab) (tf : List Defn) (ex : PySem.W.Frag → Bool)
def obsL (g : Addr → Option Obj) : AlX := (obsT fa fn ts (frT g (asL g)), ex (frT g (asL g)) && tabsB g tf (frT g (asL g)))
theorem saysL_of {w : World} {h : Heap} (e : obsL fa fn ts tf ex h.get? = valX fn ts w) : SaysX fa fn ts tf ex w h (frT h.get? (asL h.get?)) := by
  have e1 : obsT fa fn ts (frT h.get? (asL h.get?)) = valT fn ts w := congrArg Prod.fst e
  have e2 : (ex (frT h.get? (asL h.get?)) && tabsB h.get? tf (frT h.get? (asL h.get?))) = true := congrArg Prod.snd e
  generalize asL h.get? = as at e1 e2
  obtain ⟨h1, h2⟩ := ba e2
  have key : ∀ p ∈ tf, PySem.W.codeHdIn (frT h.get? as) (cT (frT h.get? as) p).1 (cT (frT h.get? as) p).2 = true ∧ ∃ o, h.get? (cT (frT h.get? as) p).2 = some o ∧ emptyTab o = true := fun p hp => by
    obtain ⟨h3, h4⟩ := ba (List.all_eq_true.mp h2 p hp)
    refine ⟨h3, ?_⟩
    cases q : h.get? (cT (frT h.get? as) p).2 with
    | none => rw [q] at h4; cases h4
    | some o => rw [q] at h4; exact ⟨o, rfl, h4⟩
  exact ⟨e1, h1, fun p hp => (key p hp).1, fun p hp => by
    obtain ⟨_, o, q, z⟩ := key p hp
    exact frT_none q z, fun p hp => by
    obtain ⟨_, o, q, z⟩ := key p hp
    rw [q, emptyTab_eq z]⟩
def hookL : PySem.W.Hook where
  α := AlX
  obs := fun s => obsL fa fn ts tf ex s.heap.get?
  val := fun w => valX fn ts w
  says := fun w h => ∃ K : PySem.W.Frag, K.In h ∧ SaysX fa fn ts tf ex w h K
  of := fun _ _ e => ⟨_, frT_in, saysL_of _ _ _ _ _ e⟩
  keeps := fun _ _ _ ⟨K, hK, c⟩ k => ⟨K, PySem.W.Frag.In.keeps hK k, ⟨c.t, c.more, c.hd, c.out, fun p hp => k _ _ (c.empty p hp)⟩⟩
theorem obsL_eq {g : Addr → Option Obj} {s : Shared} (h : ∀ a, g a = s.heap.get? a) : obsL fa fn ts tf ex g = (hookL fa fn ts tf ex).obs s := by
  have e : g = s.heap.get? := funext h
  rw [e] <;> rfl
end
/-! ### from the facts -/
section
variable {K : PySem.W.Frag} {h : Heap} {mg : Str → Option Value}
theorem fun_of {x qual : Str} {st : Stmt} {f : Addr} {fd : FuncData} {kws : List (Str × V)} (F : FunD K x qual (defArgs st) (defBody st) (defScope st) [] kws f fd) : Fun K x qual st f fd := by
  obtain ⟨oc, od, dV, kV, doc, pm, an, cdv, ct, osl, e, l, c, hd, _⟩ := F.ex
  rcases hd with ⟨_, e2⟩ | ⟨e2, _⟩
  · subst e2
    exact ⟨⟨oc, od, kV, doc, pm, an, cdv, ct, osl, e, l, c⟩, F.kp⟩
  · exact absurd rfl e2
theorem code_at {x qual : Str} {st : Stmt} {y : Str} {fd : FuncData} (F : Fun K x qual st (ga K y) fd) : fd.code = .ref (codeOf K (y, none)) := by
  obtain ⟨oc, od, kV, doc, pm, an, cdv, ct, osl, e, l, c⟩ := F.ex
  obtain ⟨a, ha⟩ := codeIn_ref c
  have e1 : fd.code = .ref a := by rw [e]; exact ha
  have e2 := codeOf_eq (p := (y, none)) (K := K) l e1
  rw [e1, e2]
/-- an empty tuple -/
def empB (K : PySem.W.Frag) (a : Addr) : Bool := match K.lookup a with
  | some ⟨.type c, _, .seq its _, _⟩ => decide (c = "tuple") && its.isEmpty
  | _ => false
theorem empB_ok {a : Addr} (h : empB K a = true) : ∀ G, SqT K G a [] := fun G => by
  unfold empB at h
  split at h
  · rename_i c od its n sl e
    obtain ⟨h1, h2⟩ := ba h
    have e2 := Array.isEmpty_iff.mp h2
    subst e2
    exact .inr ⟨_, #[], n, e, congrArg Value.type (of_decide_eq_true h1), rfl, Nat.zero_le _, .nil⟩
  · cases h
/-- an own exception class with an __init__ of its own -/
def excB (K : PySem.W.Frag) (C f : Addr) (bm : List Value) (newId : String) : Bool := PySem.W.excInitIn K C bm newId && (PySem.W.excOver K C bm && (eqO (PySem.W.findIn K (.ref C) "__setattr__") (some (some (.builtin "object.__setattr__"))) && (eqO (PySem.W.findIn K (.ref C) "__init__") (some (some (.ref f))) && (decide (PySem.W.typeIn K (.ref f) = some (.type "function")) && (PySem.W.keepIn K (.ref C) && (eqO (PySem.W.findIn K (.ref C) "__getattribute__") (some (some (.builtin "BaseException.__getattribute__"))) && (eqO (PySem.W.findIn K (.ref C) "__getattr__") (some none) && (decide (PySem.W.subIn K (.ref C) (.type "BaseException") = some true) && (PySem.W.hasDictIn K C && (eqO (PySem.W.findIn K (.ref C) "__class__") (some (some (.builtin "object.__class__"))) && (eqO (PySem.W.specialIn K (.builtin "object.__class__") "__get__") (some (some (.builtin "getset_descriptor.__get__"))) && (decide (PySem.W.takesIn K (.builtin "object.__class__") = some true) && (decide (PySem.W.mroIn K C (.type "object") = some true) && (decide (PySem.W.typeIn K (.ref C) = some (.type "type"))))))))))))))))
theorem excB_ok {C f : Addr} {bm : List Value} {newId : String} (c : excB K C f bm newId = true) : ExK K C f bm newId ∧ PySem.W.typeIn K (.ref C) = some (.type "type") := by
  obtain ⟨c1, c⟩ := ba c
  obtain ⟨c2, c⟩ := ba c
  obtain ⟨c3, c⟩ := ba c
  obtain ⟨c4, c⟩ := ba c
  obtain ⟨c5, c⟩ := ba c
  obtain ⟨c6, c⟩ := ba c
  obtain ⟨c7, c⟩ := ba c
  obtain ⟨c8, c⟩ := ba c
  obtain ⟨c9, c⟩ := ba c
  obtain ⟨c10, c⟩ := ba c
  obtain ⟨c11, c⟩ := ba c
  obtain ⟨c12, c⟩ := ba c
  obtain ⟨c13, c⟩ := ba c
  obtain ⟨c14, c15⟩ := ba c
  exact ⟨⟨c1, c2, eqO_ok c3, eqO_ok c4, of_decide_eq_true c5, c6, ⟨eqO_ok c7, eqO_ok c8, of_decide_eq_true c9, c10, eqO_ok c11, eqO_ok c12, of_decide_eq_true c13, of_decide_eq_true c14⟩⟩, of_decide_eq_true c15⟩
/-- a built-in exception's __init__, found on the class -/
def iniB (K : PySem.W.Frag) (B : String) (u : String) : Bool := match PySem.W.findCls K (.type B) (.type "type") "__init__" with
  | some (.val (.builtin b)) => decide (b = u)
  | _ => false
theorem iniB_ok {B u : String} (c : iniB K B u = true) : PySem.W.findCls K (.type B) (.type "type") "__init__" = some (.val (.builtin u)) := by
  unfold iniB at c
  split at c
  · rename_i b e
    rw [e, of_decide_eq_true c]
  · cases c
/-- a table's entry that is a def of the module -/
theorem tab_glo {a : Addr} {kvs : List (Str × Dv)} (c : valsB K a kvs = true) {x y : Str} (m : (x, Dv.glo y) ∈ kvs) : PySem.W.nsIn K a x = some (some (.ref (ga K y))) := by
  obtain ⟨u, e1, e2⟩ := valsB_ok c m
  have e3 : u = .ref (ga K y) := e2
  rw [e1, e3]
end
end HL
set_option Elab.async false
set_option linter.all false
set_option maxRecDepth 100000
set_option maxHeartbeats 4000000
namespace KY
open PySem PySem.Spec PyProof.Rows L2 Evl
abbrev d0 : He.DefD := ⟨("NotRunning", some "__init__"), "__init__", "NotRunning.__init__", defArgs K02.sNotRun, defBody K02.sNotRun, defScope K02.sNotRun, [], []⟩
abbrev d1 : He.DefD := ⟨("_law_same", none), "_law_same", "_law_same", defArgs KB.sSame, defBody KB.sSame, defScope KB.sSame, [], []⟩
abbrev d2 : He.DefD := ⟨("children", none), "children", "children", defArgs K02.sChildren, defBody K02.sChildren, defScope K02.sChildren, [], []⟩
abbrev d3 : He.DefD := ⟨("is_alive", none), "is_alive", "is_alive", defArgs K02.sIsAlive, defBody K02.sIsAlive, defScope K02.sIsAlive, [], []⟩
abbrev d4 : He.DefD := ⟨("Process", some "runs"), "runs", "Process.runs", defArgs K02.sRuns, defBody K02.sRuns, defScope K02.sRuns, [], []⟩
abbrev d5 : He.DefD := ⟨("is_taken", none), "is_taken", "is_taken", defArgs K02.sIsTaken, defBody K02.sIsTaken, defScope K02.sIsTaken, [], []⟩
abbrev d6 : He.DefD := ⟨("word_of", none), "word_of", "word_of", defArgs K02.sWordOf, defBody K02.sWordOf, defScope K02.sWordOf, [], []⟩
abbrev d7 : He.DefD := ⟨("may_move", none), "may_move", "may_move", defArgs K02.sMayMove, defBody K02.sMayMove, defScope K02.sMayMove, [], []⟩
abbrev d8 : He.DefD := ⟨("do_adopt", none), "do_adopt", "do_adopt", defArgs K02.sDoAdopt, defBody K02.sDoAdopt, defScope K02.sDoAdopt, [], []⟩
abbrev d9 : He.DefD := ⟨("do_lead", none), "do_lead", "do_lead", defArgs K02.sDoLead, defBody K02.sDoLead, defScope K02.sDoLead, [], []⟩
abbrev d10 : He.DefD := ⟨("row_of", none), "row_of", "row_of", defArgs K02.sRowOf, defBody K02.sRowOf, defScope K02.sRowOf, [], []⟩
abbrev d11 : He.DefD := ⟨("place_in_row", none), "place_in_row", "place_in_row", defArgs K02.sPlaceInRow, defBody K02.sPlaceInRow, defScope K02.sPlaceInRow, [], []⟩
abbrev d12 : He.DefD := ⟨("leave_row", none), "leave_row", "leave_row", defArgs K02.sLeaveRow, defBody K02.sLeaveRow, defScope K02.sLeaveRow, [], []⟩
abbrev d13 : He.DefD := ⟨("adopter_above", none), "adopter_above", "adopter_above", defArgs K02.sAdopterAbove, defBody K02.sAdopterAbove, defScope K02.sAdopterAbove, [], []⟩
abbrev d14 : He.DefD := ⟨("Process", some "__init__"), "__init__", "Process.__init__", defArgs K02.sPInit, defBody K02.sPInit, defScope K02.sPInit, [], []⟩
abbrev d15 : He.DefD := ⟨("do_fork", none), "do_fork", "do_fork", defArgs K02.sDoFork, defBody K02.sDoFork, defScope K02.sDoFork, [], []⟩
abbrev d16 : He.DefD := ⟨("do_about", none), "do_about", "do_about", defArgs K02.sDoAbout, defBody K02.sDoAbout, defScope K02.sDoAbout, [], []⟩
abbrev d17 : He.DefD := ⟨("do_join", none), "do_join", "do_join", defArgs K02.sDoJoin, defBody K02.sDoJoin, defScope K02.sDoJoin, [], []⟩
abbrev d18 : He.DefD := ⟨("wait_now", none), "wait_now", "wait_now", defArgs K02.sWaitNow, defBody K02.sWaitNow, defScope K02.sWaitNow, [], []⟩
abbrev d19 : He.DefD := ⟨("answer_now", none), "answer_now", "answer_now", defArgs K02.sAnswerNow, defBody K02.sAnswerNow, defScope K02.sAnswerNow, [], []⟩
abbrev d20 : He.DefD := ⟨("next_in_row", none), "next_in_row", "next_in_row", defArgs K02.sNextInRow, defBody K02.sNextInRow, defScope K02.sNextInRow, [], []⟩
abbrev d21 : He.DefD := ⟨("begin", none), "begin", "begin", defArgs K02.sBegin, defBody K02.sBegin, defScope K02.sBegin, [], []⟩
abbrev d22 : He.DefD := ⟨("do_wait", none), "do_wait", "do_wait", defArgs K02.sDoWait, defBody K02.sDoWait, defScope K02.sDoWait, [], []⟩
abbrev d23 : He.DefD := ⟨("next_in_rows", none), "next_in_rows", "next_in_rows", defArgs K02.sNextInRows, defBody K02.sNextInRows, defScope K02.sNextInRows, [], []⟩
abbrev d24 : He.DefD := ⟨("settle_one", none), "settle_one", "settle_one", defArgs K02.sSettleOne, defBody K02.sSettleOne, defScope K02.sSettleOne, [], []⟩
abbrev d25 : He.DefD := ⟨("settle", none), "settle", "settle", defArgs K02.sSettle, defBody K02.sSettle, defScope K02.sSettle, [], []⟩
abbrev d26 : He.DefD := ⟨("first_met", none), "first_met", "first_met", defArgs K02.sFirstMet, defBody K02.sFirstMet, defScope K02.sFirstMet, [], []⟩
abbrev d27 : He.DefD := ⟨("walk", none), "walk", "walk", defArgs K02.sWalk, defBody K02.sWalk, defScope K02.sWalk, [], []⟩
abbrev d28 : He.DefD := ⟨("reached", none), "reached", "reached", defArgs K02.sReached, defBody K02.sReached, defScope K02.sReached, [], []⟩
abbrev d29 : He.DefD := ⟨("held_things", none), "held_things", "held_things", defArgs K02.sHeldThings, defBody K02.sHeldThings, defScope K02.sHeldThings, [], []⟩
abbrev d30 : He.DefD := ⟨("sweep", none), "sweep", "sweep", defArgs K02.sSweep, defBody K02.sSweep, defScope K02.sSweep, [], []⟩
abbrev d31 : He.DefD := ⟨("end_process", none), "end_process", "end_process", defArgs K02.sEndProcess, defBody K02.sEndProcess, defScope K02.sEndProcess, [], []⟩
abbrev d32 : He.DefD := ⟨("do_end", none), "do_end", "do_end", defArgs K02.sDoEnd, defBody K02.sDoEnd, defScope K02.sDoEnd, [], []⟩
abbrev d33 : He.DefD := ⟨("deliver", none), "deliver", "deliver", defArgs K02.sDeliver, defBody K02.sDeliver, defScope K02.sDeliver, [], []⟩
abbrev d34 : He.DefD := ⟨("do_send", none), "do_send", "do_send", defArgs K02.sDoSend, defBody K02.sDoSend, defScope K02.sDoSend, [], []⟩
abbrev d35 : He.DefD := ⟨("World", some "__init__"), "__init__", "World.__init__", defArgs K02.sWInit, defBody K02.sWInit, defScope K02.sWInit, [], []⟩
abbrev d36 : He.DefD := ⟨("Machine", some "__init__"), "__init__", "Machine.__init__", defArgs K02.sMInit, defBody K02.sMInit, defScope K02.sMInit, [.adr (He.dflAt ("Machine", some "__init__") 0)], []⟩
abbrev d37 : He.DefD := ⟨("perform", none), "perform", "perform", defArgs K02.sPerform, defBody K02.sPerform, defScope K02.sPerform, [], []⟩
abbrev d38 : He.DefD := ⟨("Machine", some "numbers"), "numbers", "Machine.numbers", defArgs K02.sMNumbers, defBody K02.sMNumbers, defScope K02.sMNumbers, [], []⟩
abbrev d39 : He.DefD := ⟨("Machine", some "do"), "do", "Machine.do", defArgs K02.sMDo, defBody K02.sMDo, defScope K02.sMDo, [], []⟩
abbrev d40 : He.DefD := ⟨("_law_alive", none), "_law_alive", "_law_alive", defArgs K02.sLAlive, defBody K02.sLAlive, defScope K02.sLAlive, [], []⟩
abbrev d41 : He.DefD := ⟨("_law_kids", none), "_law_kids", "_law_kids", defArgs K02.sLKids, defBody K02.sLKids, defScope K02.sLKids, [], []⟩
abbrev d42 : He.DefD := ⟨("_law_runs", none), "_law_runs", "_law_runs", defArgs K02.sLRuns, defBody K02.sLRuns, defScope K02.sLRuns, [], []⟩
abbrev d43 : He.DefD := ⟨("_law_above", none), "_law_above", "_law_above", defArgs K02.sLAbove, defBody K02.sLAbove, defScope K02.sLAbove, [], []⟩
abbrev d44 : He.DefD := ⟨("_law_proc", none), "_law_proc", "_law_proc", defArgs K02.sLProc, defBody K02.sLProc, defScope K02.sLProc, [], []⟩
abbrev d45 : He.DefD := ⟨("_law_waited", none), "_law_waited", "_law_waited", defArgs K02.sLWaited, defBody K02.sLWaited, defScope K02.sLWaited, [], []⟩
abbrev d46 : He.DefD := ⟨("_law_about", none), "_law_about", "_law_about", defArgs K02.sLAbout, defBody K02.sLAbout, defScope K02.sLAbout, [], []⟩
abbrev d47 : He.DefD := ⟨("_law_joined", none), "_law_joined", "_law_joined", defArgs K02.sLJoined, defBody K02.sLJoined, defScope K02.sLJoined, [], []⟩
abbrev d48 : He.DefD := ⟨("_law_ended", none), "_law_ended", "_law_ended", defArgs K02.sLEnded, defBody K02.sLEnded, defScope K02.sLEnded, [], []⟩
abbrev d49 : He.DefD := ⟨("_law_family", none), "_law_family", "_law_family", defArgs K02.sLFamily, defBody K02.sLFamily, defScope K02.sLFamily, [], []⟩
abbrev d50 : He.DefD := ⟨("_law_settled", none), "_law_settled", "_law_settled", defArgs K02.sLSettled, defBody K02.sLSettled, defScope K02.sLSettled, [], []⟩
abbrev d51 : He.DefD := ⟨("_law_sent", none), "_law_sent", "_law_sent", defArgs K02.sLSent, defBody K02.sLSent, defScope K02.sLSent, [], []⟩
abbrev d52 : He.DefD := ⟨("_law_do", none), "_law_do", "_law_do", defArgs K02.sLDo, defBody K02.sLDo, defScope K02.sLDo, [], []⟩
abbrev d53 : He.DefD := ⟨("_law_take", none), "_law_take", "_law_take", defArgs KB.sTake, defBody KB.sTake, defScope KB.sTake, [], []⟩
abbrev d54 : He.DefD := ⟨("_law_pick", none), "_law_pick", "_law_pick", defArgs KB.sPick, defBody KB.sPick, defScope KB.sPick, [], []⟩
abbrev d55 : He.DefD := ⟨("_law_box", none), "_law_box", "_law_box", defArgs KB.sBox, defBody KB.sBox, defScope KB.sBox, [], []⟩
abbrev d56 : He.DefD := ⟨("_law_drawn", none), "_law_drawn", "_law_drawn", defArgs K02.sLDrawn, defBody K02.sLDrawn, defScope K02.sLDrawn, [], []⟩
abbrev d57 : He.DefD := ⟨("_law_told", none), "_law_told", "_law_told", defArgs K02.sLTold, defBody K02.sLTold, defScope K02.sLTold, [], []⟩
abbrev d58 : He.DefD := ⟨("_law_all_about", none), "_law_all_about", "_law_all_about", defArgs K02.sLAllAbout, defBody K02.sLAllAbout, defScope K02.sLAllAbout, [], []⟩
abbrev d59 : He.DefD := ⟨("_law_grown", none), "_law_grown", "_law_grown", defArgs K02.sLGrown, defBody K02.sLGrown, defScope K02.sLGrown, [], []⟩
abbrev d60 : He.DefD := ⟨("_law_right", none), "_law_right", "_law_right", defArgs K02.sLRight, defBody K02.sLRight, defScope K02.sLRight, [], []⟩
abbrev d61 : He.DefD := ⟨("law", none), "law", "law", defArgs K02.sLLaw, defBody K02.sLLaw, defScope K02.sLLaw, [], []⟩
abbrev fn_0 : List He.DefD := [d0, d1, d2, d3, d4, d5, d6, d7, d8, d9, d10, d11]
abbrev fn_1 : List He.DefD := [d12, d13, d14, d15, d16, d17, d18, d19, d20, d21, d22, d23]
abbrev fn_2 : List He.DefD := [d24, d25, d26, d27, d28, d29, d30, d31, d32, d33, d34, d35]
abbrev fn_3 : List He.DefD := [d36, d37, d38, d39, d40, d41, d42, d43, d44, d45, d46, d47]
abbrev fn_4 : List He.DefD := [d48, d49, d50, d51, d52, d53, d54, d55, d56, d57, d58, d59]
abbrev fn_5 : List He.DefD := [d60, d61]
abbrev fn : List He.DefD := fn_0 ++ (fn_1 ++ (fn_2 ++ (fn_3 ++ (fn_4 ++ (fn_5)))))
abbrev fa_0 : List He.Fa := [.glo "_law_same", .glo "children", .glo "is_alive", .meth "Process" "runs", .glo "is_taken", .glo "word_of", .glo "may_move", .glo "do_adopt", .glo "do_lead", .glo "row_of", .glo "place_in_row", .glo "leave_row"]
abbrev fa_1 : List He.Fa := [.glo "adopter_above", .glo "do_fork", .glo "do_about", .glo "do_join", .glo "wait_now", .glo "answer_now", .glo "next_in_row", .glo "begin", .glo "do_wait", .glo "next_in_rows", .glo "settle_one", .glo "settle"]
abbrev fa_2 : List He.Fa := [.glo "first_met", .glo "walk", .glo "reached", .glo "held_things", .glo "sweep", .glo "end_process", .glo "do_end", .glo "deliver", .glo "do_send", .glo "perform", .meth "Machine" "numbers", .meth "Machine" "do"]
abbrev fa_3 : List He.Fa := [.glo "_law_alive", .glo "_law_kids", .glo "_law_runs", .glo "_law_above", .glo "_law_proc", .glo "_law_waited", .glo "_law_about", .glo "_law_joined", .glo "_law_ended", .glo "_law_family", .glo "_law_settled", .glo "_law_sent"]
abbrev fa_4 : List He.Fa := [.glo "_law_do", .glo "_law_take", .glo "_law_pick", .glo "_law_box", .glo "_law_drawn", .glo "_law_told", .glo "_law_all_about", .glo "_law_grown", .glo "_law_right", .glo "law", .glo "World", .glo "Process"]
abbrev fa_5 : List He.Fa := [.glo "Machine", .glo "NotRunning", .cls "World", .noat "World" "processes", .noat "World" "files", .noat "World" "things", .noat "World" "pipes", .noat "World" "sides", .noat "World" "areas", .noat "World" "serial", .noat "World" "answered", .mkr "World"]
abbrev fa_6 : List He.Fa := [.cls "Process", .noat "Process" "number", .noat "Process" "parent", .noat "Process" "session", .noat "Process" "group", .noat "Process" "adopts", .noat "Process" "stopped", .noat "Process" "code", .noat "Process" "call", .noat "Process" "cells", .noat "Process" "handles", .mkr "Process"]
abbrev fa_7 : List He.Fa := [.cls "Machine", .noat "Machine" "world", .mkr "Machine", .int "FIRST" 1, .int "MOST" 199, .int "CELLS" 4, .free "RuntimeError", .free "isinstance", .free "list", .free "tuple", .free "len", .free "all"]
abbrev fa_8 : List He.Fa := [.free "zip", .free "bool", .free "str", .free "int", .free "sorted", .free "any", .free "dict", .free "abs", .free "range", .free "min", .noat "NotRunning" "number", .exm "NotRunning" "NotRunning" true]
abbrev fa_9 : List He.Fa := [.glo "FAMILY_CALLS"]
abbrev fa : List He.Fa := fa_0 ++ (fa_1 ++ (fa_2 ++ (fa_3 ++ (fa_4 ++ (fa_5 ++ (fa_6 ++ (fa_7 ++ (fa_8 ++ (fa_9)))))))))
abbrev famK : List (Str × He.Dv) := [("fork", .glo "do_fork"), ("lead", .glo "do_lead"), ("adopt", .glo "do_adopt"), ("join", .glo "do_join"), ("end", .glo "do_end"), ("wait", .glo "do_wait"), ("about", .glo "do_about"), ("send", .glo "do_send")]
abbrev tFam : He.Tab := (fun K => He.ga K "FAMILY_CALLS", ["fork", "lead", "adopt", "join", "end", "wait", "send", "sendall", "about"])
abbrev ts : List He.Tab := [tFam]
abbrev tf : List He.Defn := [("reached", none)]
abbrev ex : PySem.W.Frag → Bool := fun K => HL.excB K (He.ga K "NotRunning") (He.ma K (He.ga K "NotRunning") "__init__") mroR "RuntimeError.__new__" && (HL.iniB K "RuntimeError" "RuntimeError.__init__" && (HL.empB K (He.dflAt ("Machine", some "__init__") 0 K) && (He.valsB K (He.ga K "FAMILY_CALLS") famK && (decide (He.ga K "World" ≠ He.ga K "Process")))))
theorem facts {l : PySem.W.OpenLaw} {w : World} {K : PySem.W.Frag} {h : Heap} {mg : Str → Option Value} {fa_ : Addr} (X : K.In h) (G : h.Ns mainGlobals mg) (hfa : mg "law" = some (.ref fa_)) (c : He.SaysX fa fn ts tf ex w h K) :
    LamX.LawAtS l w K L2.CX0 13 63 "_law_script" mg fa_ h := by
  have S := c.t.d
  obtain ⟨fd0, D0⟩ := S.def_ 0 (d := d0) rfl
  have F0 : Fun K "__init__" "NotRunning.__init__" K02.sNotRun (He.ma K (He.ga K "NotRunning") "__init__") fd0 := HL.fun_of D0
  have b0 := F0.binds (ps := ["self", "number"]) fun _ _ _ _ _ _ us hl => match us, hl with | [_, _], _ => rfl
  obtain ⟨fd1, D1⟩ := S.def_ 1 (d := d1) rfl
  have F1 : Fun K "_law_same" "_law_same" KB.sSame (He.ga K "_law_same") fd1 := HL.fun_of D1
  have b1 := F1.binds (ps := ["_law_found", "_law_due"]) fun _ _ _ _ _ _ us hl => match us, hl with | [_, _], _ => rfl
  obtain ⟨fd2, D2⟩ := S.def_ 2 (d := d2) rfl
  have F2 : Fun K "children" "children" K02.sChildren (He.ga K "children") fd2 := HL.fun_of D2
  have b2 := F2.binds (ps := ["world", "number"]) fun _ _ _ _ _ _ us hl => match us, hl with | [_, _], _ => rfl
  obtain ⟨fd3, D3⟩ := S.def_ 3 (d := d3) rfl
  have F3 : Fun K "is_alive" "is_alive" K02.sIsAlive (He.ga K "is_alive") fd3 := HL.fun_of D3
  have b3 := F3.binds (ps := ["world", "number"]) fun _ _ _ _ _ _ us hl => match us, hl with | [_, _], _ => rfl
  obtain ⟨fd4, D4⟩ := S.def_ 4 (d := d4) rfl
  have F4 : Fun K "runs" "Process.runs" K02.sRuns (He.ma K (He.ga K "Process") "runs") fd4 := HL.fun_of D4
  have b4 := F4.binds (ps := ["self"]) fun _ _ _ _ _ _ us hl => match us, hl with | [_], _ => rfl
  obtain ⟨fd5, D5⟩ := S.def_ 5 (d := d5) rfl
  have F5 : Fun K "is_taken" "is_taken" K02.sIsTaken (He.ga K "is_taken") fd5 := HL.fun_of D5
  have b5 := F5.binds (ps := ["world", "number"]) fun _ _ _ _ _ _ us hl => match us, hl with | [_, _], _ => rfl
  obtain ⟨fd6, D6⟩ := S.def_ 6 (d := d6) rfl
  have F6 : Fun K "word_of" "word_of" K02.sWordOf (He.ga K "word_of") fd6 := HL.fun_of D6
  have b6 := F6.binds (ps := ["process"]) fun _ _ _ _ _ _ us hl => match us, hl with | [_], _ => rfl
  obtain ⟨fd7, D7⟩ := S.def_ 7 (d := d7) rfl
  have F7 : Fun K "may_move" "may_move" K02.sMayMove (He.ga K "may_move") fd7 := HL.fun_of D7
  have b7 := F7.binds (ps := ["world", "caller", "who"]) fun _ _ _ _ _ _ us hl => match us, hl with | [_, _, _], _ => rfl
  obtain ⟨fd8, D8⟩ := S.def_ 8 (d := d8) rfl
  have F8 : Fun K "do_adopt" "do_adopt" K02.sDoAdopt (He.ga K "do_adopt") fd8 := HL.fun_of D8
  have b8 := F8.binds (ps := ["world", "caller"]) fun _ _ _ _ _ _ us hl => match us, hl with | [_, _], _ => rfl
  obtain ⟨fd9, D9⟩ := S.def_ 9 (d := d9) rfl
  have F9 : Fun K "do_lead" "do_lead" K02.sDoLead (He.ga K "do_lead") fd9 := HL.fun_of D9
  have b9 := F9.binds (ps := ["world", "caller"]) fun _ _ _ _ _ _ us hl => match us, hl with | [_, _], _ => rfl
  obtain ⟨fd10, D10⟩ := S.def_ 10 (d := d10) rfl
  have F10 : Fun K "row_of" "row_of" K02.sRowOf (He.ga K "row_of") fd10 := HL.fun_of D10
  have b10 := F10.binds (ps := ["world", "process", "call"]) fun _ _ _ _ _ _ us hl => match us, hl with | [_, _, _], _ => rfl
  obtain ⟨fd11, D11⟩ := S.def_ 11 (d := d11) rfl
  have F11 : Fun K "place_in_row" "place_in_row" K02.sPlaceInRow (He.ga K "place_in_row") fd11 := HL.fun_of D11
  have b11 := F11.binds (ps := ["world", "process"]) fun _ _ _ _ _ _ us hl => match us, hl with | [_, _], _ => rfl
  obtain ⟨fd12, D12⟩ := S.def_ 12 (d := d12) rfl
  have F12 : Fun K "leave_row" "leave_row" K02.sLeaveRow (He.ga K "leave_row") fd12 := HL.fun_of D12
  have b12 := F12.binds (ps := ["world", "process"]) fun _ _ _ _ _ _ us hl => match us, hl with | [_, _], _ => rfl
  obtain ⟨fd13, D13⟩ := S.def_ 13 (d := d13) rfl
  have F13 : Fun K "adopter_above" "adopter_above" K02.sAdopterAbove (He.ga K "adopter_above") fd13 := HL.fun_of D13
  have b13 := F13.binds (ps := ["world", "process"]) fun _ _ _ _ _ _ us hl => match us, hl with | [_, _], _ => rfl
  obtain ⟨fd14, D14⟩ := S.def_ 14 (d := d14) rfl
  have F14 : Fun K "__init__" "Process.__init__" K02.sPInit (He.ma K (He.ga K "Process") "__init__") fd14 := HL.fun_of D14
  have b14 := F14.binds (ps := ["self", "number", "parent", "session", "group"]) fun _ _ _ _ _ _ us hl => match us, hl with | [_, _, _, _, _], _ => rfl
  obtain ⟨fd15, D15⟩ := S.def_ 15 (d := d15) rfl
  have F15 : Fun K "do_fork" "do_fork" K02.sDoFork (He.ga K "do_fork") fd15 := HL.fun_of D15
  have b15 := F15.binds (ps := ["world", "caller", "new"]) fun _ _ _ _ _ _ us hl => match us, hl with | [_, _, _], _ => rfl
  obtain ⟨fd16, D16⟩ := S.def_ 16 (d := d16) rfl
  have F16 : Fun K "do_about" "do_about" K02.sDoAbout (He.ga K "do_about") fd16 := HL.fun_of D16
  have b16 := F16.binds (ps := ["world", "caller", "who"]) fun _ _ _ _ _ _ us hl => match us, hl with | [_, _, _], _ => rfl
  obtain ⟨fd17, D17⟩ := S.def_ 17 (d := d17) rfl
  have F17 : Fun K "do_join" "do_join" K02.sDoJoin (He.ga K "do_join") fd17 := HL.fun_of D17
  have b17 := F17.binds (ps := ["world", "caller", "who", "group"]) fun _ _ _ _ _ _ us hl => match us, hl with | [_, _, _, _], _ => rfl
  obtain ⟨fd18, D18⟩ := S.def_ 18 (d := d18) rfl
  have F18 : Fun K "wait_now" "wait_now" K02.sWaitNow (He.ga K "wait_now") fd18 := HL.fun_of D18
  have b18 := F18.binds (ps := ["world", "process", "who"]) fun _ _ _ _ _ _ us hl => match us, hl with | [_, _, _], _ => rfl
  obtain ⟨fd19, D19⟩ := S.def_ 19 (d := d19) rfl
  have F19 : Fun K "answer_now" "answer_now" K02.sAnswerNow (He.ga K "answer_now") fd19 := HL.fun_of D19
  have b19 := F19.binds (ps := ["world", "process", "call"]) fun _ _ _ _ _ _ us hl => match us, hl with | [_, _, _], _ => rfl
  obtain ⟨fd20, D20⟩ := S.def_ 20 (d := d20) rfl
  have F20 : Fun K "next_in_row" "next_in_row" K02.sNextInRow (He.ga K "next_in_row") fd20 := HL.fun_of D20
  have b20 := F20.binds (ps := ["world", "row"]) fun _ _ _ _ _ _ us hl => match us, hl with | [_, _], _ => rfl
  obtain ⟨fd21, D21⟩ := S.def_ 21 (d := d21) rfl
  have F21 : Fun K "begin" "begin" K02.sBegin (He.ga K "begin") fd21 := HL.fun_of D21
  have b21 := F21.binds (ps := ["world", "process", "call"]) fun _ _ _ _ _ _ us hl => match us, hl with | [_, _, _], _ => rfl
  obtain ⟨fd22, D22⟩ := S.def_ 22 (d := d22) rfl
  have F22 : Fun K "do_wait" "do_wait" K02.sDoWait (He.ga K "do_wait") fd22 := HL.fun_of D22
  have b22 := F22.binds (ps := ["world", "caller", "who"]) fun _ _ _ _ _ _ us hl => match us, hl with | [_, _, _], _ => rfl
  obtain ⟨fd23, D23⟩ := S.def_ 23 (d := d23) rfl
  have F23 : Fun K "next_in_rows" "next_in_rows" K02.sNextInRows (He.ga K "next_in_rows") fd23 := HL.fun_of D23
  have b23 := F23.binds (ps := ["world"]) fun _ _ _ _ _ _ us hl => match us, hl with | [_], _ => rfl
  obtain ⟨fd24, D24⟩ := S.def_ 24 (d := d24) rfl
  have F24 : Fun K "settle_one" "settle_one" K02.sSettleOne (He.ga K "settle_one") fd24 := HL.fun_of D24
  have b24 := F24.binds (ps := ["world"]) fun _ _ _ _ _ _ us hl => match us, hl with | [_], _ => rfl
  obtain ⟨fd25, D25⟩ := S.def_ 25 (d := d25) rfl
  have F25 : Fun K "settle" "settle" K02.sSettle (He.ga K "settle") fd25 := HL.fun_of D25
  have b25 := F25.binds (ps := ["world"]) fun _ _ _ _ _ _ us hl => match us, hl with | [_], _ => rfl
  obtain ⟨fd26, D26⟩ := S.def_ 26 (d := d26) rfl
  have F26 : Fun K "first_met" "first_met" K02.sFirstMet (He.ga K "first_met") fd26 := HL.fun_of D26
  have b26 := F26.binds (ps := ["values"]) fun _ _ _ _ _ _ us hl => match us, hl with | [_], _ => rfl
  obtain ⟨fd27, D27⟩ := S.def_ 27 (d := d27) rfl
  have F27 : Fun K "walk" "walk" K02.sWalk (He.ga K "walk") fd27 := HL.fun_of D27
  have b27 := F27.binds (ps := ["beginnings", "behind"]) fun _ _ _ _ _ _ us hl => match us, hl with | [_, _], _ => rfl
  obtain ⟨fd28, D28⟩ := S.def_ 28 (d := d28) rfl
  have F28 : Fun K "reached" "reached" K02.sReached (He.ga K "reached") fd28 := HL.fun_of D28
  have b28 := F28.binds (ps := ["world", "serials"]) fun _ _ _ _ _ _ us hl => match us, hl with | [_, _], _ => rfl
  obtain ⟨fd29, D29⟩ := S.def_ 29 (d := d29) rfl
  have F29 : Fun K "held_things" "held_things" K02.sHeldThings (He.ga K "held_things") fd29 := HL.fun_of D29
  have b29 := F29.binds (ps := ["world"]) fun _ _ _ _ _ _ us hl => match us, hl with | [_], _ => rfl
  obtain ⟨fd30, D30⟩ := S.def_ 30 (d := d30) rfl
  have F30 : Fun K "sweep" "sweep" K02.sSweep (He.ga K "sweep") fd30 := HL.fun_of D30
  have b30 := F30.binds (ps := ["world"]) fun _ _ _ _ _ _ us hl => match us, hl with | [_], _ => rfl
  obtain ⟨fd31, D31⟩ := S.def_ 31 (d := d31) rfl
  have F31 : Fun K "end_process" "end_process" K02.sEndProcess (He.ga K "end_process") fd31 := HL.fun_of D31
  have b31 := F31.binds (ps := ["world", "process", "code"]) fun _ _ _ _ _ _ us hl => match us, hl with | [_, _, _], _ => rfl
  obtain ⟨fd32, D32⟩ := S.def_ 32 (d := d32) rfl
  have F32 : Fun K "do_end" "do_end" K02.sDoEnd (He.ga K "do_end") fd32 := HL.fun_of D32
  have b32 := F32.binds (ps := ["world", "caller", "code"]) fun _ _ _ _ _ _ us hl => match us, hl with | [_, _, _], _ => rfl
  obtain ⟨fd33, D33⟩ := S.def_ 33 (d := d33) rfl
  have F33 : Fun K "deliver" "deliver" K02.sDeliver (He.ga K "deliver") fd33 := HL.fun_of D33
  have b33 := F33.binds (ps := ["world", "process", "kind"]) fun _ _ _ _ _ _ us hl => match us, hl with | [_, _, _], _ => rfl
  obtain ⟨fd34, D34⟩ := S.def_ 34 (d := d34) rfl
  have F34 : Fun K "do_send" "do_send" K02.sDoSend (He.ga K "do_send") fd34 := HL.fun_of D34
  have b34 := F34.binds (ps := ["world", "caller", "kind", "who"]) fun _ _ _ _ _ _ us hl => match us, hl with | [_, _, _, _], _ => rfl
  obtain ⟨fd35, D35⟩ := S.def_ 35 (d := d35) rfl
  have F35 : Fun K "__init__" "World.__init__" K02.sWInit (He.ma K (He.ga K "World") "__init__") fd35 := HL.fun_of D35
  have b35 := F35.binds (ps := ["self"]) fun _ _ _ _ _ _ us hl => match us, hl with | [_], _ => rfl
  obtain ⟨fd36, D36⟩ := S.def_ 36 (d := d36) rfl
  have F36 : FunD K "__init__" "Machine.__init__" (defArgs K02.sMInit) (defBody K02.sMInit) (defScope K02.sMInit) [.ref (He.dflAt ("Machine", some "__init__") 0 K)] [] (He.ma K (He.ga K "Machine") "__init__") fd36 := D36
  obtain ⟨ds36, r36, b36⟩ := F36.binds1 (ps := ["self", "files"]) 1 0 (by simp) rfl fun T kV doc pm an cdv ct us its hu hi => match us, its, hu, hi with | [_], [_], _, _ => ⟨_, rfl, rfl⟩
  obtain ⟨fd37, D37⟩ := S.def_ 37 (d := d37) rfl
  have F37 : Fun K "perform" "perform" K02.sPerform (He.ga K "perform") fd37 := HL.fun_of D37
  have b37 := F37.binds (ps := ["world", "caller", "call"]) fun _ _ _ _ _ _ us hl => match us, hl with | [_, _, _], _ => rfl
  obtain ⟨fd38, D38⟩ := S.def_ 38 (d := d38) rfl
  have F38 : Fun K "numbers" "Machine.numbers" K02.sMNumbers (He.ma K (He.ga K "Machine") "numbers") fd38 := HL.fun_of D38
  have b38 := F38.binds (ps := ["self"]) fun _ _ _ _ _ _ us hl => match us, hl with | [_], _ => rfl
  obtain ⟨fd39, D39⟩ := S.def_ 39 (d := d39) rfl
  have F39 : Fun K "do" "Machine.do" K02.sMDo (He.ma K (He.ga K "Machine") "do") fd39 := HL.fun_of D39
  have b39 := F39.binds (ps := ["self", "number", "call"]) fun _ _ _ _ _ _ us hl => match us, hl with | [_, _, _], _ => rfl
  obtain ⟨fd40, D40⟩ := S.def_ 40 (d := d40) rfl
  have F40 : Fun K "_law_alive" "_law_alive" K02.sLAlive (He.ga K "_law_alive") fd40 := HL.fun_of D40
  have b40 := F40.binds (ps := ["_law_world"]) fun _ _ _ _ _ _ us hl => match us, hl with | [_], _ => rfl
  obtain ⟨fd41, D41⟩ := S.def_ 41 (d := d41) rfl
  have F41 : Fun K "_law_kids" "_law_kids" K02.sLKids (He.ga K "_law_kids") fd41 := HL.fun_of D41
  have b41 := F41.binds (ps := ["_law_world", "_law_n"]) fun _ _ _ _ _ _ us hl => match us, hl with | [_, _], _ => rfl
  obtain ⟨fd42, D42⟩ := S.def_ 42 (d := d42) rfl
  have F42 : Fun K "_law_runs" "_law_runs" K02.sLRuns (He.ga K "_law_runs") fd42 := HL.fun_of D42
  have b42 := F42.binds (ps := ["_law_world", "_law_n"]) fun _ _ _ _ _ _ us hl => match us, hl with | [_, _], _ => rfl
  obtain ⟨fd43, D43⟩ := S.def_ 43 (d := d43) rfl
  have F43 : Fun K "_law_above" "_law_above" K02.sLAbove (He.ga K "_law_above") fd43 := HL.fun_of D43
  have b43 := F43.binds (ps := ["_law_world", "_law_n"]) fun _ _ _ _ _ _ us hl => match us, hl with | [_, _], _ => rfl
  obtain ⟨fd44, D44⟩ := S.def_ 44 (d := d44) rfl
  have F44 : Fun K "_law_proc" "_law_proc" K02.sLProc (He.ga K "_law_proc") fd44 := HL.fun_of D44
  have b44 := F44.binds (ps := ["_law_parent", "_law_session", "_law_group"]) fun _ _ _ _ _ _ us hl => match us, hl with | [_, _, _], _ => rfl
  obtain ⟨fd45, D45⟩ := S.def_ 45 (d := d45) rfl
  have F45 : Fun K "_law_waited" "_law_waited" K02.sLWaited (He.ga K "_law_waited") fd45 := HL.fun_of D45
  have b45 := F45.binds (ps := ["_law_world", "_law_n", "_law_who"]) fun _ _ _ _ _ _ us hl => match us, hl with | [_, _, _], _ => rfl
  obtain ⟨fd46, D46⟩ := S.def_ 46 (d := d46) rfl
  have F46 : Fun K "_law_about" "_law_about" K02.sLAbout (He.ga K "_law_about") fd46 := HL.fun_of D46
  have b46 := F46.binds (ps := ["_law_world", "_law_who"]) fun _ _ _ _ _ _ us hl => match us, hl with | [_, _], _ => rfl
  obtain ⟨fd47, D47⟩ := S.def_ 47 (d := d47) rfl
  have F47 : Fun K "_law_joined" "_law_joined" K02.sLJoined (He.ga K "_law_joined") fd47 := HL.fun_of D47
  have b47 := F47.binds (ps := ["_law_world", "_law_n", "_law_who", "_law_group"]) fun _ _ _ _ _ _ us hl => match us, hl with | [_, _, _, _], _ => rfl
  obtain ⟨fd48, D48⟩ := S.def_ 48 (d := d48) rfl
  have F48 : Fun K "_law_ended" "_law_ended" K02.sLEnded (He.ga K "_law_ended") fd48 := HL.fun_of D48
  have b48 := F48.binds (ps := ["_law_world", "_law_n", "_law_code"]) fun _ _ _ _ _ _ us hl => match us, hl with | [_, _, _], _ => rfl
  obtain ⟨fd49, D49⟩ := S.def_ 49 (d := d49) rfl
  have F49 : Fun K "_law_family" "_law_family" K02.sLFamily (He.ga K "_law_family") fd49 := HL.fun_of D49
  have b49 := F49.binds (ps := ["_law_world", "_law_n", "_law_call"]) fun _ _ _ _ _ _ us hl => match us, hl with | [_, _, _], _ => rfl
  obtain ⟨fd50, D50⟩ := S.def_ 50 (d := d50) rfl
  have F50 : Fun K "_law_settled" "_law_settled" K02.sLSettled (He.ga K "_law_settled") fd50 := HL.fun_of D50
  have b50 := F50.binds (ps := ["_law_world"]) fun _ _ _ _ _ _ us hl => match us, hl with | [_], _ => rfl
  obtain ⟨fd51, D51⟩ := S.def_ 51 (d := d51) rfl
  have F51 : Fun K "_law_sent" "_law_sent" K02.sLSent (He.ga K "_law_sent") fd51 := HL.fun_of D51
  have b51 := F51.binds (ps := ["_law_world", "_law_kind", "_law_n"]) fun _ _ _ _ _ _ us hl => match us, hl with | [_, _, _], _ => rfl
  obtain ⟨fd52, D52⟩ := S.def_ 52 (d := d52) rfl
  have F52 : Fun K "_law_do" "_law_do" K02.sLDo (He.ga K "_law_do") fd52 := HL.fun_of D52
  have b52 := F52.binds (ps := ["_law_world", "_law_n", "_law_call"]) fun _ _ _ _ _ _ us hl => match us, hl with | [_, _, _], _ => rfl
  obtain ⟨fd53, D53⟩ := S.def_ 53 (d := d53) rfl
  have F53 : Fun K "_law_take" "_law_take" KB.sTake (He.ga K "_law_take") fd53 := HL.fun_of D53
  have b53 := F53.binds (ps := ["_law_box_here", "_law_below"]) fun _ _ _ _ _ _ us hl => match us, hl with | [_, _], _ => rfl
  obtain ⟨fd54, D54⟩ := S.def_ 54 (d := d54) rfl
  have F54 : Fun K "_law_pick" "_law_pick" KB.sPick (He.ga K "_law_pick") fd54 := HL.fun_of D54
  have b54 := F54.binds (ps := ["_law_box_here", "_law_some"]) fun _ _ _ _ _ _ us hl => match us, hl with | [_, _], _ => rfl
  obtain ⟨fd55, D55⟩ := S.def_ 55 (d := d55) rfl
  have F55 : Fun K "_law_box" "_law_box" KB.sBox (He.ga K "_law_box") fd55 := HL.fun_of D55
  have b55 := F55.binds (ps := ["_law_script", "_law_k"]) fun _ _ _ _ _ _ us hl => match us, hl with | [_, _], _ => rfl
  obtain ⟨fd56, D56⟩ := S.def_ 56 (d := d56) rfl
  have F56 : Fun K "_law_drawn" "_law_drawn" K02.sLDrawn (He.ga K "_law_drawn") fd56 := HL.fun_of D56
  have b56 := F56.binds (ps := ["_law_box_here", "_law_world"]) fun _ _ _ _ _ _ us hl => match us, hl with | [_, _], _ => rfl
  obtain ⟨fd57, D57⟩ := S.def_ 57 (d := d57) rfl
  have F57 : Fun K "_law_told" "_law_told" K02.sLTold (He.ga K "_law_told") fd57 := HL.fun_of D57
  have b57 := F57.binds (ps := ["_law_machine", "_law_n", "_law_call"]) fun _ _ _ _ _ _ us hl => match us, hl with | [_, _, _], _ => rfl
  obtain ⟨fd58, D58⟩ := S.def_ 58 (d := d58) rfl
  have F58 : Fun K "_law_all_about" "_law_all_about" K02.sLAllAbout (He.ga K "_law_all_about") fd58 := HL.fun_of D58
  have b58 := F58.binds (ps := ["_law_machine", "_law_world"]) fun _ _ _ _ _ _ us hl => match us, hl with | [_, _], _ => rfl
  obtain ⟨fd59, D59⟩ := S.def_ 59 (d := d59) rfl
  have F59 : Fun K "_law_grown" "_law_grown" K02.sLGrown (He.ga K "_law_grown") fd59 := HL.fun_of D59
  have b59 := F59.binds (ps := ["_law_box_here", "_law_machine", "_law_world"]) fun _ _ _ _ _ _ us hl => match us, hl with | [_, _, _], _ => rfl
  obtain ⟨fd60, D60⟩ := S.def_ 60 (d := d60) rfl
  have F60 : Fun K "_law_right" "_law_right" K02.sLRight (He.ga K "_law_right") fd60 := HL.fun_of D60
  have b60 := F60.binds (ps := ["_law_box_here"]) fun _ _ _ _ _ _ us hl => match us, hl with | [_], _ => rfl
  obtain ⟨fd61, D61⟩ := S.def_ 61 (d := d61) rfl
  have F61 : Fun K "law" "law" K02.sLLaw (He.ga K "law") fd61 := HL.fun_of D61
  have b61 := F61.binds (ps := ["_law_script"]) fun _ _ _ _ _ _ us hl => match us, hl with | [_], _ => rfl
  have m1 : mg "_law_same" = some (.ref (He.ga K "_law_same")) := (He.glo_ok X G (S.fact 0 (f := .glo "_law_same") rfl))
  have m2 : mg "children" = some (.ref (He.ga K "children")) := (He.glo_ok X G (S.fact 1 (f := .glo "children") rfl))
  have m3 : mg "is_alive" = some (.ref (He.ga K "is_alive")) := (He.glo_ok X G (S.fact 2 (f := .glo "is_alive") rfl))
  have h4 : Meth K (He.ga K "Process") "runs" (He.ma K (He.ga K "Process") "runs") := He.meth_ok (S.fact 3 (f := .meth "Process" "runs") rfl)
  have m5 : mg "is_taken" = some (.ref (He.ga K "is_taken")) := (He.glo_ok X G (S.fact 4 (f := .glo "is_taken") rfl))
  have m6 : mg "word_of" = some (.ref (He.ga K "word_of")) := (He.glo_ok X G (S.fact 5 (f := .glo "word_of") rfl))
  have m7 : mg "may_move" = some (.ref (He.ga K "may_move")) := (He.glo_ok X G (S.fact 6 (f := .glo "may_move") rfl))
  have m8 : mg "do_adopt" = some (.ref (He.ga K "do_adopt")) := (He.glo_ok X G (S.fact 7 (f := .glo "do_adopt") rfl))
  have m9 : mg "do_lead" = some (.ref (He.ga K "do_lead")) := (He.glo_ok X G (S.fact 8 (f := .glo "do_lead") rfl))
  have m10 : mg "row_of" = some (.ref (He.ga K "row_of")) := (He.glo_ok X G (S.fact 9 (f := .glo "row_of") rfl))
  have m11 : mg "place_in_row" = some (.ref (He.ga K "place_in_row")) := (He.glo_ok X G (S.fact 10 (f := .glo "place_in_row") rfl))
  have m12 : mg "leave_row" = some (.ref (He.ga K "leave_row")) := (He.glo_ok X G (S.fact 11 (f := .glo "leave_row") rfl))
  have m13 : mg "adopter_above" = some (.ref (He.ga K "adopter_above")) := (He.glo_ok X G (S.fact 12 (f := .glo "adopter_above") rfl))
  have m15 : mg "do_fork" = some (.ref (He.ga K "do_fork")) := (He.glo_ok X G (S.fact 13 (f := .glo "do_fork") rfl))
  have m16 : mg "do_about" = some (.ref (He.ga K "do_about")) := (He.glo_ok X G (S.fact 14 (f := .glo "do_about") rfl))
  have m17 : mg "do_join" = some (.ref (He.ga K "do_join")) := (He.glo_ok X G (S.fact 15 (f := .glo "do_join") rfl))
  have m18 : mg "wait_now" = some (.ref (He.ga K "wait_now")) := (He.glo_ok X G (S.fact 16 (f := .glo "wait_now") rfl))
  have m19 : mg "answer_now" = some (.ref (He.ga K "answer_now")) := (He.glo_ok X G (S.fact 17 (f := .glo "answer_now") rfl))
  have m20 : mg "next_in_row" = some (.ref (He.ga K "next_in_row")) := (He.glo_ok X G (S.fact 18 (f := .glo "next_in_row") rfl))
  have m21 : mg "begin" = some (.ref (He.ga K "begin")) := (He.glo_ok X G (S.fact 19 (f := .glo "begin") rfl))
  have m22 : mg "do_wait" = some (.ref (He.ga K "do_wait")) := (He.glo_ok X G (S.fact 20 (f := .glo "do_wait") rfl))
  have m23 : mg "next_in_rows" = some (.ref (He.ga K "next_in_rows")) := (He.glo_ok X G (S.fact 21 (f := .glo "next_in_rows") rfl))
  have m24 : mg "settle_one" = some (.ref (He.ga K "settle_one")) := (He.glo_ok X G (S.fact 22 (f := .glo "settle_one") rfl))
  have m25 : mg "settle" = some (.ref (He.ga K "settle")) := (He.glo_ok X G (S.fact 23 (f := .glo "settle") rfl))
  have m26 : mg "first_met" = some (.ref (He.ga K "first_met")) := (He.glo_ok X G (S.fact 24 (f := .glo "first_met") rfl))
  have m27 : mg "walk" = some (.ref (He.ga K "walk")) := (He.glo_ok X G (S.fact 25 (f := .glo "walk") rfl))
  have m28 : mg "reached" = some (.ref (He.ga K "reached")) := (He.glo_ok X G (S.fact 26 (f := .glo "reached") rfl))
  have m29 : mg "held_things" = some (.ref (He.ga K "held_things")) := (He.glo_ok X G (S.fact 27 (f := .glo "held_things") rfl))
  have m30 : mg "sweep" = some (.ref (He.ga K "sweep")) := (He.glo_ok X G (S.fact 28 (f := .glo "sweep") rfl))
  have m31 : mg "end_process" = some (.ref (He.ga K "end_process")) := (He.glo_ok X G (S.fact 29 (f := .glo "end_process") rfl))
  have m32 : mg "do_end" = some (.ref (He.ga K "do_end")) := (He.glo_ok X G (S.fact 30 (f := .glo "do_end") rfl))
  have m33 : mg "deliver" = some (.ref (He.ga K "deliver")) := (He.glo_ok X G (S.fact 31 (f := .glo "deliver") rfl))
  have m34 : mg "do_send" = some (.ref (He.ga K "do_send")) := (He.glo_ok X G (S.fact 32 (f := .glo "do_send") rfl))
  have m37 : mg "perform" = some (.ref (He.ga K "perform")) := (He.glo_ok X G (S.fact 33 (f := .glo "perform") rfl))
  have h38 : Meth K (He.ga K "Machine") "numbers" (He.ma K (He.ga K "Machine") "numbers") := He.meth_ok (S.fact 34 (f := .meth "Machine" "numbers") rfl)
  have h39 : Meth K (He.ga K "Machine") "do" (He.ma K (He.ga K "Machine") "do") := He.meth_ok (S.fact 35 (f := .meth "Machine" "do") rfl)
  have m40 : mg "_law_alive" = some (.ref (He.ga K "_law_alive")) := (He.glo_ok X G (S.fact 36 (f := .glo "_law_alive") rfl))
  have m41 : mg "_law_kids" = some (.ref (He.ga K "_law_kids")) := (He.glo_ok X G (S.fact 37 (f := .glo "_law_kids") rfl))
  have m42 : mg "_law_runs" = some (.ref (He.ga K "_law_runs")) := (He.glo_ok X G (S.fact 38 (f := .glo "_law_runs") rfl))
  have m43 : mg "_law_above" = some (.ref (He.ga K "_law_above")) := (He.glo_ok X G (S.fact 39 (f := .glo "_law_above") rfl))
  have m44 : mg "_law_proc" = some (.ref (He.ga K "_law_proc")) := (He.glo_ok X G (S.fact 40 (f := .glo "_law_proc") rfl))
  have m45 : mg "_law_waited" = some (.ref (He.ga K "_law_waited")) := (He.glo_ok X G (S.fact 41 (f := .glo "_law_waited") rfl))
  have m46 : mg "_law_about" = some (.ref (He.ga K "_law_about")) := (He.glo_ok X G (S.fact 42 (f := .glo "_law_about") rfl))
  have m47 : mg "_law_joined" = some (.ref (He.ga K "_law_joined")) := (He.glo_ok X G (S.fact 43 (f := .glo "_law_joined") rfl))
  have m48 : mg "_law_ended" = some (.ref (He.ga K "_law_ended")) := (He.glo_ok X G (S.fact 44 (f := .glo "_law_ended") rfl))
  have m49 : mg "_law_family" = some (.ref (He.ga K "_law_family")) := (He.glo_ok X G (S.fact 45 (f := .glo "_law_family") rfl))
  have m50 : mg "_law_settled" = some (.ref (He.ga K "_law_settled")) := (He.glo_ok X G (S.fact 46 (f := .glo "_law_settled") rfl))
  have m51 : mg "_law_sent" = some (.ref (He.ga K "_law_sent")) := (He.glo_ok X G (S.fact 47 (f := .glo "_law_sent") rfl))
  have m52 : mg "_law_do" = some (.ref (He.ga K "_law_do")) := (He.glo_ok X G (S.fact 48 (f := .glo "_law_do") rfl))
  have m53 : mg "_law_take" = some (.ref (He.ga K "_law_take")) := (He.glo_ok X G (S.fact 49 (f := .glo "_law_take") rfl))
  have m54 : mg "_law_pick" = some (.ref (He.ga K "_law_pick")) := (He.glo_ok X G (S.fact 50 (f := .glo "_law_pick") rfl))
  have m55 : mg "_law_box" = some (.ref (He.ga K "_law_box")) := (He.glo_ok X G (S.fact 51 (f := .glo "_law_box") rfl))
  have m56 : mg "_law_drawn" = some (.ref (He.ga K "_law_drawn")) := (He.glo_ok X G (S.fact 52 (f := .glo "_law_drawn") rfl))
  have m57 : mg "_law_told" = some (.ref (He.ga K "_law_told")) := (He.glo_ok X G (S.fact 53 (f := .glo "_law_told") rfl))
  have m58 : mg "_law_all_about" = some (.ref (He.ga K "_law_all_about")) := (He.glo_ok X G (S.fact 54 (f := .glo "_law_all_about") rfl))
  have m59 : mg "_law_grown" = some (.ref (He.ga K "_law_grown")) := (He.glo_ok X G (S.fact 55 (f := .glo "_law_grown") rfl))
  have m60 : mg "_law_right" = some (.ref (He.ga K "_law_right")) := (He.glo_ok X G (S.fact 56 (f := .glo "_law_right") rfl))
  have m61 : mg "law" = some (.ref (He.ga K "law")) := (He.glo_ok X G (S.fact 57 (f := .glo "law") rfl))
  have MWorld : mg "World" = some (.ref (He.ga K "World")) := (He.glo_ok X G (S.fact 58 (f := .glo "World") rfl))
  have MProcess : mg "Process" = some (.ref (He.ga K "Process")) := (He.glo_ok X G (S.fact 59 (f := .glo "Process") rfl))
  have MMachine : mg "Machine" = some (.ref (He.ga K "Machine")) := (He.glo_ok X G (S.fact 60 (f := .glo "Machine") rfl))
  have MNotRunning : mg "NotRunning" = some (.ref (He.ga K "NotRunning")) := (He.glo_ok X G (S.fact 61 (f := .glo "NotRunning") rfl))
  have TWorld : K02.WT K (He.ga K "World") := ⟨He.cls_ok (S.fact 62 (f := .cls "World") rfl), He.noat_ok (S.fact 63 (f := .noat "World" "processes") rfl), He.noat_ok (S.fact 64 (f := .noat "World" "files") rfl), He.noat_ok (S.fact 65 (f := .noat "World" "things") rfl), He.noat_ok (S.fact 66 (f := .noat "World" "pipes") rfl), He.noat_ok (S.fact 67 (f := .noat "World" "sides") rfl), He.noat_ok (S.fact 68 (f := .noat "World" "areas") rfl), He.noat_ok (S.fact 69 (f := .noat "World" "serial") rfl), He.noat_ok (S.fact 70 (f := .noat "World" "answered") rfl)⟩
  have MkWorld : Mk K (He.ga K "World") (He.ma K (He.ga K "World") "__init__") := He.mkr_ok (S.fact 71 (f := .mkr "World") rfl)
  have TProcess : K02.PT K (He.ga K "Process") := ⟨He.cls_ok (S.fact 72 (f := .cls "Process") rfl), He.noat_ok (S.fact 73 (f := .noat "Process" "number") rfl), He.noat_ok (S.fact 74 (f := .noat "Process" "parent") rfl), He.noat_ok (S.fact 75 (f := .noat "Process" "session") rfl), He.noat_ok (S.fact 76 (f := .noat "Process" "group") rfl), He.noat_ok (S.fact 77 (f := .noat "Process" "adopts") rfl), He.noat_ok (S.fact 78 (f := .noat "Process" "stopped") rfl), He.noat_ok (S.fact 79 (f := .noat "Process" "code") rfl), He.noat_ok (S.fact 80 (f := .noat "Process" "call") rfl), He.noat_ok (S.fact 81 (f := .noat "Process" "cells") rfl), He.noat_ok (S.fact 82 (f := .noat "Process" "handles") rfl)⟩
  have MkProcess : Mk K (He.ga K "Process") (He.ma K (He.ga K "Process") "__init__") := He.mkr_ok (S.fact 83 (f := .mkr "Process") rfl)
  have TMachine : K02.MT K (He.ga K "Machine") := ⟨He.cls_ok (S.fact 84 (f := .cls "Machine") rfl), He.noat_ok (S.fact 85 (f := .noat "Machine" "world") rfl)⟩
  have MkMachine : Mk K (He.ga K "Machine") (He.ma K (He.ga K "Machine") "__init__") := He.mkr_ok (S.fact 86 (f := .mkr "Machine") rfl)
  obtain ⟨tFIRST, xFIRST⟩ := He.int_ok X G (S.fact 87 (f := .int "FIRST" 1) rfl)
  obtain ⟨tMOST, xMOST⟩ := He.int_ok X G (S.fact 88 (f := .int "MOST" 199) rfl)
  obtain ⟨tCELLS, xCELLS⟩ := He.int_ok X G (S.fact 89 (f := .int "CELLS" 4) rfl)
  have z0 : mg "RuntimeError" = none := He.free_ok X G (S.fact 90 (f := .free "RuntimeError") rfl)
  have z1 : mg "isinstance" = none := He.free_ok X G (S.fact 91 (f := .free "isinstance") rfl)
  have z2 : mg "list" = none := He.free_ok X G (S.fact 92 (f := .free "list") rfl)
  have z3 : mg "tuple" = none := He.free_ok X G (S.fact 93 (f := .free "tuple") rfl)
  have z4 : mg "len" = none := He.free_ok X G (S.fact 94 (f := .free "len") rfl)
  have z5 : mg "all" = none := He.free_ok X G (S.fact 95 (f := .free "all") rfl)
  have z6 : mg "zip" = none := He.free_ok X G (S.fact 96 (f := .free "zip") rfl)
  have z7 : mg "bool" = none := He.free_ok X G (S.fact 97 (f := .free "bool") rfl)
  have z8 : mg "str" = none := He.free_ok X G (S.fact 98 (f := .free "str") rfl)
  have z9 : mg "int" = none := He.free_ok X G (S.fact 99 (f := .free "int") rfl)
  have z10 : mg "sorted" = none := He.free_ok X G (S.fact 100 (f := .free "sorted") rfl)
  have z11 : mg "any" = none := He.free_ok X G (S.fact 101 (f := .free "any") rfl)
  have z12 : mg "dict" = none := He.free_ok X G (S.fact 102 (f := .free "dict") rfl)
  have z13 : mg "abs" = none := He.free_ok X G (S.fact 103 (f := .free "abs") rfl)
  have z14 : mg "range" = none := He.free_ok X G (S.fact 104 (f := .free "range") rfl)
  have z15 : mg "min" = none := He.free_ok X G (S.fact 105 (f := .free "min") rfl)
  have x0 := c.more
  have x0 : (HL.excB K (He.ga K "NotRunning") (He.ma K (He.ga K "NotRunning") "__init__") mroR "RuntimeError.__new__" && (HL.iniB K "RuntimeError" "RuntimeError.__init__" && (HL.empB K (He.dflAt ("Machine", some "__init__") 0 K) && (He.valsB K (He.ga K "FAMILY_CALLS") famK && (decide (He.ga K "World" ≠ He.ga K "Process")))))) = true := x0
  obtain ⟨qeNotRunning, x0⟩ := He.ba x0
  obtain ⟨qnRuntimeError, x0⟩ := He.ba x0
  obtain ⟨qemp, x0⟩ := He.ba x0
  obtain ⟨qfam, x0⟩ := He.ba x0
  have qneWorldProcess := x0
  obtain ⟨TNotRunning, tyNotRunning⟩ := HL.excB_ok qeNotRunning
  have noNotRunning : PySem.W.findIn K (.ref (He.ga K "NotRunning")) "number" = some none := He.noat_ok (S.fact 106 (f := .noat "NotRunning" "number") rfl)
  have exmNotRunning : PySem.W.exmOne K (.ref (He.ga K "NotRunning")) (.ref (He.ga K "NotRunning")) = some true := He.exm_ok (S.fact 107 (f := .exm "NotRunning" "NotRunning" true) rfl)
  obtain ⟨esF, nF, KD⟩ := c.t.tab 0 (t := tFam) rfl
  have TF : K02.FamS K w mg := ⟨⟨He.ga K "FAMILY_CALLS", esF, nF, (He.glo_ok X G (S.fact 108 (f := .glo "FAMILY_CALLS") rfl)), KD, fun c => by
    cases c with
    | fork _ => exact ⟨_, HL.tab_glo qfam (List.mem_of_getElem? (i := 0) rfl), m15⟩
    | lead => exact ⟨_, HL.tab_glo qfam (List.mem_of_getElem? (i := 1) rfl), m9⟩
    | adopt => exact ⟨_, HL.tab_glo qfam (List.mem_of_getElem? (i := 2) rfl), m8⟩
    | join _ _ => exact ⟨_, HL.tab_glo qfam (List.mem_of_getElem? (i := 3) rfl), m17⟩
    | fin _ => exact ⟨_, HL.tab_glo qfam (List.mem_of_getElem? (i := 4) rfl), m32⟩
    | wait _ => exact ⟨_, HL.tab_glo qfam (List.mem_of_getElem? (i := 5) rfl), m22⟩
    | about _ => exact ⟨_, HL.tab_glo qfam (List.mem_of_getElem? (i := 6) rfl), m16⟩
    , _, HL.tab_glo qfam (List.mem_of_getElem? (i := 7) rfl), m34⟩⟩
  have hfa2 := hfa.symm.trans m61
  cases hfa2
  have bl := FunD.bindsA (ps := ["_law_script"]) D61 fun _ _ _ _ _ _ us hl => match us, hl with | [_], _ => rfl
  refine ⟨fd61, [He.cT K ("reached", none)], K02.spLaw K (He.cT K ("reached", none)).2, ?_, ?_, ?_, fun s v => bl s [v] rfl, ?_, fun base _ _ TBs => ?_⟩
  · intro p m; rw [List.mem_singleton.mp m]; exact c.empty _ (List.mem_singleton.mpr rfl)
  · intro p m; rw [List.mem_singleton.mp m]; exact c.out _ (List.mem_singleton.mpr rfl)
  · intro p m; rw [List.mem_singleton.mp m]; exact PySem.W.codeHd_of_K X (c.hd _ (List.mem_singleton.mpr rfl))
  · exact fun H a ns hl _ ht hS => ⟨a, ns, rfl, hS, hl, K02.tabS_emp (ht _ List.mem_cons_self), fun _ => rfl⟩
  have TB := TBs _ List.mem_cons_self
  have g0 := K02.ok_NotRun (P := l.prog) (w := w) (mg := mg) (base := base) F0 TNotRunning noNotRunning z0 (HL.iniB_ok qnRuntimeError)
  have g1_1 := KB.ok_same (P := l.prog) (w := w) (mg := mg) (base := base) F1 KB.no_same b1 m1 z1 z2 z3 z4 z5 z6 z7 z8 z9
  have g1_2 := KB.ok_same (P := l.prog) (w := w) (mg := mg) (base := base) F1 g1_1 b1 m1 z1 z2 z3 z4 z5 z6 z7 z8 z9
  have g1_3 := KB.ok_same (P := l.prog) (w := w) (mg := mg) (base := base) F1 g1_2 b1 m1 z1 z2 z3 z4 z5 z6 z7 z8 z9
  have g1_4 := KB.ok_same (P := l.prog) (w := w) (mg := mg) (base := base) F1 g1_3 b1 m1 z1 z2 z3 z4 z5 z6 z7 z8 z9
  have g1_5 := KB.ok_same (P := l.prog) (w := w) (mg := mg) (base := base) F1 g1_4 b1 m1 z1 z2 z3 z4 z5 z6 z7 z8 z9
  have g1_6 := KB.ok_same (P := l.prog) (w := w) (mg := mg) (base := base) F1 g1_5 b1 m1 z1 z2 z3 z4 z5 z6 z7 z8 z9
  have g1_7 := KB.ok_same (P := l.prog) (w := w) (mg := mg) (base := base) F1 g1_6 b1 m1 z1 z2 z3 z4 z5 z6 z7 z8 z9
  have g1 := KB.ok_same (P := l.prog) (w := w) (mg := mg) (base := base) F1 g1_7 b1 m1 z1 z2 z3 z4 z5 z6 z7 z8 z9
  have g2 := K02.ok_children (P := l.prog) (w := w) (mg := mg) (base := base) (CW := (He.ga K "World")) (CP := (He.ga K "Process")) (tP := (He.cT K ("reached", none)).2) F2 TWorld TProcess z10
  have g3 := K02.ok_isAlive (P := l.prog) (w := w) (mg := mg) (base := base) (CW := (He.ga K "World")) (CP := (He.ga K "Process")) (tP := (He.cT K ("reached", none)).2) F3 TWorld TProcess
  have g4 := K02.ok_runs (P := l.prog) (w := w) (mg := mg) (base := base) (CW := (He.ga K "World")) (CP := (He.ga K "Process")) (tP := (He.cT K ("reached", none)).2) F4 TProcess
  have g5 := K02.ok_isTaken (P := l.prog) (w := w) (mg := mg) (base := base) (CW := (He.ga K "World")) (CP := (He.ga K "Process")) (tP := (He.cT K ("reached", none)).2) F5 TWorld TProcess z11
  have g6 := K02.ok_wordOf (P := l.prog) (w := w) (mg := mg) (base := base) (CP := (He.ga K "Process")) F6 TProcess
  have g7 := K02.ok_mayMove (P := l.prog) (w := w) (mg := mg) (base := base) (CW := (He.ga K "World")) (CP := (He.ga K "Process")) (tP := (He.cT K ("reached", none)).2) F7 TWorld TProcess ⟨⟨_, _, _, by decide, g2, b2, F2.kp, m2⟩⟩ ⟨⟨_, _, _, by decide, g3, b3, F3.kp, m3⟩⟩
  have g8 := K02.ok_doAdopt (P := l.prog) (w := w) (mg := mg) (base := base) (CW := (He.ga K "World")) (CP := (He.ga K "Process")) (tP := (He.cT K ("reached", none)).2) F8 TWorld TProcess ⟨⟨_, _, _, by decide, g2, b2, F2.kp, m2⟩⟩
  have g9 := K02.ok_doLead (P := l.prog) (w := w) (mg := mg) (base := base) (CW := (He.ga K "World")) (CP := (He.ga K "Process")) (tP := (He.cT K ("reached", none)).2) F9 TWorld TProcess ⟨⟨_, _, _, by decide, g2, b2, F2.kp, m2⟩⟩ z11
  have g10 := K02.ok_rowOf (P := l.prog) (w := w) (mg := mg) (base := base) F10
  have g11 := K02.ok_placeInRow (P := l.prog) (w := w) (mg := mg) (base := base) (CP := (He.ga K "Process")) F11 TProcess
  have g12 := K02.ok_leaveRow (P := l.prog) (w := w) (mg := mg) (base := base) (CW := (He.ga K "World")) (CP := (He.ga K "Process")) (tP := (He.cT K ("reached", none)).2) F12 TProcess ⟨⟨_, _, _, by decide, g10, b10, F10.kp, m10⟩⟩
  have g13 := K02.ok_adopterAbove (P := l.prog) (w := w) (mg := mg) (base := base) (CW := (He.ga K "World")) (CP := (He.ga K "Process")) (tP := (He.cT K ("reached", none)).2) F13 TWorld TProcess
  have g14 := K02.ok_PInit (P := l.prog) (w := w) (mg := mg) (base := base) (CP := (He.ga K "Process")) F14 TProcess xCELLS
  have g15 := K02.ok_doFork (P := l.prog) (w := w) (mg := mg) (base := base) (CW := (He.ga K "World")) (CP := (He.ga K "Process")) (tP := (He.cT K ("reached", none)).2) F15 TWorld TProcess ⟨⟨_, _, _, by decide, g14, b14, MkProcess, MProcess⟩⟩ ⟨⟨_, _, _, by decide, g5, b5, F5.kp, m5⟩⟩ xMOST z2 z12
  have g16 := K02.ok_doAbout (P := l.prog) (w := w) (mg := mg) (base := base) (CW := (He.ga K "World")) (CP := (He.ga K "Process")) (tP := (He.cT K ("reached", none)).2) F16 TWorld TProcess ⟨⟨_, _, _, by decide, g11, b11, F11.kp, m11⟩⟩ ⟨⟨_, _, _, by decide, g6, b6, F6.kp, m6⟩⟩
  have g17 := K02.ok_doJoin (P := l.prog) (w := w) (mg := mg) (base := base) (CW := (He.ga K "World")) (CP := (He.ga K "Process")) (tP := (He.cT K ("reached", none)).2) F17 TWorld TProcess ⟨⟨_, _, _, by decide, g7, b7, F7.kp, m7⟩⟩ z11
  have g18 := K02.ok_waitNow (P := l.prog) (w := w) (mg := mg) (base := base) (CW := (He.ga K "World")) (CP := (He.ga K "Process")) (tP := (He.cT K ("reached", none)).2) F18 TWorld TProcess ⟨⟨_, _, _, by decide, g2, b2, F2.kp, m2⟩⟩
  have g19 := K02.ok_answerNow (P := l.prog) (w := w) (mg := mg) (base := base) (CW := (He.ga K "World")) (CP := (He.ga K "Process")) (tP := (He.cT K ("reached", none)).2) F19 ⟨⟨_, _, _, by decide, g18, b18, F18.kp, m18⟩⟩
  have g20 := K02.ok_nextInRow (P := l.prog) (w := w) (mg := mg) (base := base) (CW := (He.ga K "World")) (CP := (He.ga K "Process")) (tP := (He.cT K ("reached", none)).2) F20 TWorld TProcess
  have g21 := K02.ok_begin (P := l.prog) (w := w) (mg := mg) (base := base) (CW := (He.ga K "World")) (CP := (He.ga K "Process")) (tP := (He.cT K ("reached", none)).2) F21 TWorld TProcess ⟨⟨_, _, _, by decide, g10, b10, F10.kp, m10⟩⟩ ⟨⟨_, _, _, by decide, g20, b20, F20.kp, m20⟩⟩ ⟨⟨_, _, _, by decide, g19, b19, F19.kp, m19⟩⟩ xFIRST
  have g22 := K02.ok_doWait (P := l.prog) (w := w) (mg := mg) (base := base) (CW := (He.ga K "World")) (CP := (He.ga K "Process")) (tP := (He.cT K ("reached", none)).2) F22 TWorld TProcess ⟨⟨_, _, _, by decide, g2, b2, F2.kp, m2⟩⟩ ⟨⟨_, _, _, by decide, g21, b21, F21.kp, m21⟩⟩
  have g23 := K02.ok_nextInRows (P := l.prog) (w := w) (mg := mg) (base := base) (CW := (He.ga K "World")) (CP := (He.ga K "Process")) (tP := (He.cT K ("reached", none)).2) F23 TWorld TProcess ⟨⟨_, _, _, by decide, g20, b20, F20.kp, m20⟩⟩ z2
  have g24 := K02.ok_settleOne (P := l.prog) (w := w) (mg := mg) (base := base) (CW := (He.ga K "World")) (CP := (He.ga K "Process")) (tP := (He.cT K ("reached", none)).2) F24 TWorld TProcess ⟨⟨_, _, _, by decide, g23, b23, F23.kp, m23⟩⟩ ⟨⟨_, _, _, by decide, g19, b19, F19.kp, m19⟩⟩ ⟨⟨_, _, _, by decide, g12, b12, F12.kp, m12⟩⟩
  have g25 := K02.ok_settle (P := l.prog) (w := w) (mg := mg) (base := base) (CW := (He.ga K "World")) (CP := (He.ga K "Process")) (tP := (He.cT K ("reached", none)).2) F25 ⟨⟨_, _, _, by decide, g24, b24, F24.kp, m24⟩⟩
  have g26 := K02.ok_firstMet (P := l.prog) (w := w) (mg := mg) (base := base) F26
  have g27 := K02.ok_walk (P := l.prog) (w := w) (mg := mg) (base := base) F27 ⟨⟨_, _, _, by decide, g26, b26, F26.kp, m26⟩⟩ z2 z4
  have g28 := K02.ok_reached (P := l.prog) (w := w) (mg := mg) (base := base) (tP := (He.cT K ("reached", none)).2) F28 (HL.code_at F28) TB ⟨⟨_, _, _, by decide, g27, b27, F27.kp, m27⟩⟩
  have g29 := K02.ok_heldThings (P := l.prog) (w := w) (mg := mg) (base := base) (CW := (He.ga K "World")) (CP := (He.ga K "Process")) (tP := (He.cT K ("reached", none)).2) F29 TWorld TProcess ⟨⟨_, _, _, by decide, g28, b28, F28.kp, m28⟩⟩
  have g30 := K02.ok_sweep (P := l.prog) (w := w) (mg := mg) (base := base) (CW := (He.ga K "World")) (CP := (He.ga K "Process")) (tP := (He.cT K ("reached", none)).2) F30 TWorld ⟨⟨_, _, _, by decide, g29, b29, F29.kp, m29⟩⟩
  have g31 := K02.ok_endProcess (P := l.prog) (w := w) (mg := mg) (base := base) (CW := (He.ga K "World")) (CP := (He.ga K "Process")) (tP := (He.cT K ("reached", none)).2) F31 TWorld TProcess ⟨⟨_, _, _, by decide, g12, b12, F12.kp, m12⟩⟩ ⟨⟨_, _, _, by decide, g13, b13, F13.kp, m13⟩⟩ ⟨⟨_, _, _, by decide, g2, b2, F2.kp, m2⟩⟩ ⟨⟨_, _, _, by decide, g30, b30, F30.kp, m30⟩⟩
  have g32 := K02.ok_doEnd (P := l.prog) (w := w) (mg := mg) (base := base) (CW := (He.ga K "World")) (CP := (He.ga K "Process")) (tP := (He.cT K ("reached", none)).2) F32 TProcess ⟨⟨_, _, _, by decide, g31, b31, F31.kp, m31⟩⟩ xFIRST
  have g33 := K02.ok_deliver (P := l.prog) (w := w) (mg := mg) (base := base) (CW := (He.ga K "World")) (CP := (He.ga K "Process")) (tP := (He.cT K ("reached", none)).2) F33 TWorld TProcess ⟨⟨_, _, _, by decide, g31, b31, F31.kp, m31⟩⟩ ⟨⟨_, _, _, by decide, g12, b12, F12.kp, m12⟩⟩
  have g34 := K02.ok_doSend (P := l.prog) (w := w) (mg := mg) (base := base) (CW := (He.ga K "World")) (CP := (He.ga K "Process")) (tP := (He.cT K ("reached", none)).2) F34 TWorld ⟨⟨_, _, _, by decide, g33, b33, F33.kp, m33⟩⟩ ⟨⟨_, _, _, by decide, g3, b3, F3.kp, m3⟩⟩ xFIRST
  have g35 := K02.ok_WInit (P := l.prog) (w := w) (mg := mg) (base := base) (CW := (He.ga K "World")) (CP := (He.ga K "Process")) (tP := (He.cT K ("reached", none)).2) F35 TWorld TProcess ⟨⟨_, _, _, by decide, g14, b14, MkProcess, MProcess⟩⟩ xFIRST
  have g36 := K02.ok_MInit (P := l.prog) (w := w) (mg := mg) (base := base) (CM := (He.ga K "Machine")) (CW := (He.ga K "World")) (CP := (He.ga K "Process")) (tP := (He.cT K ("reached", none)).2) F36 TMachine ⟨⟨_, _, _, by decide, g35, b35, MkWorld, MWorld⟩⟩
  have g37 := K02.ok_performS (P := l.prog) (w := w) (mg := mg) (base := base) (CW := (He.ga K "World")) (CP := (He.ga K "Process")) (tP := (He.cT K ("reached", none)).2) F37 TF ⟨⟨_, _, _, by decide, g15, b15, F15.kp, m15⟩⟩ ⟨⟨_, _, _, by decide, g9, b9, F9.kp, m9⟩⟩ ⟨⟨_, _, _, by decide, g8, b8, F8.kp, m8⟩⟩ ⟨⟨_, _, _, by decide, g17, b17, F17.kp, m17⟩⟩ ⟨⟨_, _, _, by decide, g32, b32, F32.kp, m32⟩⟩ ⟨⟨_, _, _, by decide, g22, b22, F22.kp, m22⟩⟩ ⟨⟨_, _, _, by decide, g16, b16, F16.kp, m16⟩⟩ ⟨⟨_, _, _, by decide, g34, b34, F34.kp, m34⟩⟩
  have g38 := K02.ok_MNumbers (P := l.prog) (w := w) (mg := mg) (base := base) (CM := (He.ga K "Machine")) (CW := (He.ga K "World")) (CP := (He.ga K "Process")) (tP := (He.cT K ("reached", none)).2) F38 TMachine TWorld z10
  have g39 := K02.ok_MDoS (P := l.prog) (w := w) (mg := mg) (base := base) (CM := (He.ga K "Machine")) (CW := (He.ga K "World")) (CP := (He.ga K "Process")) (CN := (He.ga K "NotRunning")) (tP := (He.cT K ("reached", none)).2) F39 TMachine TWorld TProcess ⟨⟨_, _, _, _, _, _, _, _, by decide, PySem.F.excBase_RuntimeError, TNotRunning, tyNotRunning, g0, b0, MNotRunning⟩⟩ ⟨⟨_, _, _, by decide, g4, b4, h4⟩, TProcess.cls⟩ ⟨⟨_, _, _, by decide, g37, b37, F37.kp, m37⟩⟩ ⟨⟨_, _, _, by decide, g25, b25, F25.kp, m25⟩⟩ z10 z3
  have g40 := K02.ok_LAlive (P := l.prog) (w := w) (mg := mg) (base := base) F40 z10
  have g41 := K02.ok_LKids (P := l.prog) (w := w) (mg := mg) (base := base) F41 z10
  have g42 := K02.ok_LRuns (P := l.prog) (w := w) (mg := mg) (base := base) F42
  have g43 := K02.ok_LAbove (P := l.prog) (w := w) (mg := mg) (base := base) F43
  have g44 := K02.ok_LProc (P := l.prog) (w := w) (mg := mg) (base := base) F44
  have g45 := K02.ok_LWaited (P := l.prog) (w := w) (mg := mg) (base := base) F45 ⟨⟨_, _, _, by decide, g41, b41, F41.kp, m41⟩⟩
  have g46 := K02.ok_LAbout (P := l.prog) (w := w) (mg := mg) (base := base) F46
  have g47 := K02.ok_LJoined (P := l.prog) (w := w) (mg := mg) (base := base) F47
  have g48 := K02.ok_LEnded (P := l.prog) (w := w) (mg := mg) (base := base) F48 ⟨⟨_, _, _, by decide, g43, b43, F43.kp, m43⟩⟩ ⟨⟨_, _, _, by decide, g41, b41, F41.kp, m41⟩⟩
  have g49 := K02.ok_LFamily (P := l.prog) (w := w) (mg := mg) (base := base) F49 ⟨⟨_, _, _, by decide, g41, b41, F41.kp, m41⟩⟩ ⟨⟨_, _, _, by decide, g48, b48, F48.kp, m48⟩⟩ ⟨⟨_, _, _, by decide, g47, b47, F47.kp, m47⟩⟩ ⟨⟨_, _, _, by decide, g44, b44, F44.kp, m44⟩⟩ z11
  have g50 := K02.ok_LSettled (P := l.prog) (w := w) (mg := mg) (base := base) F50 ⟨⟨_, _, _, by decide, g40, b40, F40.kp, m40⟩⟩ ⟨⟨_, _, _, by decide, g45, b45, F45.kp, m45⟩⟩
  have g51 := K02.ok_LSent (P := l.prog) (w := w) (mg := mg) (base := base) F51 ⟨⟨_, _, _, by decide, g48, b48, F48.kp, m48⟩⟩
  have g52 := K02.ok_LDo (P := l.prog) (w := w) (mg := mg) (base := base) F52 ⟨⟨_, _, _, by decide, g50, b50, F50.kp, m50⟩⟩ ⟨⟨_, _, _, by decide, g46, b46, F46.kp, m46⟩⟩ ⟨⟨_, _, _, by decide, g45, b45, F45.kp, m45⟩⟩ ⟨⟨_, _, _, by decide, g49, b49, F49.kp, m49⟩⟩ ⟨⟨_, _, _, by decide, g42, b42, F42.kp, m42⟩⟩ ⟨⟨_, _, _, by decide, g40, b40, F40.kp, m40⟩⟩ ⟨⟨_, _, _, by decide, g51, b51, F51.kp, m51⟩⟩ z10
  have g53 := KB.ok_take (P := l.prog) (w := w) (mg := mg) (base := base) F53
  have g54 := KB.ok_pick (P := l.prog) (w := w) (mg := mg) (base := base) F54 g53 b53 F53.kp m53 z4
  have g55 := KB.ok_box (P := l.prog) (w := w) (mg := mg) (base := base) F55 z4 z13 z9
  have g56 := K02.ok_LDrawn (P := l.prog) (w := w) (mg := mg) (base := base) F56 ⟨⟨_, _, _, by decide, g53, b53, F53.kp, m53⟩⟩ ⟨⟨_, _, _, by decide, g54, b54, F54.kp, m54⟩⟩ ⟨⟨_, _, _, by decide, g41, b41, F41.kp, m41⟩⟩ ⟨⟨_, _, _, by decide, g42, b42, F42.kp, m42⟩⟩ z4 z10
  have g57 := K02.ok_LTold (P := l.prog) (w := w) (mg := mg) (base := base) (CM := (He.ga K "Machine")) (CW := (He.ga K "World")) (CP := (He.ga K "Process")) (CN := (He.ga K "NotRunning")) (tP := (He.cT K ("reached", none)).2) F57 TNotRunning.isc noNotRunning exmNotRunning MNotRunning ⟨⟨_, _, _, by decide, g39, b39, h39⟩, TMachine.cls⟩
  have g58 := K02.ok_LAllAbout (P := l.prog) (w := w) (mg := mg) (base := base) (CM := (He.ga K "Machine")) (CW := (He.ga K "World")) (CP := (He.ga K "Process")) (CN := (He.ga K "NotRunning")) (tP := (He.cT K ("reached", none)).2) F58 TMachine ⟨⟨_, _, _, by decide, g39, b39, h39⟩, TMachine.cls⟩ ⟨⟨_, _, _, by decide, g1, b1, F1.kp, m1⟩⟩ ⟨⟨_, _, _, by decide, g46, b46, F46.kp, m46⟩⟩ z10 z5
  have g59 := K02.ok_LGrown (P := l.prog) (w := w) (mg := mg) (base := base) (CM := (He.ga K "Machine")) (CW := (He.ga K "World")) (CP := (He.ga K "Process")) (CN := (He.ga K "NotRunning")) (tP := (He.cT K ("reached", none)).2) F59 TMachine ⟨⟨_, _, _, by decide, g39, b39, h39⟩, TMachine.cls⟩ ⟨⟨_, _, _, by decide, g1, b1, F1.kp, m1⟩⟩ ⟨⟨_, _, _, by decide, g52, b52, F52.kp, m52⟩⟩ ⟨⟨_, _, _, by decide, g53, b53, F53.kp, m53⟩⟩ ⟨⟨_, _, _, by decide, g54, b54, F54.kp, m54⟩⟩ z10 z14 z9
  have g60 := K02.ok_LRight (P := l.prog) (w := w) (mg := mg) (base := base) (CM := (He.ga K "Machine")) (CW := (He.ga K "World")) (CP := (He.ga K "Process")) (tP := (He.cT K ("reached", none)).2) F60 (of_decide_eq_true qneWorldProcess) (HL.empB_ok qemp) TMachine ⟨⟨_, _, _, ds36, by decide, g36, b36, r36, MkMachine, MMachine⟩⟩ ⟨⟨_, _, _, by decide, g38, b38, h38⟩, TMachine.cls⟩ ⟨⟨_, _, _, by decide, g1, b1, F1.kp, m1⟩⟩ ⟨⟨_, _, _, by decide, g44, b44, F44.kp, m44⟩⟩ ⟨⟨_, _, _, by decide, g56, b56, F56.kp, m56⟩⟩ ⟨⟨_, _, _, by decide, g52, b52, F52.kp, m52⟩⟩ ⟨⟨_, _, _, by decide, g57, b57, F57.kp, m57⟩⟩ ⟨⟨_, _, _, by decide, g59, b59, F59.kp, m59⟩⟩ ⟨⟨_, _, _, by decide, g58, b58, F58.kp, m58⟩⟩ z10 z14
  exact K02.ok_LLaw F61 ⟨⟨_, _, _, by decide, g55, b55, F55.kp, m55⟩⟩ ⟨⟨_, _, _, by decide, g60, b60, F60.kp, m60⟩⟩ z5 z14 z15 z4
end KY
set_option Elab.async false
set_option linter.all false
set_option maxRecDepth 100000
set_option maxHeartbeats 4000000
namespace KY
open PySem PySem.Spec PyProof.Rows L2
abbrev nm_0 : List PySem.Str := ["_wall", "NotRunning", "MOST", "ROOM", "LETTERS", "CELLS", "first_met", "walk", "FIRST", "Process", "File", "Pipe"]
abbrev nm_1 : List PySem.Str := ["Side", "World", "new_serial", "children", "is_alive", "new_file", "file_at", "thing_at", "new_handle", "partner", "exists", "letters_from"]
abbrev nm_2 : List PySem.Str := ["reached", "held_things", "sweep", "row_of", "place_in_row", "leave_row", "next_in_row", "wait_now", "read_pipe", "write_pipe", "take_letter", "put_letter"]
abbrev nm_3 : List PySem.Str := ["answer_now", "begin", "next_in_rows", "settle_one", "settle", "is_taken", "do_fork", "do_lead", "do_adopt", "may_move", "do_join", "adopter_above"]
abbrev nm_4 : List PySem.Str := ["end_process", "do_end", "do_wait", "deliver", "do_send", "do_sendall", "word_of", "do_about", "FAMILY_CALLS", "do_get", "do_set", "do_make"]
abbrev nm_5 : List PySem.Str := ["do_remove", "give", "do_open", "do_seek", "do_pipe", "do_pair", "do_area", "do_copy", "do_close", "do_handles", "do_same", "area_refusal"]
abbrev nm_6 : List PySem.Str := ["do_peek", "do_poke", "read_file", "write_file", "do_read", "do_write", "do_pass", "do_take", "THING_CALLS", "perform", "Machine", "_law_box"]
abbrev nm_7 : List PySem.Str := ["_law_take", "_law_pick", "_law_same", "_law_proc", "_law_alive", "_law_kids", "_law_runs", "_law_above", "_law_ended", "_law_joined", "_law_family", "_law_waited"]
abbrev nm_8 : List PySem.Str := ["_law_about", "_law_sent", "_law_settled", "_law_do", "_law_told", "_law_drawn", "_law_grown", "_law_all_about", "_law_right"]
abbrev nm : List PySem.Str := nm_0 ++ (nm_1 ++ (nm_2 ++ (nm_3 ++ (nm_4 ++ (nm_5 ++ (nm_6 ++ (nm_7 ++ (nm_8))))))))
abbrev R : PySem.W.OpenRow := PySem.W.OpenLaw.row PySem.Challenge.rw_treethaw_k08_waits_for_children
abbrev hk : PySem.W.Hook := HL.hookL fa fn ts tf ex
def ob (s : PySem.W.SharedT) : He.AlX := HL.obsL fa fn ts tf ex (HandSHeadRun.getT s)
theorem ob_eq (s : PySem.W.SharedT) : ob s = hk.obs s.abs := HL.obsL_eq fa fn ts tf ex (HandSHeadRun.getT_eq s)
set_option maxHeartbeats 0 in
theorem runF (w : World) : HandSHeadRun.RunEq R (PySem.W.view R.prog [113]) hk ob 6000 nm (w.withFollow "special-get-raises" false) := by
  intro os
  kernel_rfl
set_option maxHeartbeats 0 in
theorem runT (w : World) : HandSHeadRun.RunEq R (PySem.W.view R.prog [113]) hk ob 6000 nm (w.withFollow "special-get-raises" true) := by
  intro os
  kernel_rfl
theorem run (w : World) : HandSHeadRun.RunEq R (PySem.W.view R.prog [113]) hk ob 6000 nm w := PySem.W.byRow2 "special-get-raises" (P := fun w => HandSHeadRun.RunEq R (PySem.W.view R.prog [113]) hk ob 6000 nm w) runF runT w
end KY
set_option Elab.async false
set_option linter.all false
set_option maxRecDepth 100000
set_option maxHeartbeats 4000000
open PySem PySem.W PySem.Calls PyProof.Rows
set_option maxHeartbeats 0 in
theorem PySem.Challenge.cw_treethaw_k08_waits_for_children_holds : PySem.Challenge.rw_treethaw_k08_waits_for_children.Holds := by
  w_on; o_law
  refine HandSHeadRun.head_any (r := OpenLaw.row PySem.Challenge.rw_treethaw_k08_waits_for_children) (q := view (OpenLaw.row PySem.Challenge.rw_treethaw_k08_waits_for_children).prog [113]) (H := KY.hk) (ob := KY.ob) (M := 6000) (loose := KY.nm) (d := HandSHeadRun.topDef (OpenLaw.row PySem.Challenge.rw_treethaw_k08_waits_for_children).prog 113) (kwd := []) KY.ob_eq
    (by kernel_rfl) (fun s => by kernel_rfl) KY.run (by kernel_rfl) (by kernel_rfl) (by kernel_rfl) (by rfl) (by first | assumption | decide +kernel) (by decide +kernel) ⟨rfl, rfl, rfl, rfl, rfl, by decide +kernel⟩ ?hw ?hc
  case hw => w_witness2
  case hc =>
    refine LamX.walk_ofTsE (l := PySem.Challenge.rw_treethaw_k08_waits_for_children) (n := 63) (k := 13) (x := "_law_script") (CX := fun _ => L2.CX0) rfl (by decide) (by kernel_rfl) ⟨rfl, by decide, by decide⟩ ?F (fun _ _ _ _ _ z => z)
    intro w mg fa h Y G hmg0
    obtain ⟨K, KX, c⟩ := Y
    have hmg : mg ("law" : PySem.Str) = some (.ref fa) := by
      have e : (HandSHeadRun.topDef (OpenLaw.row PySem.Challenge.rw_treethaw_k08_waits_for_children).prog 113).name = ("law" : PySem.Str) := by kernel_rfl
      rw [← e]
      exact hmg0
    exact ⟨K, KX, KY.facts KX G hmg c⟩

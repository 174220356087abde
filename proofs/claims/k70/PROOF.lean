import PyProof.Rows.All
import Wide.All
import OpenK.AllK
import Wide.FinOn
import HandS.ForMost
import HandS.IsInst
import HandS.Wide
import HandS.Walk
import HandS.Flow
import HandS.Conv
import HandS.Zip
import HandS.NoneIn
import HandS.More
import HandS.DictComp
import HandS.Star
import HandS.Strs
import HandS.Evl
import PyProof.ReprRoads
import HandS.RaiseMore
import HandS.SetFor
import KE.KExcInit
import HandS.Exc
import HandS.ExcInit
import HandS.ExcIs
import KE.KExcIs
import KE.KTryMore
import HandS.TryOnly
import HandS.ExcOwn
import HandS.WordsExc
import HandS.FStr
import HandS.TupAny
import HandS.RevTup
import PyProof.Rows.ChunkEnd
import HandS.Style
import PyProof.ExcBaseAll.RuntimeError
import PySem.Challenge.RW_treethaw_k70_whole_moving_over_a_bad_lin
set_option Elab.async false
set_option linter.all false
namespace KB
/-! ### ascending lists -/
def ins (a : Int) : List Int → List Int
  | [] => [a]
  | b :: l => if a < b then a :: b :: l else if a = b then b :: l else b :: ins a l
def asc (l : List Int) : List Int := l.foldr ins []
theorem mem_ins {a k : Int} : ∀ {l : List Int}, k ∈ ins a l ↔ k = a ∨ k ∈ l
  | [] => by simp [ins]
  | b :: l => by
    unfold ins
    split
    · simp
    · split
      · rename_i h; subst h; simp
      · simp only [List.mem_cons, mem_ins]
        constructor
        · rintro (h | h | h) <;> simp [h]
        · rintro (h | h | h) <;> simp [h]
theorem ins_asc {a : Int} : ∀ {l : List Int}, l.Pairwise (· < ·) → (ins a l).Pairwise (· < ·)
  | [], _ => by simp [ins]
  | b :: l, h => by
    rw [List.pairwise_cons] at h
    unfold ins
    split
    · rename_i z
      refine List.pairwise_cons.mpr ⟨fun x m => ?_, List.pairwise_cons.mpr h⟩
      rcases List.mem_cons.mp m with m | m
      · rw [m]; exact z
      · exact Int.lt_trans z (h.1 x m)
    · split
      · exact List.pairwise_cons.mpr h
      · rename_i z1 z2
        refine List.pairwise_cons.mpr ⟨fun x m => ?_, ins_asc h.2⟩
        rcases mem_ins.mp m with m | m
        · rw [m]; omega
        · exact h.1 x m
theorem mem_asc {k : Int} : ∀ {l : List Int}, k ∈ asc l ↔ k ∈ l
  | [] => by simp [asc]
  | a :: l => by
    show k ∈ ins a (asc l) ↔ _
    rw [mem_ins, mem_asc, List.mem_cons]
theorem asc_asc : ∀ (l : List Int), (asc l).Pairwise (· < ·)
  | [] => by simp [asc]
  | a :: l => ins_asc (asc_asc l)
theorem len_ins (a : Int) : ∀ (l : List Int), (ins a l).length ≤ l.length + 1
  | [] => by simp [ins]
  | b :: l => by
    unfold ins
    split
    · simp
    · split
      · simp
      · have := len_ins a l
        simp only [List.length_cons]
        omega
theorem len_asc : ∀ (l : List Int), (asc l).length ≤ l.length
  | [] => by simp [asc]
  | a :: l => by
    have := len_asc l
    have := len_ins a (asc l)
    show (ins a (asc l)).length ≤ _
    simp only [List.length_cons]
    omega
theorem asc_uniq {a b : List Int} (ha : a.Pairwise (· < ·)) (hb : b.Pairwise (· < ·)) (h : ∀ k, k ∈ a ↔ k ∈ b) : a = b := by
  have na : a.Nodup := ha.imp fun h => Int.ne_of_lt h
  have nb : b.Nodup := hb.imp fun h => Int.ne_of_lt h
  have p : a.Perm b := by
    rw [List.perm_iff_count]
    intro k
    rw [na.count, nb.count]
    simp only [h]
  exact p.eq_of_pairwise (le := fun x y => x ≤ y) (fun x y _ _ h1 h2 => Int.le_antisymm h1 h2) (ha.imp fun h => Int.le_of_lt h) (hb.imp fun h => Int.le_of_lt h)
theorem asc_eq {a l : List Int} (ha : a.Pairwise (· < ·)) (h : ∀ k, k ∈ a ↔ k ∈ l) : a = asc l := asc_uniq ha (asc_asc l) fun k => (h k).trans mem_asc.symm
theorem asc_congr {l m : List Int} (h : ∀ k, k ∈ l ↔ k ∈ m) : asc l = asc m := asc_eq (asc_asc l) fun k => mem_asc.trans (h k)
/-! ### families -/
structure Rw where
  n : Int
  up : Int
  s : Int
  g : Int
  ad : Bool
  w : Nat
abbrev Fam := List Rw
def keys (M : Fam) : List Int := M.map (·.n)
def look (M : Fam) (n : Int) : Option Rw := M.find? fun r => decide (r.n = n)
def up (M : Fam) (n : Int) : Int := ((look M n).map (·.up)).getD 1
def ses (M : Fam) (n : Int) : Int := ((look M n).map (·.s)).getD 1
def grp (M : Fam) (n : Int) : Int := ((look M n).map (·.g)).getD 1
def ado (M : Fam) (n : Int) : Bool := ((look M n).map (·.ad)).getD true
def end? (M : Fam) (n : Int) : Bool := ((look M n).map fun r => decide (r.w = 1)).getD false
structure WF (M : Fam) : Prop where
  asc : (keys M).Pairwise (· < ·)
  low : ∀ r ∈ M, 2 ≤ r.n
  par : ∀ r ∈ M, r.up = 1 ∨ r.up ∈ keys M
  root : ∃ root ∈ keys M, ∀ n ∈ keys M, up M n = 1 ↔ n = root
  rk : ∃ rk : Int → Nat, (∀ r ∈ M, rk r.n < 60) ∧ ∀ r ∈ M, r.up ≠ 1 → rk r.up < rk r.n
  few : M.length ≤ 20
theorem look_of {M : Fam} (h : (keys M).Pairwise (· < ·)) {r : Rw} (m : r ∈ M) : look M r.n = some r := by
  induction M with
  | nil => cases m
  | cons x M ih =>
    have h' := List.pairwise_cons.mp h
    unfold look
    rw [List.find?_cons]
    rcases List.mem_cons.mp m with m | m
    · rw [m]; simp
    · have : x.n < r.n := h'.1 r.n (List.mem_map_of_mem (f := fun r : Rw => r.n) m)
      have e : decide (x.n = r.n) = false := decide_eq_false (by omega)
      rw [e]
      exact ih h'.2 m
theorem look_mem {M : Fam} {n : Int} {r : Rw} (h : look M n = some r) : r ∈ M ∧ r.n = n :=
  ⟨List.mem_of_find?_eq_some h, of_decide_eq_true (List.find?_some (p := fun r : Rw => decide (r.n = n)) h)⟩
theorem look_some {M : Fam} {n : Int} (h : n ∈ keys M) : ∃ r, look M n = some r := by
  obtain ⟨r, m, e⟩ := List.mem_map.mp h
  cases z : look M n with
  | some r => exact ⟨r, rfl⟩
  | none => exact absurd (decide_eq_true e) (List.find?_eq_none.mp z r m)
theorem look_none {M : Fam} {n : Int} (h : n ∉ keys M) : look M n = none :=
  List.find?_eq_none.mpr fun r m e => h (by rw [← of_decide_eq_true e]; exact List.mem_map_of_mem (f := fun r : Rw => r.n) m)
section
variable {M : Fam} {n : Int} {r : Rw}
theorem WF.up (W : WF M) (m : r ∈ M) : up M r.n = r.up := by unfold KB.up; rw [look_of W.asc m]; rfl
theorem WF.ses (W : WF M) (m : r ∈ M) : ses M r.n = r.s := by unfold KB.ses; rw [look_of W.asc m]; rfl
theorem WF.grp (W : WF M) (m : r ∈ M) : grp M r.n = r.g := by unfold KB.grp; rw [look_of W.asc m]; rfl
theorem WF.ado (W : WF M) (m : r ∈ M) : ado M r.n = r.ad := by unfold KB.ado; rw [look_of W.asc m]; rfl
theorem WF.row (W : WF M) (h : n ∈ keys M) : ∃ r ∈ M, r.n = n := by
  obtain ⟨r, m, e⟩ := List.mem_map.mp h
  exact ⟨r, m, e⟩
theorem WF.one (W : WF M) : (1 : Int) ∉ keys M := fun h => by
  obtain ⟨r, m, e⟩ := W.row h
  have := W.low r m
  omega
theorem WF.up_in (W : WF M) (h : n ∈ keys M) (z : KB.up M n ≠ 1) : KB.up M n ∈ keys M := by
  obtain ⟨r, m, rfl⟩ := W.row h
  rw [W.up m] at z ⊢
  exact (W.par r m).resolve_left z
theorem up1 (W : WF M) : up M 1 = 1 := by unfold up; rw [look_none W.one]; rfl
theorem ado1 (W : WF M) : ado M 1 = true := by unfold ado; rw [look_none W.one]; rfl
theorem ses1 (W : WF M) : ses M 1 = 1 := by unfold ses; rw [look_none W.one]; rfl
theorem grp1 (W : WF M) : grp M 1 = 1 := by unfold grp; rw [look_none W.one]; rfl
end
/-! ### what is above -/
def go (M : Fam) : Nat → Int → List Int
  | 0, _ => []
  | k + 1, n => up M n :: if up M n = 1 then [] else go M k (up M n)
def above (M : Fam) (n : Int) : List Int := go M 64 n
section
variable {M : Fam} {n : Int}
theorem go_more (W : WF M) {rk : Int → Nat} (h : ∀ r ∈ M, r.up ≠ 1 → rk r.up < rk r.n) : ∀ (k j : Nat) (n : Int), n ∈ keys M → rk n < k → rk n < j → go M k n = go M j n
  | 0, _, _, _, h1, _ => absurd h1 (Nat.not_lt_zero _)
  | _ + 1, 0, _, _, _, h2 => absurd h2 (Nat.not_lt_zero _)
  | k + 1, j + 1, n, m, h1, h2 => by
    show (up M n :: _) = (up M n :: _)
    split
    · rfl
    · rename_i z
      obtain ⟨r, mr, rfl⟩ := W.row m
      have e := W.up mr
      rw [e] at z
      have := h r mr z
      rw [e, go_more W h k j r.up ((W.par r mr).resolve_left z) (by omega) (by omega)]
theorem above_eq (W : WF M) (m : n ∈ keys M) : above M n = up M n :: if up M n = 1 then [] else above M (up M n) := by
  obtain ⟨rk, h1, h2⟩ := W.rk
  show go M 64 n = _
  show (up M n :: _) = _
  split
  · rfl
  · rename_i z
    have mu := W.up_in m z
    obtain ⟨r, mr, e⟩ := W.row mu
    have := h1 r mr
    rw [e] at this
    show _ = up M n :: go M 64 (up M n)
    rw [go_more W h2 63 64 _ mu (by omega) (by omega)]
/-- by what is above -/
theorem up_ind (W : WF M) {P : Int → Prop} (h0 : ∀ n ∈ keys M, up M n = 1 → P n) (h1 : ∀ n ∈ keys M, up M n ≠ 1 → P (up M n) → P n) : ∀ n ∈ keys M, P n := by
  obtain ⟨rk, r1, r2⟩ := W.rk
  have : ∀ (k : Nat) (n : Int), n ∈ keys M → rk n < k → P n := by
    intro k
    induction k with
    | zero => exact fun _ _ h => absurd h (Nat.not_lt_zero _)
    | succ k ih =>
      intro n m h
      by_cases z : up M n = 1
      · exact h0 n m z
      · obtain ⟨r, mr, rfl⟩ := W.row m
        have e := W.up mr
        refine h1 _ m z (ih _ (W.up_in m z) ?_)
        rw [e] at z ⊢
        have := r2 r mr z
        omega
  exact fun n m => this _ n m (Nat.lt_succ_self _)
theorem above_len (W : WF M) : ∀ n ∈ keys M, (above M n).length ≤ 64 := by
  intro n _
  have : ∀ (k : Nat) (n : Int), (go M k n).length ≤ k := by
    intro k
    induction k with
    | zero => exact fun _ => Nat.le_refl 0
    | succ k ih =>
      intro n
      show (up M n :: _).length ≤ _
      split
      · simp
      · have := ih (up M n)
        simp only [List.length_cons]
        omega
  exact this 64 n
def adopter (M : Fam) (n : Int) : Int := ((above M n).find? fun a => ado M a).getD 1
theorem adopter_eq (W : WF M) (m : n ∈ keys M) : adopter M n = if up M n = 1 ∨ ado M (up M n) = true then up M n else adopter M (up M n) := by
  unfold adopter
  rw [above_eq W m]
  by_cases z : up M n = 1
  · rw [if_pos z, z]
    simp [ado1 W]
  · rw [if_neg z, List.find?_cons]
    cases a : ado M (up M n) <;> simp [z]
theorem above_in (W : WF M) : ∀ n ∈ keys M, ∀ a ∈ above M n, a = 1 ∨ a ∈ keys M := by
  refine up_ind W (fun n m z a h => ?_) (fun n m z ih a h => ?_)
  · rw [above_eq W m, if_pos z] at h
    exact .inl ((List.mem_singleton.mp h).trans z)
  · rw [above_eq W m, if_neg z] at h
    rcases List.mem_cons.mp h with h | h
    · exact .inr (by rw [h]; exact W.up_in m z)
    · exact ih a h
theorem above_one (W : WF M) : ∀ n ∈ keys M, (1 : Int) ∈ above M n := by
  refine up_ind W (fun n m z => ?_) (fun n m z ih => ?_)
  · rw [above_eq W m, z]
    exact List.mem_cons_self
  · rw [above_eq W m, if_neg z]
    exact List.mem_cons_of_mem _ ih
/-- nothing is above itself -/
theorem above_rk (W : WF M) {rk : Int → Nat} (h : ∀ r ∈ M, r.up ≠ 1 → rk r.up < rk r.n) : ∀ n ∈ keys M, ∀ a ∈ above M n, a ≠ 1 → rk a < rk n := by
  refine up_ind W (fun n m z a h z1 => ?_) (fun n m z ih a h' z1 => ?_)
  · rw [above_eq W m, if_pos z] at h
    exact absurd ((List.mem_singleton.mp h).trans z) z1
  · obtain ⟨r, mr, rfl⟩ := W.row m
    have e := W.up mr
    have lt := h r mr (by rw [← e]; exact z)
    rw [above_eq W m, if_neg z] at h'
    rcases List.mem_cons.mp h' with h' | h'
    · rw [h', e]; exact lt
    · have := ih a h' z1
      rw [e] at this
      omega
theorem above_self (W : WF M) (m : n ∈ keys M) : n ∉ above M n := fun h => by
  obtain ⟨rk, _, r2⟩ := W.rk
  have z : n ≠ 1 := fun z => W.one (z ▸ m)
  exact absurd (above_rk W r2 n m n h z) (Nat.lt_irrefl _)
end
/-! ### tops -/
def topB (M : Fam) (s n : Int) : Bool := decide (ses M n = s) && (decide (up M n = 1) || !decide (ses M (up M n) = s))
def tops (M : Fam) (s : Int) : List Int := (keys M).filter (topB M s)
def sessions (M : Fam) : List Int := asc (M.map (·.s))
def groups (M : Fam) : List Int := asc (M.map (·.g))
/-- whether n bars the session s -/
def barsS (M : Fam) (s n : Int) : Bool :=
  if s ∈ keys M then
    if n = s then !(decide (ses M n = s) && decide (grp M n = s)) else decide (n ∈ tops M s) && !decide (up M n = adopter M s)
  else if n ∈ tops M s then
    if s = 1 then !decide (up M n = 1) else !decide (up M n = up M ((tops M s).headD 1)) || !ado M (up M n)
  else false
theorem mem_tops {M : Fam} {s n : Int} : n ∈ tops M s ↔ n ∈ keys M ∧ topB M s n = true := List.mem_filter
def owners (M : Fam) (g : Int) : List Int := asc ((M.filter fun r => decide (r.g = g)).map (·.s))
def splitB (M : Fam) (g : Int) : Bool :=
  decide (1 < (owners M g).length) || (decide (g ∈ keys M) && !decide (ses M g = (owners M g).headD 1))
    || ((decide (g = 1) || decide (g ∈ M.map (·.s))) && !decide (g = (owners M g).headD 1))
/-- the child of n's parent that is the leader of n's session or above it -/
def need (M : Fam) (n : Int) : Option Int :=
  if ses M n ∈ keys M ∧ ses M n ≠ n ∧ topB M (ses M n) n = true then (ses M n :: above M (ses M n)).find? fun a => !decide (a = 1) && decide (up M a = up M n) else none
def ringGo (M : Fam) : Nat → List Int → Option Int → List Int × Option Int
  | 0, row, l => (row, l)
  | _ + 1, row, none => (row, none)
  | k + 1, row, some x => if x ∈ row then (row, some x) else ringGo M k (row ++ [x]) (need M x)
def ring (M : Fam) (n : Int) : Option (List Int) :=
  let z := ringGo M 64 [n] (need M n)
  if z.2 = some n ∧ z.1.all (fun a => decide (n ≤ a)) = true then some z.1 else none
inductive Rs where
  | session (s n : Int) | group (g : Int) | ring (row : List Int)
def reasons (M : Fam) : List Rs :=
  (sessions M).flatMap (fun s => ((keys M).filter (barsS M s)).map (Rs.session s)) ++ ((groups M).filter (splitB M)).map Rs.group ++ ((keys M).filterMap (ring M)).map Rs.ring
end KB
set_option Elab.async false
set_option linter.all false
set_option maxRecDepth 100000
set_option maxHeartbeats 4000000
namespace PySem
theorem codeAny_g {M : Model} {A : Around} {c : Code} {R : Result → Shared → Prop} {s : Shared} (h : ∀ g, codeAny M { A with guards := some g } c R s) : codeAny M A c R s :=
  fun Γ p e b => h (guardsOf Γ.below) Γ p e ⟨b.1, b.2.1, b.2.2.1, fun g hg => by cases hg; rfl, b.2.2.2.2⟩
end PySem
namespace L2
open PySem PySem.Spec PyProof.Rows
theorem room_g {k : Nat} {A : Around} {g : List Code} (r : Room k A) : Room k { A with guards := some g } := ⟨r.hd, r.dp, r.un⟩
theorem env0_g {P : Program} {w : World} {K : PySem.W.Frag} {mg : Str → Option Value} {base : Heap} {A : Around} {outer : List Env} {s : Shared} {H : Hp} {g : List Code} (e : Env0 P w K mg base A outer s H) : Env0 P w K mg base { A with guards := some g } outer s H :=
  ⟨e.frames, e.mod, e.bs, e.bsz, e.funs, e.frf, e.hok, e.bare⟩
section
variable {P : Program} {w : World} {K : PySem.W.Frag} {mg : Str → Option Value} {base : Heap}
/-- a def, its body walked where the guards around it are known -/
theorem Fun.okG {x qual : Str} {st : Stmt} {f : Addr} {fd : FuncData} {N ps : List Str} {k : Nat} {sp : Sp} (F : Fun K x qual st f fd) (S : FnScope N ps (defScope st)) (len : ∀ vs H Q E, sp vs H Q E → vs.length = ps.length)
    (body : ∀ (cdv : Value) (A : Around) (outer : List Env) (s : Shared) (H : Hp) (vs : List V) (Q : VK) (E : XK), (∃ g, A.guards = some g) → Room k (A.deeper (envOfC qual (defScope st) s.heap.objs.size f cdv)) → sp vs H Q E →
      ∃ t, PSs (cxOf CX0 P w K mg base N qual (defScope st) f cdv A outer s H E).nox (defBody st) t ∧ t { nx := fun _ H' => Q .non H', rt := Q } (start N vs) H) : FnOk P w K mg base CX0 (k + 1) f fd ps sp := by
  obtain ⟨oc, od, kV, doc, pm, an, cdv, ct, osl, rfl, lk, hcd⟩ := F.ex
  refine ⟨len, fun A outer s H args us vs Q E hr e0 hb r hsp => codeAny_g fun g => ?_⟩
  have hr' := room_g (g := g) hr
  have e1 := env0_g (g := g) e0
  have at_ : (∃ g', ({ A with guards := some g } : Around).guards = some g') := ⟨g, rfl⟩
  generalize ({ A with guards := some g } : Around) = B at hr' e1 at_ ⊢
  have hl := len _ _ _ _ hsp
  have up : ∀ b o, base.get? b = some o → s.heap.get? b = some o := fun b o z => (e1.bs b o z).1
  have KX : K.In s.heap := e1.mod.kin.keeps up
  have lim : s.heap.NoLimit := e1.mod.nolimit.keeps up
  have kinds : ∀ y ∈ ps.zip us, (defScope st).names.lookup y.1 = some .local ∨ ((defScope st).names.lookup y.1 = some .cell ∧ ((cellsFrom (s.heap.objs.size + 1) (defScope st).names []).lookup y.1).isSome = true) := fun y hy => by
    rcases S.par y.1 (List.of_mem_zip hy).1 with z | z
    · exact .inl z
    · exact .inr ⟨z, PySem.W.cellsFrom_some _ _ _ (.inl z)⟩
  refine codeAny_call_function hr'.depth (KX _ _ lk) rfl S.co S.gen rfl (PySem.W.codeRec_of KX hcd) (hb _ _ _ _ ?_)
  refine wpAny_newFunctionEnv_cells S.kind kinds fun env he s1 y => ?_
  subst he
  refine ⟨lim.keeps y.toInCall.keep, codeAny_func ?_⟩
  obtain ⟨t, ht, hq⟩ := body cdv B outer s H vs Q E at_ (hr'.deeper _) hsp
  have I : Inv (cxOf CX0 P w K mg base N qual (defScope st) f cdv B outer s H E) [] (start N vs) H s1 := inv_start S hr'.hd e1 hl r y
  refine wpAny_mono (ht.nox.run [] s1 (start N vs) H _ I hq) (fun fl s' z => ?_) fun _ _ z => z
  have fin : ∀ {σ' : St} {H' : Hp} {v : V} {u : Value}, Inv (cxOf CX0 P w K mg base N qual (defScope st) f cdv B outer s H E) [] σ' H' s' → RelV v u → Q v H' → CE outer P w H s Q u s' :=
    fun J rv q => ⟨_, _, J.os, J.bare, J.base, J.hok, rv, q⟩
  match fl, z with
  | .ret u, ⟨v, σ', H', J, rv, q⟩ => exact fin J rv q
  | .next, ⟨σ', H', J, q⟩ => exact fin (v := V.non) (u := Value.none) J rfl q
  | .brk, ⟨_, _, _, q⟩ => exact q.elim
  | .cont, ⟨_, _, _, q⟩ => exact q.elim
end
end L2

namespace L2
open PySem PySem.Spec PyProof.Rows
/-- a def's promise where nothing is being shown around it -/
structure FnG (P : Program) (w : World) (K : PySem.W.Frag) (mg : Str → Option Value) (base : Heap) (k : Nat) (f : Addr) (fd : FuncData) (ps : List Str) (sp : Sp) : Prop where
  len : ∀ vs H Q E, sp vs H Q E → vs.length = ps.length
  go : ∀ (A : Around) (outer : List Env) (s : Shared) (H : Hp) (args : Args) (us : List Value) (vs : List V) (Q : VK) (E : XK), A.guards = some [] → Room k A → Env0 P w K mg base A outer s H → BindsTo s fd args (ps.zip us) → Vals vs us → sp vs H Q E →
    codeAny (model P w) A (.call (.ref f) args) (CR CX0 outer P w H s Q E) s
theorem deeper_g {A : Around} {e : Env} (h : A.guards = some []) : (A.deeper e).guards = some [] := by
  first | exact h | (simp [Around.deeper, h]) | (unfold Around.deeper; simp [Around.under, h])
section
variable {P : Program} {w : World} {K : PySem.W.Frag} {mg : Str → Option Value} {base : Heap}
theorem Fun.okN {x qual : Str} {st : Stmt} {f : Addr} {fd : FuncData} {N ps : List Str} {k : Nat} {sp : Sp} (F : Fun K x qual st f fd) (S : FnScope N ps (defScope st)) (len : ∀ vs H Q E, sp vs H Q E → vs.length = ps.length)
    (body : ∀ (cdv : Value) (A : Around) (outer : List Env) (s : Shared) (H : Hp) (vs : List V) (Q : VK) (E : XK), (A.deeper (envOfC qual (defScope st) s.heap.objs.size f cdv)).guards = some [] → Room k (A.deeper (envOfC qual (defScope st) s.heap.objs.size f cdv)) → sp vs H Q E →
      ∃ t, PSs (cxOf CX0 P w K mg base N qual (defScope st) f cdv A outer s H E).nox (defBody st) t ∧ t { nx := fun _ H' => Q .non H', rt := Q } (start N vs) H) : FnG P w K mg base (k + 1) f fd ps sp := by
  obtain ⟨oc, od, kV, doc, pm, an, cdv, ct, osl, rfl, lk, hcd⟩ := F.ex
  refine ⟨len, fun A outer s H args us vs Q E hg hr e1 hb r hsp => ?_⟩
  have hl := len _ _ _ _ hsp
  have up : ∀ b o, base.get? b = some o → s.heap.get? b = some o := fun b o z => (e1.bs b o z).1
  have KX : K.In s.heap := e1.mod.kin.keeps up
  have lim : s.heap.NoLimit := e1.mod.nolimit.keeps up
  have kinds : ∀ y ∈ ps.zip us, (defScope st).names.lookup y.1 = some .local ∨ ((defScope st).names.lookup y.1 = some .cell ∧ ((cellsFrom (s.heap.objs.size + 1) (defScope st).names []).lookup y.1).isSome = true) := fun y hy => by
    rcases S.par y.1 (List.of_mem_zip hy).1 with z | z
    · exact .inl z
    · exact .inr ⟨z, PySem.W.cellsFrom_some _ _ _ (.inl z)⟩
  refine codeAny_call_function hr.depth (KX _ _ lk) rfl S.co S.gen rfl (PySem.W.codeRec_of KX hcd) (hb _ _ _ _ ?_)
  refine wpAny_newFunctionEnv_cells S.kind kinds fun env he s1 y => ?_
  subst he
  refine ⟨lim.keeps y.toInCall.keep, codeAny_func ?_⟩
  obtain ⟨t, ht, hq⟩ := body cdv A outer s H vs Q E (deeper_g hg) (hr.deeper _) hsp
  have I : Inv (cxOf CX0 P w K mg base N qual (defScope st) f cdv A outer s H E) [] (start N vs) H s1 := inv_start S hr.hd e1 hl r y
  refine wpAny_mono (ht.nox.run [] s1 (start N vs) H _ I hq) (fun fl s' z => ?_) fun _ _ z => z
  have fin : ∀ {σ' : St} {H' : Hp} {v : V} {u : Value}, Inv (cxOf CX0 P w K mg base N qual (defScope st) f cdv A outer s H E) [] σ' H' s' → RelV v u → Q v H' → CE outer P w H s Q u s' :=
    fun J rv q => ⟨_, _, J.os, J.bare, J.base, J.hok, rv, q⟩
  match fl, z with
  | .ret u, ⟨v, σ', H', J, rv, q⟩ => exact fin J rv q
  | .next, ⟨σ', H', J, q⟩ => exact fin (v := V.non) (u := Value.none) J rfl q
  | .brk, ⟨_, _, _, q⟩ => exact q.elim
  | .cont, ⟨_, _, _, q⟩ => exact q.elim
end
section
variable {X : Cx} {k : Nat} {f : Addr} {fd : FuncData} {ps : List Str} {sp : Sp} {x : Str} {p pos : Pos} {e : Expr} {es : List Expr} {t : TA}
theorem pe_callN (F : FnG X.prog X.w X.K X.mg X.base k f fd ps sp) (hN : X.A.guards = some []) (hr : Room k X.A) (hg : Gl X x) (hm : X.mg x = some (.ref f)) (hk : PySem.W.keepIn X.K (.ref f) = true) (hb : Binds X.K fd ps []) (ha : PA X (e :: es) t)
    (nd : (x == ("__debug__" : Str)) = false := by decide) (he : starEach (e :: es) X.env = (false, eval e X.env) :: starEach es X.env := by rfl) (np : (backTo pos (starEach es X.env)).any (·.1) = false := by rfl) :
    PE X (.Call (.Name x p) (e :: es) [] pos) (tCall sp [] E0 t) := by
  refine ⟨fun pins s σ H Q I h => wpAny_Call_Name_kw (ld_glob I hg hm ?_ nd)⟩
  refine PySem.W.callWith_K (h₀ := X.base) I.ok.mod.kin hk (thn (ha.run pos pins s σ H _ I h) fun us s1 hu => ?_) he np
  obtain ⟨vs, H1, I1, r1, q⟩ := hu
  refine ⟨I1.kIn, ?_⟩
  rw [List.append_nil] at q
  have hl : (us ++ []).length = ps.length := by
    rw [List.append_nil, ← r1.length]
    exact F.len _ _ _ _ q
  have bnd := hb s1 us I1.kIn hl
  rw [List.append_nil] at bnd
  refine wpAny_call (codeAny_mono (F.go X.A X.stack s1 H1 ⟨us, []⟩ us vs Q E0 hN hr I1.env0 bnd r1 q) fun r s' z => ?_)
  match r, z with
  | .error _, z => exact z.elim
  | .ok (.ret u), z => exact I1.after z
  | .ok .next, z => exact z.elim
  | .ok .brk, z => exact z.elim
  | .ok .cont, z => exact z.elim
end
end L2

namespace L2
open PySem PySem.Spec PyProof.Rows
theorem law_callN {P : Program} {w : World} {K : PySem.W.Frag} {mg mb : Str → Option Value} {k : Nat} {fa a : Addr} {fd : FuncData} {x : Str} {sp : Sp} {z : Shared} {vs : List Value} {ns : List Int}
    (KX : K.In z.heap) (h1 : z.heap.Ns mainGlobals mg) (h2 : z.heap.Ns builtinsNs mb) (h3 : ∀ x : Str, x ≠ "__name__" → mb x = bootBuiltins x) (h4 : z.heap.NoLimit) (h5 : z.gens = #[])
    (ha : z.heap.get? a = some { cls := .type "list", data := .seq vs.toArray }) (hi : IntsAre vs ns) (hl : ns.length ≤ sizeLine) (hr : Room k callerA)
    (F : ∀ base : Heap, K.In base → base.Ns mainGlobals mg → FnG P w K mg base k fa fd [x] sp) (bnd : ∀ (s : Shared) (u : Value), BindsTo s fd ⟨[u], []⟩ [(x, u)])
    (hsp : ∀ H : Hp, Only H → SqL K H a (ns.map V.int) → sp [.ref a] H (fun v _ => v = .bl true) fun _ _ _ => False) :
    codeAny (model P w) callerA (.call (.ref fa) ⟨[.ref a], []⟩) (fun r s' => r = .ok (.ret (.bool true)) ∧ OldK z.heap s'.heap ∧ s'.os = z.os ∧ AllBare s'.gens) z := by
  have rv := vals_ints hi
  have lv := hi.length
  have main : ∀ H : Hp, Only H → SqL K H a (ns.map V.int) → HOk P w H z.heap → (∀ b, H b ≠ none → b = a) → (H a ≠ none → K.lookup a = none) →
      codeAny (model P w) callerA (.call (.ref fa) ⟨[.ref a], []⟩) (fun r s' => r = .ok (.ret (.bool true)) ∧ OldK z.heap s'.heap ∧ s'.os = z.os ∧ AllBare s'.gens) z := by
    intro H only hS hok alone apart
    have stay : ∀ {b : Addr} {o : Obj}, z.heap.get? b = some o → H b = none → (hidT z.heap H).get? b = some o := fun e n => hidT_get e n
    have untracked : ∀ {b : Addr} {o : Obj} {es : Array DictEntry} {ep : Nat}, z.heap.get? b = some o → o.data = .dict es ep → H b = none := fun {b o es ep} e d => by
      by_cases q : H b = none
      · exact q
      · obtain rfl := alone b q
        rw [ha] at e
        cases e
        cases (show Data.seq vs.toArray _ = Data.dict es ep from d)
    have names : ∀ {b : Addr} {m : Str → Option Value}, z.heap.Ns b m → (hidT z.heap H).Ns b m := fun ⟨o, es, ep, e, d, r⟩ => ⟨o, es, ep, stay e (untracked e d), d, r⟩
    have KB : K.In (hidT z.heap H) := fun b o e => stay (KX b o e) (by
      by_cases q : H b = none
      · exact q
      · obtain rfl := alone b q
        rw [apart q] at e
        cases e)
    have md : Mod K mg (hidT z.heap H) := by
      obtain ⟨mc, n1, n2⟩ := h4
      exact ⟨KB, names h1, ⟨mb, names h2, h3⟩, ⟨mc, names n1, n2⟩⟩
    have e0 : Env0 P w K mg (hidT z.heap H) callerA [] z H :=
      ⟨rfl, md, fun b o e => of_hidT e, Nat.le_of_eq (hidT_size _ _), trivial, fun b hb => absurd (show b ∈ ([] : List Addr) from hb) List.not_mem_nil, hok, .of_eq h5⟩
    refine codeAny_mono ((F _ KB (names h1)).go callerA [] z H ⟨[.ref a], []⟩ [.ref a] [.ref a] _ _ rfl hr e0 (bnd z (.ref a)) (.cons rfl .nil) (hsp H only hS)) fun r s' y => ?_
    match r, y with
    | .error _, y => exact y.elim
    | .ok .next, y => exact y.elim
    | .ok .brk, y => exact y.elim
    | .ok .cont, y => exact y.elim
    | .ok (.ret u), ⟨v, H', os, bare, un, hok', rr, q⟩ =>
      obtain rfl : v = .bl true := q
      obtain rfl : u = Value.bool true := rr
      refine ⟨rfl, OldK.of_keep fun b o e => ?_, os, bare⟩
      rcases only b with n | ⟨ob, xs, n⟩
      · exact un.keep b o e n (fun q => absurd (show b ∈ ([] : List Addr) from q) List.not_mem_nil) List.not_mem_nil
      · have n2 := un.frzs b ob _ n
        obtain ⟨e1, _⟩ := hok b _ n
        obtain ⟨e2, _⟩ := hok' b _ n2
        rw [e] at e1
        cases e1
        exact e2
  cases hk : K.lookup a with
  | some o =>
    have e := KX a o hk
    rw [ha] at e
    cases e
    refine main (fun _ => none) (fun _ => .inl rfl) (.inr ⟨_, vs.toArray, _, hk, rfl, rfl, rfl, ?_, ?_⟩) (fun b u q => nomatch (show (none : Option HO) = some u from q)) (fun b q => absurd rfl q) (fun q => absurd rfl q)
    · rw [List.size_toArray, lv]
      exact hl
    · simpa using rv
  | none =>
    have here : ∀ b, (fun b => if b = a then some (HO.frz { cls := .type "list", data := .seq vs.toArray } (.lst (ns.map V.int))) else none) b ≠ none → b = a := fun b q => by
      by_cases hb : b = a
      · exact hb
      · exact absurd (if_neg hb) q
    refine main (fun b => if b = a then some (.frz { cls := .type "list", data := .seq vs.toArray } (.lst (ns.map V.int))) else none) (fun b => ?_) (.inl (.inr ⟨{ cls := .type "list", data := .seq vs.toArray }, if_pos rfl⟩)) (fun b u q => ?_) here (fun _ => hk)
    · by_cases hb : b = a
      · exact .inr ⟨_, _, if_pos hb⟩
      · exact .inl (if_neg hb)
    · by_cases hb : b = a
      · subst hb
        have q2 := (if_pos rfl).symm.trans q
        cases q2
        exact ⟨ha, by rw [List.length_map]; exact hl, vs, _, rv, ha⟩
      · cases (if_neg hb).symm.trans q
theorem walk_ofN {l : PySem.W.OpenLaw} {n k : Nat} {q : Program} {loose : List Str} {XP : (Str → Option Value) → Heap → Prop} {YP : World → Heap → Prop} {d : DefRec} {K : Params → PySem.W.Frag} {sp : World → Sp} {x : Str}
    (hn : l.most = some n) (hz : n ≤ sizeLine) (nd : d.params.defaults = []) (hr : Room k callerA) (hY : ∀ (w : World) (h : Heap), YP w h → (K w.params).In h)
    (F : ∀ (w : World) (mg : Str → Option Value) (fa : Addr) (h : Heap), (K w.params).In h → h.Ns mainGlobals mg → mg d.name = some (.ref fa) →
      ∃ fd : FuncData, (∀ (s : Shared) (u : Value), BindsTo s fd ⟨[u], []⟩ [(x, u)]) ∧ ∀ base : Heap, (K w.params).In base → base.Ns mainGlobals mg → FnG l.prog w (K w.params) mg base k fa fd [x] (sp w))
    (hsp : ∀ (w : World) (H : Hp) (a : Addr) (ns : List Int), ns.length ≤ n → Only H → SqL (K w.params) H a (ns.map V.int) → sp w [.ref a] H (fun v _ => v = .bl true) fun _ _ _ => False) :
    PySem.W.WalkO q loose XP YP l.row.toRowW d [] (fun f vs => PySem.call f vs) := by
  refine Att.attach_call hn nd fun w t0 t1 mg mb fa o pm cd doc a vs ns G Y ho hd hcd hmg hobj hints hlen hg => ?_
  have KX := hY w _ Y
  obtain ⟨fd, hb, hF⟩ := F w mg fa _ KX G.T.g hmg
  exact law_callN KX G.T.g G.T.b G.T.builtins G.T.nolimit hg hobj hints (Nat.le_trans hlen hz) hr hF hb fun H hO hS => hsp w H a ns hlen hO hS
end L2

namespace L2
open PySem PySem.Spec PyProof.Rows
section
variable {X : Cx}
/-- repr(x), nothing being shown around -/
def rRepr (K : PySem.W.Frag) : List V → Hp → VK → Prop := fun xs H Q => ∃ (v : V) (d : PyData), xs = [v] ∧ Dp K H v d ∧ SeqAt.shaped d = true ∧ d.showable = true ∧ d.hasDict = false ∧ d.shown.length ≤ sizeLine ∧ (∀ i, d = .int i → i.natAbs.log2 < 1920) ∧ Q (.str d.shown) H
theorem call_reprN (hN : X.A.guards = some []) {k : Nat} (hr : Room k X.A) : CallR X (.builtin "repr") (rRepr X.K) := by
  intro pins s σ H xs us Q I r h
  obtain ⟨v, d, rfl, hd, sh, hs, hh, hz, hi, q⟩ := h
  obtain ⟨u, rfl, ru⟩ := vals1 r
  have hu := hr.un
  have dp : d.depth ≤ 64 := by
    have e : (d.canLay0 && decide (d.depth ≤ 64)) = true := sh
    rw [Bool.and_eq_true] at e
    exact of_decide_eq_true e.2
  cases hd with
  | non =>
    obtain rfl : u = Value.none := ru
    exact PySem.P.repr_of_none ⟨.str _, H, I.tok _, ⟨_, rfl⟩, q⟩
  | bl b =>
    obtain rfl : u = Value.bool b := ru
    refine PySem.P.repr_of_bool ⟨.str _, H, I.tok _, ⟨_, rfl⟩, ?_⟩
    cases b <;> exact q
  | int i =>
    obtain ⟨t, rfl⟩ := ru
    exact PySem.P.repr_of_int (hi i rfl) ⟨.str _, H, I.tok _, ⟨_, rfl⟩, q⟩
  | str x =>
    obtain ⟨t, rfl⟩ := ru
    exact PySem.P.repr_of_str ⟨.str _, H, I.tok _, ⟨_, rfl⟩, q⟩ hz
  | @lst a xs ds h1 h2 =>
    obtain ⟨as, rd⟩ := Dp.reads I (.list ds) (.ref a) u (.lst h1 h2) ru
    obtain rfl : u = Value.ref a := ru
    exact repr_of_reads' rd hs (fun z => by rw [hh] at z; cases z) hN (by omega) (fun _ _ e => e) (fun h' u tk k => ⟨.str _, H, I.kept (t' := tk) k, ⟨u, rfl⟩, q⟩) hz
  | @tup a xs ds h1 h2 =>
    obtain ⟨as, rd⟩ := Dp.reads I (.tuple ds) (.ref a) u (.tup h1 h2) ru
    obtain rfl : u = Value.ref a := ru
    exact repr_of_reads' rd hs (fun z => by rw [hh] at z; cases z) hN (by omega) (fun _ _ e => e) (fun h' u tk k => ⟨.str _, H, I.kept (t' := tk) k, ⟨u, rfl⟩, q⟩) hz
end
end L2
set_option Elab.async false
set_option linter.all false
set_option maxRecDepth 100000
set_option maxHeartbeats 4000000
namespace L2
open PySem PySem.Spec PyProof.Rows
/-- an empty set, as set() lays it -/
abbrev noneIn (w : World) : Obj := { cls := .type "set", dict := none, data := .set #[] 0 (.fresh 0 0 (!w.params.followText "set-order")) }
abbrev lay1 (w : World) (h : Heap) : Heap := h.push (noneIn w)
section
variable {P : Program} {w : World} {A : Around} {E : Value → Shared → Prop} {s : Shared}
set_option maxHeartbeats 3200000 in
/-- set(xs) of a list of ints -/
theorem set_ofList {l : Addr} {its : Array Value} (ns : List Int) {Q : Value → Shared → Prop} (calm : A.handled = none) (isl : s.heap.IsList l its) (isI : IntsAre its.toList ns) (few : ns.length + 1 < scanBound)
    (fin : ∀ (g : Heap) (tk m : Nat), SetR w g s.heap.objs.size (fun j => decide (j ∈ ns)) m → m ≤ ns.length → (∀ b o, s.heap.get? b = some o → g.get? b = some o) → Q (.ref s.heap.objs.size) { s with heap := g, toks := tk }) :
    wpAny (model P w) A (call (.type "set") [.ref l]) Q E s := by
  have size : its.size = ns.length := (Array.length_toList (xs := its)).symm.trans (IntsAre.length isI)
  obtain ⟨c0, t0, mro0⟩ := F.called_set.mro
  have made0 := F.called_set.made
  have sub0 := F.called_set.sub
  refine wpAny_call (codeAny_of_tree ?_)
  show wpAny _ _ (callAny (.type "set") _) _ _ _
  refine wpAny_pure ⟨Code.quiet_builtin _ (by decide +kernel), codeAny_builtin F.entry_type_call ?_⟩
  rw [Around.under_plain (weight_type_call_type "set" [.ref l] []) rfl]
  have k1 := F.called_set.notType
  have k2 := F.called_set.canCreate
  have k3 := F.typeCall_set_1 (.ref l)
  repeat (any_goals (first | assumption | wp_step))
  refine codeAny_mono (code_set_led1 (.ref l) (E := E) (Q₁ := fun v u => v = .ref s.heap.objs.size ∧ u = { s with heap := lay1 w s.heap }) ⟨rfl, rfl⟩) fun r u hr => ?_
  cases r with
  | error e => exact hr
  | ok fl =>
    cases fl with
    | ret v =>
      obtain ⟨rfl, rfl⟩ := hr
      have at0 : (lay1 w s.heap).get? s.heap.objs.size = some (noneIn w) := Heap.get?_push_size _ rfl
      have isT : Shared.TypeIs { s with heap := lay1 w s.heap } (.ref s.heap.objs.size) "set" := ⟨_, at0, rfl⟩
      have k4 := F.called_set.init.lookup
      have k5 := F.called_set.init.bind (.ref s.heap.objs.size)
      repeat (any_goals (first | assumption | wp_step))
      refine codeAny_mono (codeAny_call_builtin (R := wants (fun r u => r = .none ∧ ∃ g tk m, u = { s with heap := g, toks := tk } ∧ SetR w g s.heap.objs.size (fun j => decide (j ∈ ns)) m ∧ m ≤ ns.length ∧ (∀ b o, s.heap.get? b = some o → g.get? b = some o)) E)
        F.called_set.init.plain F.entry_set_init (check_set_init_1 isT ?_)) fun r2 u2 hr2 => ?_
      · obtain ⟨⟨cl, di, da, sl⟩, el, hcl, nl, hda⟩ := isl
        simp only at hcl hda
        subst hcl
        subst hda
        have el1 : (lay1 w s.heap).get? l = some { cls := .type "list", dict := di, data := .seq its nl, slots := sl } := Heap.get?_push_of_some _ el
        have k6 := F.sub_list_set
        have k7 := F.sub_list_frozenset
        have k8 : (Value.type "list" == Value.type "dict") = false := by decide
        have isl1 : (lay1 w s.heap).IsList l its := ⟨_, el1, rfl, nl, rfl⟩
        unfold Builtin.«set.__init__» noKeywords Builtin.Frozenset.updateFrom
        generalize hPI : pyIter = PI
        wp_walk
        subst hPI
        refine wpAny_pyIter_list isl1 (wpAny_bind (wpAny_runValue ?_))
        have old : l < s.heap.objs.size := Heap.lt_size el
        have calm3 : A.in1.in1.in1.handled = none := by simp [calm]
        have sz1 : (lay1 w s.heap).objs.size = s.heap.objs.size + 1 := Heap.size_push ..
        have apart : l ≠ (lay1 w s.heap).objs.size := by rw [sz1]; exact Nat.ne_of_lt (Nat.lt_succ_of_lt old)
        have clear : s.heap.objs.size ∉ [(lay1 w s.heap).objs.size, l] := by
          rw [sz1]
          simp only [List.mem_cons, List.not_mem_nil, or_false, not_or]
          exact ⟨Nat.ne_of_lt (Nat.lt_succ_self _), Nat.ne_of_gt old⟩
        have vals : ∀ (i : Nat) (v : Value), its[i]? = some v → ∃ k t, ns[i]? = some k ∧ v = .int k t := fun i v hv => by
          have lt : i < ns.length := by rw [← size]; exact (Array.getElem?_eq_some_iff.mp hv).1
          obtain ⟨t, e⟩ := PyProof.Rows.IntsAre.int_at isI i v (by rw [Array.getElem?_toList]; exact hv)
          exact ⟨ns[i], t, List.getElem?_eq_getElem lt, by rw [e, List.getD_eq_getElem?_getD, List.getElem?_eq_getElem lt]; rfl⟩
        refine set_update_ints ((Walks.list calm3 _ l apart its).toS) s.heap.objs.size clear ns size few vals (its.size - 0) 0 _ (by omega) (Nat.zero_le _) ⟨⟨_, Heap.get?_push_size _ rfl, rfl, rfl⟩, isl1.push _⟩ ?first ?last
        case first => exact ⟨0, Nat.le_refl 0, setR_new_at (Heap.get?_push_of_some _ at0)⟩
        case last =>
          intro u m mv hm R
          obtain ⟨g, g2, d2, tk, os2⟩ := u
          obtain rfl : g2 = s.gens := mv.gens
          obtain rfl : d2 = s.drawn := mv.drawn
          obtain rfl : os2 = s.os := mv.os
          show wpAny _ _ _ _ _ _
          refine wpAny_pure ?_
          show wpAny _ _ (ret Value.none) _ _ _
          rw [size] at hm
          refine wpAny_pure ⟨rfl, g, tk, m, rfl, R, hm, fun b o e => ?_⟩
          have lt := Heap.lt_size e
          refine mv.heap b o ?_ (Heap.get?_push_of_some _ (Heap.get?_push_of_some _ e))
          simp only [List.mem_cons, List.not_mem_nil, or_false, not_or]
          rw [sz1]
          exact ⟨Nat.ne_of_lt lt, Nat.ne_of_lt (Nat.lt_succ_of_lt lt)⟩
      · cases r2 with
        | error e => exact hr2
        | ok f2 =>
          cases f2 with
          | ret r =>
            obtain ⟨rfl, g, tk, m, rfl, R, hm, kp⟩ := hr2
            repeat (any_goals (first | assumption | wp_step))
            exact fin _ _ _ R hm kp
          | _ => exact hr2.elim
    | _ => exact hr.elim
end
section
variable {X : Cx}
/-- set(xs), a list of ints -/
def rSetOf (K : PySem.W.Frag) (w : World) : List V → Hp → VK → Prop := fun xs H Q => ∃ (l : Addr) (ns : List Int), xs = [V.ref l] ∧ SqL K H l (ns.map V.int) ∧ ns.length < 64 ∧
  ∀ (a : Addr) (S : Int → Bool) (n : Nat), H a = none → (∀ k, S k = true ↔ k ∈ ns) → n ≤ ns.length → Q (.ref a) (upd H a (SetO w a S n))
theorem cr_setL (hc : X.calm = true) : CallR X (.type "set") (rSetOf X.K X.w) := by
  intro pins s σ H xs us Q I r h
  obtain ⟨l, ns, rfl, hq, few, q⟩ := h
  rw [Vals.ref1 r]
  obtain ⟨its, rv, pl, hz⟩ := I.list hq
  refine set_ofList ns (I.ok.hd hc) pl.isList (by simpa using ints_of_vals rv) (by unfold scanBound; omega) fun g tk m R hm kp => ?_
  have nH : H s.heap.objs.size = none := I.hok.fresh (Nat.le_refl _)
  exact ⟨.ref _, _, I.laid (t' := tk) kp (Nat.le_refl _) (setO_new R), rfl, q _ _ m nH (fun k => decide_eq_true_iff) hm⟩
end
end L2
set_option Elab.async false
set_option linter.all false
set_option maxRecDepth 100000
set_option maxHeartbeats 4000000
namespace L2
open PySem PySem.Spec PyProof.Rows
section
variable {X : Cx}
/-- the walk of a list or a tuple -/
theorem pi_or {tg iter : Expr} {w1 w2 : TI} (h1 : PI X tg iter w1) (h2 : PI X tg iter w2) : PI X tg iter (fun σ H R => w1 σ H R ∨ w2 σ H R) :=
  ⟨fun pins s σ H R I h => h.elim (h1.run pins s σ H R I) (h2.run pins s σ H R I)⟩
end
end L2
namespace Evl
open PySem L2
def EvD (te : TE) (σ : L2.St) (H : Hp) (kvs : List (Key × V)) : Prop := ∀ H1, Ex H H1 → ∀ Q : VK, (∀ p H2, H1 p = none → Ex H1 H2 → H2 p = some (.dK kvs) → Q (.ref p) H2) → te σ H1 Q
section
variable {K : PySem.W.Frag} {σ : L2.St} {H H' : Hp} {ta tb te tx : TE} {t u : TT} {x y z v : V}
theorem EvU.mono {xs : List V} (e : Ex H H') (h : EvU te σ H xs) : EvU te σ H' xs := fun H1 a Q q => h H1 (e.trans a) Q q
theorem ev_fld {f : Str} {a C dx : Addr} {fs : List (Str × V)} (ha : Ev ta σ H (.ref a)) (he : H a = some (.ins C dx fs)) (c : Cls K C) (n : NoAttr K C f) (l : fs.lookup f = some v) : Ev (tFld K ta f) σ H v := fun H1 e Q q =>
  ha H1 e _ fun H2 e2 => ⟨a, C, dx, fs, v, rfl, (e.trans e2) _ _ he, c, n, l, q H2 e2⟩
theorem ev_dget {d : Addr} {kvs : List (Key × V)} {i : Int} (hd : Ev ta σ H (.ref d)) (hk : Ev tb σ H (.int i)) (e0 : H d = some (.dK kvs)) (h : valV kvs (Sum.inl i) = some v) : Ev (tDGet ta tb) σ H v := fun H1 e Q q =>
  hd H1 e _ fun H2 e2 => hk H2 (e.trans e2) _ fun H3 e3 => ⟨d, v, rfl, by
    have g := DGet.k (k := Sum.inl i) (((e.trans e2).trans e3) _ _ e0)
    rw [h] at g
    exact g, q H3 (e2.trans e3)⟩
theorem ev_din {d : Addr} {kvs : List (Key × V)} {i : Int} (hk : Ev tb σ H (.int i)) (hd : Ev ta σ H (.ref d)) (e0 : H d = some (.dK kvs)) : Ev (tDIn tb ta) σ H (.bl (valV kvs (Sum.inl i)).isSome) := fun H1 e Q q =>
  hk H1 e _ fun H2 e2 => hd H2 (e.trans e2) _ fun H3 e3 => ⟨d, _, rfl, DGet.k (k := Sum.inl i) (((e.trans e2).trans e3) _ _ e0), q H3 (e2.trans e3)⟩
theorem ev_isN (h : Ev ta σ H x) : Ev (tIsN ta) σ H (.bl (decide (x = .non))) := fun H1 e Q q => h H1 e _ fun H2 e2 => q H2 e2
/-- which items of xs give -/
def pick {α : Type} (xs : List α) (p : α → Bool) (i : Nat) : Bool := match xs[i]? with
  | some a => p a
  | none => false
def pickV {α : Type} (xs : List α) (g : α → V) (i : Nat) : V := match xs[i]? with
  | some a => g a
  | none => .non
theorem given_pick {α : Type} (p : α → Bool) (g : α → V) : ∀ (xs : List α), given xs.length (pick xs p) (pickV xs g) = (xs.filter p).map g := by
  intro xs
  have key : ∀ n, n ≤ xs.length → given n (pick xs p) (pickV xs g) = ((xs.take n).filter p).map g := by
    intro n
    induction n with
    | zero => intro _; simp [given]
    | succ n ih =>
      intro hn
      have hlt : n < xs.length := hn
      have e : xs[n]? = some xs[n] := List.getElem?_eq_getElem hlt
      have tk : xs.take (n + 1) = xs.take n ++ [xs[n]] := by rw [List.take_add_one, e]; rfl
      have pk : pick xs p n = p xs[n] := by unfold pick; rw [e]
      have pv : pickV xs g n = g xs[n] := by unfold pickV; rw [e]
      rw [tk, List.filter_append, List.map_append]
      cases hp : p xs[n] with
      | true =>
        rw [given_yes (by rw [pk]; exact hp), ih (Nat.le_of_lt hlt), pv]
        simp [hp]
      | false =>
        rw [given_no (by rw [pk]; exact hp), ih (Nat.le_of_lt hlt)]
        simp [hp]
  rw [key xs.length (Nat.le_refl _), List.take_length]
/-- [e for x in xs if t], xs a list that stands: by its items -/
theorem el_lcG {α : Type} {a : Addr} {xs : List α} {tl : TE} {j : Nat} {vs : List Nat} (emb : α → V) (p : α → Bool) (g : α → V) (h : Ev tl σ H (.ref a)) (hx : SqL K H a (xs.map emb)) (hz : xs.length ≤ 40000) (hw : ∀ x, wipe ((wipe σ vs).set j (some x)) vs = wipe σ vs)
    (ht : ∀ b ∈ xs, ∀ H1, Ex H H1 → EvT t ((wipe σ vs).set j (some (emb b))) H1 (p b)) (he : ∀ b ∈ xs, p b = true → ∀ H1, Ex H H1 → Ev te ((wipe σ vs).set j (some (emb b))) H1 (g b)) :
    EvL (tLc (iList K tl) (gName j) t te vs) σ H ((xs.filter p).map g) := by
  have len : (xs.map emb).length = xs.length := List.length_map _
  have at_ : ∀ {i : Nat} {x : V}, (xs.map emb)[i]? = some x → ∃ b, xs[i]? = some b ∧ b ∈ xs ∧ x = emb b := fun {i x} e => by
    rw [List.getElem?_map] at e
    obtain ⟨b, e1, e2⟩ := Option.map_eq_some_iff.mp e
    exact ⟨b, e1, List.mem_of_getElem? e1, e2.symm⟩
  have r := el_lcL (K := K) (xs := xs.map emb) (te := te) (t := t) (j := j) (vs := vs) (pick xs p) (pickV xs g) h hx (by rw [len]; exact hz) hw (fun i x H1 e1 hi => by
      obtain ⟨b, eb, mb, rfl⟩ := at_ hi
      have pk : pick xs p i = p b := by unfold pick; rw [eb]
      rw [pk]
      exact ht b mb H1 e1) (fun i x H1 e1 hi hf => by
      obtain ⟨b, eb, mb, rfl⟩ := at_ hi
      have pk : pick xs p i = p b := by unfold pick; rw [eb]
      have pv : pickV xs g i = g b := by unfold pickV; rw [eb]
      rw [pv]
      exact he b mb (by rw [← pk]; exact hf) H1 e1)
  rw [len, given_pick] at r
  exact r
/-- the same over a new list -/
theorem el_lcGN {α : Type} {xs : List α} {tl : TE} {j : Nat} {vs : List Nat} (emb : α → V) (p : α → Bool) (g : α → V) (h : EvL tl σ H (xs.map emb)) (hz : xs.length ≤ 40000) (hw : ∀ x, wipe ((wipe σ vs).set j (some x)) vs = wipe σ vs)
    (ht : ∀ b ∈ xs, ∀ H1, Ex H H1 → EvT t ((wipe σ vs).set j (some (emb b))) H1 (p b)) (he : ∀ b ∈ xs, p b = true → ∀ H1, Ex H H1 → Ev te ((wipe σ vs).set j (some (emb b))) H1 (g b)) :
    EvL (tLc (iList K tl) (gName j) t te vs) σ H ((xs.filter p).map g) := by
  have len : (xs.map emb).length = xs.length := List.length_map _
  have at_ : ∀ {i : Nat} {x : V}, (xs.map emb)[i]? = some x → ∃ b, xs[i]? = some b ∧ b ∈ xs ∧ x = emb b := fun {i x} e => by
    rw [List.getElem?_map] at e
    obtain ⟨b, e1, e2⟩ := Option.map_eq_some_iff.mp e
    exact ⟨b, e1, List.mem_of_getElem? e1, e2.symm⟩
  have r := el_lcNL (K := K) (xs := xs.map emb) (te := te) (t := t) (j := j) (vs := vs) (pick xs p) (pickV xs g) h (by rw [len]; exact hz) hw (fun i x H1 e1 hi => by
      obtain ⟨b, eb, mb, rfl⟩ := at_ hi
      have pk : pick xs p i = p b := by unfold pick; rw [eb]
      rw [pk]
      exact ht b mb H1 e1) (fun i x H1 e1 hi hf => by
      obtain ⟨b, eb, mb, rfl⟩ := at_ hi
      have pk : pick xs p i = p b := by unfold pick; rw [eb]
      have pv : pickV xs g i = g b := by unfold pickV; rw [eb]
      rw [pv]
      exact he b mb (by rw [← pk]; exact hf) H1 e1)
  rw [len, given_pick] at r
  exact r
theorem et_yes : EvT tYes σ H true := fun H1 _ _ q => q H1 (Ex.refl H1)
theorem filter_all {α : Type} (xs : List α) : xs.filter (fun _ => true) = xs := List.filter_eq_self.mpr fun _ _ => rfl
/-- sorted(set(xs)) of a new list of ints -/
theorem el_sset {w : World} {ns : List Int} {tl : TE} (h : EvL tl σ H (ns.map V.int)) (hz : ns.length < 64) : EvL (tCB (rSortedSet w) (tCons (tCB (rSetOf K w) (tCons tl tNil)) tNil)) σ H ((KB.asc ns).map V.int) := fun H1 e Q q =>
  h H1 e _ fun p H2 np e2 hp => ⟨p, ns, rfl, sq_of hp, hz, fun a S n na hS hn => ⟨a, S, n, rfl, upd_same, by omega, fun ys r so hm hl nr => by
    have ey : ys = KB.asc ns := KB.asc_eq so fun k => (hm k).trans (hS k)
    subst ey
    have e3 : Ex H1 (upd H2 a (SetO w a S n)) := e2.trans (Ex.new na)
    exact q r _ (fresh_back e3 nr) (e3.trans (Ex.new nr)) upd_same⟩⟩
end
end Evl
set_option Elab.async false
set_option linter.all false
set_option maxRecDepth 100000
set_option maxHeartbeats 4000000
namespace PySem
namespace EVX
open PySem.W PySem.Calls PyProof.Rows PySem.HandSPX Builtin Builtin.ObjectAttr
section
variable {prog : Program} {w : World} {A : Around} {R : Result → Shared → Prop} {hp : Heap}
variable {g : Array GenState} {d : Drawn} {t : Nat} {os : OsState} {B : String} {bmB : List Value}
/-- the first field of an exception object, whatever built-in class stands above its own -/
theorem first_field {K : Frag} {nm : Str} {tk : Tok} {v : Value} {x C : Addr} {fv : Array Value}
    (SF : StoreFacts B bmB "object.__setattr__" "object") (KI : K.In hp)
    (hx : hp.get? x = some { cls := .ref C, data := .fields fv })
    (ho : excOver K C bmB = true) (hh : hasDictIn K C = true) (ha : findIn K (.ref C) nm = some none)
    (hq : ∀ h' tk' dx, (∀ b o, b ≠ x → hp.get? b = some o → h'.get? b = some o) → hp.objs.size ≤ dx → dx ≠ x →
      h'.get? x = some { cls := .ref C, dict := some dx, data := .fields fv } →
      h'.Ns1 dx (fun y => if y = nm then some v else none) → R (.ok (.ret .none)) ⟨h', g, d, tk', os⟩) :
    codeAny (model prog w) A (.call (.builtin "object.__setattr__") ⟨[.ref x, .str nm tk, v], []⟩) R ⟨hp, g, d, t, os⟩ := by
  have far : x ≠ hp.objs.size := Nat.ne_of_lt (Heap.lt_size hx)
  obtain ⟨cd, hc, hd⟩ := any_some hh
  have here : Looks (model prog w) hp (classData C) cd := looks_clsIn KI hc
  refine osa_openX (s := ⟨hp, g, d, t, os⟩) (od := none) (r := none) SF KI ⟨hx, rfl, rfl, trivial⟩ ho (by unfold takerIn; rw [ha]; rfl) (fun b => ?_)
  show wpAny _ _ (storeInOwnDict (.ref x) (.ref C) (.str nm tk) nm v b) _ _ _
  obtain ⟨c1, c2, c3, c4, c5, c6, c7, c8, c9, c10, c11⟩ := cd
  dsimp only at hd
  subst hd
  unfold storeInOwnDict ownDictForStores
  repeat (first | with_reducible refine store_in_new ?_ ?_ | with_reducible refine wpAny_loadPart_at hx ?_ | with_reducible refine here.at ?_ | wp_step)
  · exact ⟨_, #[], _, (Heap.get?_update_ne _ _ _ _ far.symm).trans (Heap.get?_push_at rfl rfl),
      rfl, fun e he => absurd he (by simp), fun _ => rfl⟩
  · intro h' tk' hn same
    have old : (hp.push { cls := .type "dict", data := .dict #[] }).get? x = some { cls := .ref C, data := .fields fv } := Heap.get?_push_of_some _ hx
    refine hq h' tk' hp.objs.size (fun b o hb e => ?_) (Nat.le_refl _) far.symm ?_ hn
    · have q1 := same.2 b (Nat.ne_of_lt (Heap.lt_size e))
      rw [q1, Heap.get?_update_ne _ _ _ _ hb]
      exact Heap.get?_push_of_some _ e
    · rw [same.2 x far]
      exact Heap.get?_update_self _ old rfl
end
end EVX
end PySem

set_option Elab.async false
set_option linter.all false
set_option maxRecDepth 100000
set_option maxHeartbeats 4000000
namespace PySem
namespace EVX
open PySem.W PySem.Calls PyProof.Rows PySem.HandSPX Builtin Builtin.ObjectAttr
section
variable {M : Model} {prog : Program} {w : World} {A : Around} {E : Value → Shared → Prop} {R : Result → Shared → Prop} {h : Heap}
variable {g : Array GenState} {d : Drawn} {t : Nat} {os : OsState} {nm q : Str} {C N : Addr} {bs bm bmB : List Value}
variable {hdct : Bool} {sn : List Str} {sub : List Value} {ab : Bool} {col : Option Bool} {dd : Option Addr}
variable {k0 k1 k2 k3 k5 : Option Value} {B newId initId : String} {kn : Str} {kv : Value}
/-- the look at the arguments of __new__, one keyword -/
theorem kw_look (F : ExcBaseFacts B newId initId bmB) (hT : ∀ T : String, bm.contains (.type T) = bmB.contains (.type T)) {Q : Unit → Shared → Prop}
    (hC : h.get? C = some (excClassObj nm q C N bs bm hdct sn sub ab col dd k0 k1 k2 k3 k5 newId)) (go : Q () ⟨h, g, d, t, os⟩) :
    wpAny M A (checkBuiltinCall newId ⟨[.ref C], [(kn, kv)]⟩) Q E ⟨h, g, d, t, os⟩ := by
  have inB : (Value.ref C :: bm).contains (.type B) = true := by
    rw [List.contains_cons, hT, F.hasB, Bool.or_true]
  have star := F.noStar
  simp only [checkBuiltinCall, F.newKind, F.newSplit, F.newRow]
  repeat (first | refine wpAny_loadPart_at hC ?_ | (refine wpAny_isSubtype_exc hC ?_; rw [inB]) | refine wpAny_staticBase_exc hC ?_ | refine wpAny_madeBy_exc hC ?_ | simp only [bne_self_eq_false, Bool.false_eq_true, if_false] | wp_step)
  exact go
theorem kw_new (F : ExcBaseFacts B newId initId bmB) (hT : ∀ T : String, bm.contains (.type T) = bmB.contains (.type T))
    (hC : h.get? C = some (excClassObj nm q C N bs bm hdct sn sub ab col dd k0 k1 k2 k3 k5 newId))
    (go : R (.ok (.ret (.ref (h.objs.size + 1)))) ⟨(h.push (W.kdv_tup [])).push (excO C h.objs.size), g, d, t, os⟩) :
    codeAny (model prog w) A (.builtin newId ⟨[.ref C], [(kn, kv)]⟩) R ⟨h, g, d, t, os⟩ := by
  have hends := F.ends
  have inB : (Value.ref C :: bm).contains (.type B) = true := by
    rw [List.contains_cons, hT, F.hasB, Bool.or_true]
  have noA : (Value.ref C :: bm).contains (.type "AttributeError") = false := by
    rw [List.contains_cons, hT, F.noAttr]; rfl
  have noN : (Value.ref C :: bm).contains (.type "NameError") = false := by
    rw [List.contains_cons, hT, F.noName]; rfl
  refine codeAny_builtinAt F.entry ?_
  unfold Builtin.«BaseException.__new__»
  refine wpAt_bind ?_
  show wpAt _ _ _ (stack >>= _) _ _ _
  refine wpAt_bind (wpAt_stack fun p below => wpAt_of_wpAny ?_)
  wp_walk
  refine wpAt_of_wpAny ?_
  rw [F.owner]
  repeat (first | with_reducible refine wpAny_madeHere_exc F.canon hC ?_ | with_reducible refine wpAny_loadPart_at hC ?_ | (with_reducible refine wpAny_isSubtype_exc hC ?_; first | rw [inB] | rw [noA] | rw [noN]) | wp_step)
  show R _ _
  rw [Heap.size_push]
  exact go
theorem kw_type {fI : Addr} {Q : Fin → Shared → Prop} (F : ExcBaseFacts B newId initId bmB) (hT : ∀ T : String, bm.contains (.type T) = bmB.contains (.type T))
    (hC : h.get? C = some (excClassObj nm q C N bs bm hdct sn sub ab col dd k0 k1 k2 k3 k5 newId))
    (hi : W.Looks (model prog w) h (typeLookup (.ref C) "__init__") (some (.ref fI))) (hb : ∀ self, W.Looks (model prog w) h (bindSpecial (.ref fI) self) (.ref fI, [self]))
    (go : codeAny (model prog w) A (.call (.ref fI) ⟨[.ref (h.objs.size + 1)], [(kn, kv)]⟩)
      (fun r s' => match r with | .ok (.ret v) => v = .none ∧ Q (.done (.ret (.ref (h.objs.size + 1)))) s' | .ok _ => False | .error e => E e s')
      ⟨(h.push (W.kdv_tup [])).push (excO C h.objs.size), g, d, t, os⟩) :
    wpAny (model prog w) A (Builtin.«type.__call__» ⟨[.ref C], [(kn, kv)]⟩) Q E ⟨h, g, d, t, os⟩ := by
  repeat (first | with_reducible refine wpAny_loadPart_at hC ?_ | with_reducible refine wpAny_madeBy_exc hC ?_ | wp_step)
  refine codeAny_call_builtin_code (Code.quiet_builtin _ F.quiet) (kw_look F hT hC ?_)
  refine kw_new F hT hC ?_
  show wpAny _ _ _ _ _ _
  have up : ∀ b o, h.get? b = some o → ((h.push (W.kdv_tup [])).push (excO C h.objs.size)).get? b = some o := fun b o e => Heap.get?_push_of_some _ (Heap.get?_push_of_some _ e)
  have hC1 := up _ _ hC
  have new : ((h.push (W.kdv_tup [])).push (excO C h.objs.size)).get? (h.objs.size + 1) = some (excO C h.objs.size) := by heap_get
  have inC : (Value.ref C :: bm).contains (.ref C) = true := by simp
  have i1 := hi.keeps up
  have b1 := (hb (.ref (h.objs.size + 1))).keeps up
  unfold isInstance
  repeat (first | with_reducible refine wpAny_loadPart_at new ?_ | (with_reducible refine wpAny_isSubtype_exc hC1 ?_; rw [inC]) | wp_step)
  show wpAny _ _ (typeLookup (.ref C) _) _ _ _
  refine i1.at (wpAny_holding (wpAny_bind (b1.at (wpAny_bind (wpAny_call (codeAny_mono go fun r s' z => ?_))))))
  rcases r with e | (v | _ | _ | _) <;> first | exact z | exact z.elim | skip
  obtain ⟨rfl, z⟩ := z
  first | exact wpAny_pure (wpAny_pure z) | (wp_walk; exact z)
/-- C(kn=kv), C an own exception class whose __init__ is the def at fI -/
theorem kw_call {fI : Addr} (F : ExcBaseFacts B newId initId bmB) (hT : ∀ T : String, bm.contains (.type T) = bmB.contains (.type T))
    (hC : h.get? C = some (excClassObj nm q C N bs bm hdct sn sub ab col dd k0 k1 k2 k3 k5 newId))
    (hi : W.Looks (model prog w) h (typeLookup (.ref C) "__init__") (some (.ref fI))) (hb : ∀ self, W.Looks (model prog w) h (bindSpecial (.ref fI) self) (.ref fI, [self]))
    (go : codeAny (model prog w) (A.under (.builtin "type.__call__" ⟨[.ref C], [(kn, kv)]⟩)) (.call (.ref fI) ⟨[.ref (h.objs.size + 1)], [(kn, kv)]⟩) (W.InitBack (h.objs.size + 1) R)
      ⟨(h.push (W.kdv_tup [])).push (excO C h.objs.size), g, d, t, os⟩) :
    codeAny (model prog w) A (.call (.ref C) ⟨[], [(kn, kv)]⟩) R ⟨h, g, d, t, os⟩ := by
  have f1 := tc_lookup
  have f2 := tc_bind (.ref C)
  have isT : (⟨h, g, d, t, os⟩ : Shared).TypeIs (.ref C) "type" := ⟨_, hC, rfl⟩
  refine codeAny_of_tree ?_
  show wpAny _ _ (callAny (.ref C) _) _ _ _
  repeat (any_goals (first | assumption | with_reducible refine wpAny_loadPart_at hC ?_ | wp_step))
  refine ⟨rfl, ?_⟩
  refine codeAny_call_builtin_at (Code.quiet_builtin _ (by decide +kernel)) entry_typeCall (wpAny_check_type_call_sub hC (kw_type F hT hC hi hb ?_))
  refine codeAny_mono go fun r s' z => ?_
  rcases r with e | (v | _ | _ | _) <;> exact z
end
end EVX
end PySem

set_option Elab.async false
set_option linter.all false
set_option maxRecDepth 100000
set_option maxHeartbeats 4000000
namespace L2
open PySem PySem.Spec PyProof.Rows
/-- what the written part says of an own exception class at C, its __init__ at fI -/
structure ExK (K : PySem.W.Frag) (C fI : Addr) (bmB : List Value) (newId : String) : Prop where
  ini : PySem.W.excInitIn K C bmB newId = true
  ovr : PySem.W.excOver K C bmB = true
  sat : PySem.W.findIn K (.ref C) "__setattr__" = some (some (.builtin "object.__setattr__"))
  own : PySem.W.findIn K (.ref C) "__init__" = some (some (.ref fI))
  fun_ : PySem.W.typeIn K (.ref fI) = some (.type "function")
  kep : PySem.W.keepIn K (.ref C) = true
  isc : ExcC K C
section
variable {X : Cx} {pins : List (Addr × Obj)} {σ : St} {H : Hp} {s : Shared} {a C fI : Addr} {f : Str} {y : V} {u : Value}
variable {bmB : List Value} {newId B initId : String} {A : Around} {E : Value → Shared → Prop}
/-- self.f = y, on an exception without fields -/
theorem xst_run {Q : Unit → Shared → Prop} (SF : StoreFacts B bmB "object.__setattr__" "object") (T : ExK X.K C fI bmB newId) (I : Inv X pins σ H s)
    (e : H a = some (exo a C none)) (hno : PySem.W.findIn X.K (.ref C) f = some none) (ry : RelV y u)
    (h : ∀ dx s', H dx = none → dx ≠ a → Inv X pins σ (upd (upd H dx (exd dx [(f, y)])) a (exo a C (some dx))) s' → Q () s') :
    wpAny (model X.prog X.w) A (setAttr (.ref a) f u) Q E s := by
  obtain ⟨t1, at_⟩ := exo_at I.hok e
  obtain ⟨hp, g, d, t, os⟩ := s
  refine PySem.W.set_plain (od := none) I.kIn ⟨at_, rfl, rfl, trivial⟩ T.sat ?_
  refine PySem.EVX.first_field SF I.kIn at_ T.ovr T.isc.hd hno (fun h' tk' dx k big ne hx hn => ?_)
  have nod : H dx = none := I.hok.fresh big
  have low : ∀ {b : Addr} {o : Obj}, hp.get? b = some o → b ≠ dx := fun {b o} z => Nat.ne_of_lt (Nat.lt_of_lt_of_le (Heap.lt_size z) big)
  have nota : ∀ {b : Addr}, H b = none → b ≠ a := fun {b} z q => by
    rw [q, e] at z
    cases z
  have moved : Un X.fs [] H (upd (upd H dx (exd dx [(f, y)])) a (exo a C (some dx))) hp h' :=
    { keep := fun b o z n _ _ => k b o (nota n) z
      slot := fun b o z n _ _ => ⟨o.slots, k b o (nota n) z⟩
      free := fun b o z n _ => by
        rw [upd_ne (nota n), upd_ne (low z)]
        exact n
      there := fun b o z _ => by
        by_cases hb : b = a
        · exact hb ▸ ⟨_, hx⟩
        · exact ⟨o, k b o hb z⟩
      tups := fun b xs z => by
        rw [upd_ne (at_ne e z exo_tup), upd_ne (ne_of_none z nod)]
        exact z
      frzs := fun b o v z => by
        rw [upd_ne (at_ne e z exo_frz), upd_ne (ne_of_none z nod)]
        exact z
      tbls := fun b ps z => ⟨#[], by
        rw [upd_ne (at_ne e z exo_tbl), upd_ne (ne_of_none z nod), z]
        simp⟩ }
  refine h dx _ nod ne (I.un (t' := tk') moved fun b o z => ?_)
  by_cases hb : b = a
  · subst hb
    rw [upd_same] at z
    cases z
    exact exo_ok hx
  · rw [upd_ne hb] at z
    by_cases hd : b = dx
    · subst hd
      rw [upd_same] at z
      cases z
      exact exd_ok hn (relO_put (fs := []) ry fun _ => True.intro)
    · rw [upd_ne hd] at z
      refine (I.hok b o z).stay (fun c v hc q => k c v ?_ q) (fun c hc => ?_) (fun c xs hc => ?_)
      · rcases hc with hc | hc
        · exact hc ▸ hb
        · exact at_ne e hc exo_own
      · rw [upd_ne (at_ne e hc exo_own), upd_ne (ne_of_none hc nod)]
        exact hc
      · rw [upd_ne (at_ne e hc exo_tup), upd_ne (ne_of_none hc nod)]
        exact hc
/-- Base.__init__(self, ..) on an exception without fields -/
theorem xinit_run {us : List Value} {Q : Value → Shared → Prop} (FB : ExcBaseFacts B newId initId bmB) (T : ExK X.K C fI bmB newId) (I : Inv X pins σ H s)
    (e : H a = some (exo a C none)) (hl : us.length ≤ sizeLine) (h : ∀ s', Inv X pins σ H s' → Q .none s') :
    wpAny (model X.prog X.w) A (call (.builtin initId) (.ref a :: us)) Q E s := by
  obtain ⟨_, _, _, _, _, _, _, _, _, _, _, _, _, _, _, _, hC, hT⟩ := PySem.W.excInit_of I.kIn T.ini
  obtain ⟨t1, at_⟩ := exo_at I.hok e
  obtain ⟨hp, g, d, t, os⟩ := s
  refine wpAny_call (PySem.HandSPX.init_base FB hT hC at_ hl fun h' t2 k hx => ?_)
  have J := I.write (t' := t) (x := a) (e := a) (o := exo a C none) (by rw [e]; exact True.intro) (.inl rfl) k ⟨_, hx⟩ (exo_ok hx)
  have same : upd H a (exo a C none) = H := funext fun b => by
    by_cases hb : b = a
    · rw [hb, upd_same, e]
    · rw [upd_ne hb]
  rw [same] at J
  exact h _ J
/-- C(..): an exception, then its __init__ -/
theorem xmk_run {Q : VK} {us : List Value} {vs : List V} {k : Nat} {fd : FuncData} {ps : List Str} {sp : Sp} (FB : ExcBaseFacts B newId initId bmB) (T : ExK X.K C fI bmB newId)
    (G : FnOk X.prog X.w X.K X.mg X.base CX0 k fI fd ps sp) (hr : Room (k + 1) X.A) (hb : Binds X.K fd ps []) (I : Inv X pins σ H s) (r : Vals vs us) (hz : vs.length ≤ 1000)
    (h : ∀ a, H a = none → sp (.ref a :: vs) (upd H a (exo a C none)) (fun v H2 => v = .non ∧ Q (.ref a) H2) E0) :
    wpAny (model X.prog X.w) X.A (call (.ref C) us) (EP X pins σ Q) X.xe s := by
  obtain ⟨_, _, _, _, _, _, _, _, _, _, _, _, _, _, _, _, hC, hT⟩ := PySem.W.excInit_of I.kIn T.ini
  obtain ⟨hp, g, d, t, os⟩ := s
  have big : hp.objs.size ≤ hp.objs.size + 1 := Nat.le_succ _
  have hq := h (hp.objs.size + 1) (I.hok.fresh big)
  have up : ∀ b o, hp.get? b = some o → ((hp.push (PySem.W.kdv_tup us)).push (PySem.HandSPX.excO C hp.objs.size)).get? b = some o := fun b o z => Heap.get?_push_of_some _ (Heap.get?_push_of_some _ z)
  have new : ((hp.push (PySem.W.kdv_tup us)).push (PySem.HandSPX.excO C hp.objs.size)).get? (hp.objs.size + 1) = some (PySem.HandSPX.excO C hp.objs.size) := by heap_get
  have I2 := I.laid (t' := t) (a := hp.objs.size + 1) (o := exo (hp.objs.size + 1) C none) up big (exo_ok new)
  have r2 : Vals (V.ref (hp.objs.size + 1) :: vs) (Value.ref (hp.objs.size + 1) :: us) := .cons rfl r
  have hl : (Value.ref (hp.objs.size + 1) :: us ++ []).length = ps.length := by
    rw [List.append_nil, ← r2.length, G.len _ _ _ _ hq]
  have hus : us.length ≤ sizeLine := by
    rw [← Paired.length r, sizeLine_eq]
    omega
  have bnd := hb _ (Value.ref (hp.objs.size + 1) :: us) I2.kIn hl
  rw [List.append_nil] at bnd
  refine wpAny_call (PySem.HandSPX.call_own FB hT hC (PySem.W.looks_findIn I.kIn T.own) (fun self => PySem.W.bind_fn I.kIn self T.fun_) hus (codeAny_mono (G.run _ X.stack _ _ ⟨_, []⟩ _ _ _ E0 (hr.make C us []) (I2.env0.make C us []) bnd r2 hq) fun r s' z => ?_))
  cases r with
  | error er => exact z.elim
  | ok fl =>
    cases fl with
    | ret u =>
      obtain ⟨v, H', I3, rv, ev, q3⟩ := I2.after z
      subst ev
      exact ⟨rv, ⟨V.ref (hp.objs.size + 1), H', I3, rfl, q3⟩⟩
    | next => exact z.elim
    | brk => exact z.elim
    | cont => exact z.elim
/-- C(kn=y) -/
theorem xmk_kw {Q : VK} {kn : Str} {k : Nat} {fd : FuncData} {ps : List Str} {sp : Sp} (FB : ExcBaseFacts B newId initId bmB) (T : ExK X.K C fI bmB newId)
    (G : FnOk X.prog X.w X.K X.mg X.base CX0 k fI fd ps sp) (hr : Room (k + 1) X.A) (hb : ∀ (s : Shared) (v w : Value), BindsTo s fd ⟨[v], [(kn, w)]⟩ (ps.zip [v, w])) (I : Inv X pins σ H s) (r : RelV y u)
    (h : ∀ a, H a = none → sp [.ref a, y] (upd H a (exo a C none)) (fun v H2 => v = .non ∧ Q (.ref a) H2) E0) :
    wpAny (model X.prog X.w) X.A (call (.ref C) [] [(kn, u)]) (EP X pins σ Q) X.xe s := by
  obtain ⟨_, _, _, _, _, _, _, _, _, _, _, _, _, _, _, _, hC, hT⟩ := PySem.W.excInit_of I.kIn T.ini
  obtain ⟨hp, g, d, t, os⟩ := s
  have big : hp.objs.size ≤ hp.objs.size + 1 := Nat.le_succ _
  have hq := h (hp.objs.size + 1) (I.hok.fresh big)
  have up : ∀ b o, hp.get? b = some o → ((hp.push (PySem.W.kdv_tup [])).push (PySem.HandSPX.excO C hp.objs.size)).get? b = some o := fun b o z => Heap.get?_push_of_some _ (Heap.get?_push_of_some _ z)
  have new : ((hp.push (PySem.W.kdv_tup [])).push (PySem.HandSPX.excO C hp.objs.size)).get? (hp.objs.size + 1) = some (PySem.HandSPX.excO C hp.objs.size) := by heap_get
  have I2 := I.laid (t' := t) (a := hp.objs.size + 1) (o := exo (hp.objs.size + 1) C none) up big (exo_ok new)
  have r2 : Vals [V.ref (hp.objs.size + 1), y] [Value.ref (hp.objs.size + 1), u] := .cons rfl (.cons r .nil)
  refine wpAny_call (PySem.EVX.kw_call FB hT hC (PySem.W.looks_findIn I.kIn T.own) (fun self => PySem.W.bind_fn I.kIn self T.fun_) (codeAny_mono (G.run _ X.stack _ _ ⟨[_], [(kn, u)]⟩ [_, u] _ _ E0 (hr.make C [] [(kn, u)]) (I2.env0.make C [] [(kn, u)]) (hb _ _ _) r2 hq) fun r s' z => ?_))
  cases r with
  | error er => exact z.elim
  | ok fl =>
    cases fl with
    | ret u =>
      obtain ⟨v, H', I3, rv, ev, q3⟩ := I2.after z
      subst ev
      exact ⟨rv, ⟨V.ref (hp.objs.size + 1), H', I3, rfl, q3⟩⟩
    | next => exact z.elim
    | brk => exact z.elim
    | cont => exact z.elim
end
end L2

set_option Elab.async false
set_option linter.all false
set_option maxRecDepth 100000
set_option maxHeartbeats 4000000
namespace L2
open PySem PySem.Spec PyProof.Rows
/-- self.f = e, self an exception of the class at C without fields -/
def tXst (C : Addr) (f : Str) (to te : TE) : TS := fun D σ H => te σ H fun y H1 => to σ H1 fun x H2 =>
  ∃ a : Addr, x = .ref a ∧ H2 a = some (exo a C none) ∧ ∀ dx, H2 dx = none → dx ≠ a → D.nx σ (upd (upd H2 dx (exd dx [(f, y)])) a (exo a C (some dx)))
/-- Base.__init__(self, ..) -/
def tXin (C : Addr) (ta : TA) : TE := fun σ H Q => ta σ H fun vs H1 => ∃ (a : Addr) (ws : List V), vs = .ref a :: ws ∧ ws.length ≤ 1000 ∧ H1 a = some (exo a C none) ∧ Q .non H1
/-- C(..), C(k=..) -/
structure XmkP (C : Addr) (sp : Sp) (ta : TA) (σ : St) (H : Hp) (Q : VK) : Prop where
  run : ta σ H fun vs H1 => vs.length ≤ 1000 ∧ ∀ a, H1 a = none → sp (.ref a :: vs) (upd H1 a (exo a C none)) (fun v H2 => v = .non ∧ Q (.ref a) H2) E0
structure XmkKP (C : Addr) (sp : Sp) (ta : TA) (σ : St) (H : Hp) (Q : VK) : Prop where
  run : ta σ H fun vs H1 => vs.length = 1 ∧ ∀ a, H1 a = none → sp (.ref a :: vs) (upd H1 a (exo a C none)) (fun v H2 => v = .non ∧ Q (.ref a) H2) E0
def tXmk (C : Addr) (sp : Sp) (ta : TA) : TE := XmkP C sp ta
def tXmkK (C : Addr) (sp : Sp) (ta : TA) : TE := XmkKP C sp ta
/-- e.f, e an exception -/
structure XgetP (C : Addr) (f : Str) (te : TE) (σ : St) (H : Hp) (Q : VK) : Prop where
  run : te σ H fun x H1 => ∃ (a dx : Addr) (fs : List (Str × V)) (v : V), x = .ref a ∧ H1 a = some (exo a C (some dx)) ∧ H1 dx = some (exd dx fs) ∧ fs.lookup f = some v ∧ Q v H1
def tXget (C : Addr) (f : Str) (te : TE) : TE := XgetP C f te
section
variable {X : Cx} {o e : Expr} {es : List Expr} {to te : TE} {ta : TA} {f x : Str} {p p' p1 p2 pos kpos : Pos} {C fI : Addr}
variable {bmB : List Value} {newId B initId : String} {k : Nat} {fd : FuncData} {ps : List Str} {sp : Sp}
theorem ps_xst (SF : StoreFacts B bmB "object.__setattr__" "object") (T : ExK X.K C fI bmB newId) (hno : PySem.W.findIn X.K (.ref C) f = some none) (ho : PE X o to) (he : PE X e te)
    (sw : swapsWith e (some (.Attribute o f p')) pos.line X.env = pure false := by rfl) : PS X (.Assign [.Attribute o f p'] e pos) (tXst C f to te) := by
  refine ⟨fun pins s σ H D I h => plainObj_wpAny_Assign_Attribute (thn (he.run pins s σ H _ I h) fun v s1 hv => ?_) sw⟩
  obtain ⟨y, H1, I1, ry, q1⟩ := hv
  refine thn (ho.run pins s1 σ H1 _ I1 q1) fun u s2 hu => ?_
  obtain ⟨x, H2, I2, rx, a, ex, ea, q⟩ := hu
  subst ex
  obtain rfl : u = Value.ref a := rx
  exact xst_run SF T I2 ea hno ry fun dx s' n ne J => ⟨σ, _, J, q dx n ne⟩
theorem pe_xin {pl : Sem Bool} (FB : ExcBaseFacts B newId initId bmB) (T : ExK X.K C fI bmB newId) (hg : Gl X x) (hm : X.mg x = none) (bt : bootBuiltins x = some (.type B)) (ty : typeOf (.type B) = pure (.type "type")) (st : Manifest.isStub B = false)
    (fc : PySem.W.findCls X.K (.type B) (.type "type") "__init__" = some (.val (.builtin initId))) (ha : PA X (e :: es) ta)
    (hd : PySem.W.handedIn (.builtin initId) = true := by rfl) (n1 : x ≠ "__name__" := by decide) (n2 : (x == ("__debug__" : Str)) = false := by decide)
    (hc : eval (.Call (.Attribute (.Name x p1) "__init__" p2) (e :: es) [] pos) X.env = (do
      let ov ← eval (.Name x p1) X.env
      standAt p2.atName
      let (f, first) ← holding [ov] (getMethod ov "__init__" pl)
      callWith pos f first (backTo pos (starEach (e :: es) X.env)) (backToKw pos (keywordEach [] X.env))) := by rfl)
    (he : starEach (e :: es) X.env = (false, eval e X.env) :: starEach es X.env := by rfl) (np : (backTo pos (starEach es X.env)).any (·.1) = false := by rfl) :
    PE X (.Call (.Attribute (.Name x p1) "__init__" p2) (e :: es) [] pos) (tXin C ta) := by
  refine ⟨fun pins s σ H Q I h => PySem.W.methodCall_KW (ld_blt I hg hm bt ?_ n1 n2) hc⟩
  obtain ⟨m, fr⟩ := I.fr
  refine PySem.W.method_type fr I.ok.mod.kin ty st fc hd ?_
  show wpAny _ _ (callWith pos (Value.builtin initId) [] (backTo pos (starEach (e :: es) X.env)) []) _ _ _
  refine PyProof.Rows.callWith_method1 (thn (ha.run pos pins _ σ H _ (I.tok _) h) fun us s1 hu => ?_) he np
  obtain ⟨vs, H1, I1, r1, a, ws, ev, hl, ea, q⟩ := hu
  subst ev
  cases r1 with
  | @cons _ u0 _ ur ra rr =>
    obtain rfl : u0 = Value.ref a := ra
    have hz : ur.length ≤ sizeLine := by
      rw [← Paired.length rr, sizeLine_eq]
      omega
    exact xinit_run FB T I1 ea hz fun s' J => ⟨.non, H1, J, rfl, q⟩
theorem pe_xmk (FB : ExcBaseFacts B newId initId bmB) (T : ExK X.K C fI bmB newId) (G : FnOk X.prog X.w X.K X.mg X.base CX0 k fI fd ps sp) (hr : Room (k + 1) X.A) (hb : Binds X.K fd ps []) (hg : Gl X x) (hm : X.mg x = some (.ref C)) (ha : PA X (e :: es) ta)
    (nd : (x == ("__debug__" : Str)) = false := by decide) (he : starEach (e :: es) X.env = (false, eval e X.env) :: starEach es X.env := by rfl) (np : (backTo pos (starEach es X.env)).any (·.1) = false := by rfl) :
    PE X (.Call (.Name x p) (e :: es) [] pos) (tXmk C sp ta) := by
  refine ⟨fun pins s σ H Q I h => wpAny_Call_Name_kw (ld_glob I hg hm ?_ nd)⟩
  refine PySem.W.callWith_K (h₀ := X.base) I.ok.mod.kin T.kep (thn (ha.run pos pins s σ H _ I h.run) fun us s1 hu => ?_) he np
  obtain ⟨vs, H1, I1, r1, hz, q⟩ := hu
  exact ⟨I1.kIn, xmk_run FB T G hr hb I1 r1 hz q⟩
theorem pe_xmk0 (FB : ExcBaseFacts B newId initId bmB) (T : ExK X.K C fI bmB newId) (G : FnOk X.prog X.w X.K X.mg X.base CX0 k fI fd ps sp) (hr : Room (k + 1) X.A) (hb : Binds X.K fd ps []) (hg : Gl X x) (hm : X.mg x = some (.ref C))
    (nd : (x == ("__debug__" : Str)) = false := by decide) : PE X (.Call (.Name x p) [] [] pos) (tXmk C sp tNil) := by
  refine ⟨fun pins s σ H Q I h => wpAny_Call_Name_kw (ld_glob I hg hm ?_ nd)⟩
  exact PySem.W.callWith_K0 I.kIn T.kep (xmk_run (us := []) FB T G hr hb I .nil h.run.1 h.run.2)
theorem pe_xmkK {kn : Str} (FB : ExcBaseFacts B newId initId bmB) (T : ExK X.K C fI bmB newId) (G : FnOk X.prog X.w X.K X.mg X.base CX0 k fI fd ps sp) (hr : Room (k + 1) X.A) (hb : ∀ (s : Shared) (v w : Value), BindsTo s fd ⟨[v], [(kn, w)]⟩ (ps.zip [v, w]))
    (hg : Gl X x) (hm : X.mg x = some (.ref C)) (ha : PE X e te) (nd : (x == ("__debug__" : Str)) = false := by decide)
    (al : (backToKw pos (keywordEach [⟨some kn, e, kpos⟩] X.env)).all (·.1.isSome) = true := by rfl) (ks : (backToKw pos (keywordEach [⟨some kn, e, kpos⟩] X.env)).filterMap (·.1) = [kn] := by rfl)
    (np : ((backTo pos (starEach [] X.env)).any (·.1) || (backToKw pos (keywordEach [⟨some kn, e, kpos⟩] X.env)).any (·.1.isNone)) = false := by rfl) :
    PE X (.Call (.Name x p) [] [⟨some kn, e, kpos⟩] pos) (tXmkK C sp (tCons te tNil)) := by
  refine ⟨fun pins s σ H Q I h => wpAny_Call_Name_kw (ld_glob I hg hm ?_ nd)⟩
  refine PySem.W.callWith_KW0 (h₀ := X.base) I.ok.mod.kin T.kep al ?_ np
  refine thn ((pk_cons (nm := some kn) (kpos := kpos) ha pk_nil).run pos pins s σ H _ I h.run) fun ws s2 hw => ?_
  obtain ⟨zs, H2, I2, rz, hz, q⟩ := hw
  refine ⟨I2.kIn, ?_⟩
  rw [ks]
  match zs, ws, rz, hz, q with
  | [z], [w], .cons r1 .nil, _, q => exact xmk_kw FB T G hr hb I2 r1 q
theorem pe_xget (T : ExK X.K C fI bmB newId) (hno : PySem.W.findIn X.K (.ref C) f = some none) (he : PE X e te) (hb : attributeBase e f X.env (eval e X.env) = eval e X.env := by rfl) :
    PE X (.Attribute e f pos) (tXget C f te) := by
  refine ⟨fun pins s σ H Q I h => attr_of hb (thn (he.run pins s σ H _ I h.run) fun u s1 hu => ?_)⟩
  obtain ⟨x, H1, I1, rx, a, dx, fs, v, ex, ea, ed, hl, q⟩ := hu
  subst ex
  obtain rfl : u = Value.ref a := rx
  obtain ⟨t1, at_⟩ := exo_at I1.hok ea
  obtain ⟨mA, ns, rel⟩ := exd_at I1.hok ed
  obtain ⟨od, at2, look⟩ := lookIn_ns ns
  obtain ⟨u, hu, ru⟩ := RelO.some_of (v := v) (o := mA f) (by rw [← hl]; exact rel f)
  have J : PySem.W.InstAt s1.heap a _ C (some od) := ⟨at_, rfl, rfl, at2⟩
  exact HandSPX.exc_get I1.kIn J T.isc.hg T.isc.hk T.isc.hs (PySem.W.findObj_own T.isc.hd hno rfl (by rw [look, hu])) (handed_of ru) ⟨v, H1, I1.tok _, ru, q⟩
/-- isinstance(e, c), e an exception of the class at C, with a field or without -/
def rXis (K : PySem.W.Frag) : List V → Hp → VK → Prop := fun xs H Q => ∃ (a C : Addr) (d : Option Addr) (c : V) (u : Value) (b : Bool),
  xs = [.ref a, c] ∧ ClsV c u ∧ H a = some (exo a C d) ∧ (∀ dx, d = some dx → ∃ fs, H dx = some (exd dx fs)) ∧ ExcC K C ∧ PySem.W.kitOne K (.ref C) u = some b ∧ Q (.bl b) H
def rXisT (K : PySem.W.Frag) : List V → Hp → VK → Prop := fun xs H Q => ∃ (a C : Addr) (d : Option Addr) (tp : Addr) (cs : List V) (us : List Value) (b : Bool),
  xs = [.ref a, .ref tp] ∧ H tp = some (.tup cs) ∧ Paired ClsV cs us ∧ H a = some (exo a C d) ∧ (∀ dx, d = some dx → ∃ fs, H dx = some (exd dx fs)) ∧ ExcC K C ∧ PySem.W.kitAny K (.ref C) us = some b ∧ Q (.bl b) H
theorem xkit {pins : List (Addr × Obj)} {σ : St} {H : Hp} {s : Shared} {a C : Addr} {d : Option Addr} (I : Inv X pins σ H s) (T : ExcC X.K C) (ea : H a = some (exo a C d))
    (ed : ∀ dx, d = some dx → ∃ fs, H dx = some (exd dx fs)) : ∃ P : Heap → Prop, PySem.W.KitX X.K (.ref a) (.ref C) P ∧ P s.heap := by
  obtain ⟨t1, at_⟩ := exo_at I.hok ea
  have cl : (PySem.W.clsIn X.K C).isSome = true := by
    obtain ⟨cd, hc, _⟩ := PySem.W.any_some T.hd
    rw [hc]
    rfl
  cases d with
  | none => exact ⟨_, PySem.W.kitx_exc (od := none) cl T.hg T.hk T.hs T.ha T.hn T.ht T.hm, ⟨at_, rfl, rfl, trivial⟩⟩
  | some dx =>
    obtain ⟨fs, e2⟩ := ed dx rfl
    obtain ⟨mA, ns, _⟩ := exd_at I.hok e2
    obtain ⟨od, at2, _⟩ := lookIn_ns ns
    exact ⟨_, PySem.W.kitx_exc (od := some od) cl T.hg T.hk T.hs T.ha T.hn T.ht T.hm, ⟨at_, rfl, rfl, at2⟩⟩
theorem call_xis : CallR X (.builtin "isinstance") (rXis X.K) := by
  intro pins s σ H xs us Q I r h
  obtain ⟨a, C, d, c, u, b, rfl, hc, ea, ed, T, e, q⟩ := h
  obtain ⟨u1, u2, rfl, r1, r2⟩ := vals2 r
  obtain rfl := hc.eq r2
  obtain rfl : u1 = Value.ref a := r1
  obtain ⟨P, Z, z⟩ := xkit I T ea ed
  exact PySem.W.kia_one Z I.kIn z e (fun q => nomatch q) fun tk => ⟨.bl b, H, I.tok tk, rfl, q⟩
theorem call_xisT : CallR X (.builtin "isinstance") (rXisT X.K) := by
  intro pins s σ H xs us Q I r h
  obtain ⟨a, C, d, tp, cs, ws, b, rfl, hT, hc, ea, ed, T, e, q⟩ := h
  obtain ⟨u1, u2, rfl, r1, r2⟩ := vals2 r
  obtain rfl : u1 = Value.ref a := r1
  obtain rfl : u2 = Value.ref tp := r2
  obtain ⟨P, Z, z⟩ := xkit I T ea ed
  obtain ⟨_, its, rv, o, h1, h2, n, h3⟩ := (show ObjOk X.prog X.w H s.heap tp (.tup cs) from I.hok tp _ hT)
  obtain rfl := ClsV.all hc rv
  obtain ⟨oc, od, dt, sl⟩ := o
  dsimp only at h2 h3
  subst h2 h3
  exact PySem.W.kia_tup Z I.kIn z h1 e (fun q => nomatch q) fun tk => ⟨.bl b, H, I.tok tk, rfl, q⟩
end
end L2
set_option Elab.async false
set_option linter.all false
set_option maxRecDepth 100000
set_option maxHeartbeats 4000000
namespace PySem
theorem HandSPX.FlyingZ.grow {base : Heap} {l : List Env} {e : Addr} {Z : Obj → Prop} {h h' : Heap} (f : HandSPX.FlyingZ base l e Z h) (k : ∀ b o, h.get? b = some o → h'.get? b = some o) : HandSPX.FlyingZ base l e Z h' := by
  obtain ⟨f1, f2, f3, oe, vs, T, oT, ts, he, hz, hd, h1, hn, hT, gT, dT, h3⟩ := f
  exact ⟨fun b o z => k b o (f1 b o z), f2, Heap.FunFrames.of_keeps (fun b o z _ => ⟨o, k b o z, rfl⟩) f3, oe, vs, T, oT, ts, k _ _ he, hz, hd, h1, hn, hT, k _ _ gT, dT, h3⟩
end PySem
namespace L2
open PySem PySem.Spec PyProof.Rows
/-- at a: an exception that was caught -/
def exk (a : Addr) (cls : Value) (d : Option Addr) : HO := .ext fun h => ∃ (o : Obj) (vs : Array Value), h.get? a = some o ∧ Zc cls d o ∧ o.data = .fields vs
theorem exk_ok {P : Program} {w : World} {H : Hp} {h : Heap} {a : Addr} {cls : Value} {d : Option Addr} {o : Obj} {vs : Array Value} (he : h.get? a = some o) (hz : Zc cls d o) (hd : o.data = .fields vs) : ObjOk P w H h a (exk a cls d) :=
  ⟨⟨o, vs, he, hz, hd⟩, ⟨_, he⟩, fun h1 h2 z k => by
    obtain ⟨o, vs, q, z1, z2⟩ := z
    exact ⟨o, vs, k _ q, z1, z2⟩⟩
theorem exk_at {P : Program} {w : World} {H : Hp} {h : Heap} {a : Addr} {cls : Value} {d : Option Addr} (hok : HOk P w H h) (he : H a = some (exk a cls d)) : ∃ (o : Obj) (vs : Array Value), h.get? a = some o ∧ Zc cls d o ∧ o.data = .fields vs := by
  have x : ObjOk P w H h a (.ext fun h => ∃ (o : Obj) (vs : Array Value), h.get? a = some o ∧ Zc cls d o ∧ o.data = .fields vs) := hok a _ he
  exact x.1
section
variable {X : Cx} {pins : List (Addr × Obj)} {σ : St} {H : Hp} {s : Shared}
/-- an exception that stands untold of is told of -/
theorem Inv.track {a : Addr} {o : Obj} {vs : Array Value} {cls : Value} {d : Option Addr} (I : Inv X pins σ H s) (ha : s.heap.get? a = some o) (hd : o.data = .fields vs) (hz : Zc cls d o) (na : H a = none) (nL : a ≠ X.env.locals)
    (n0 : X.s_0.heap.get? a = none) (np : ∀ p ∈ X.pn ++ pins, p.1 ≠ a) : Inv X pins σ (upd H a (exk a cls d)) s :=
  ⟨I.ok, I.os, I.bare,
    ⟨I.base.keep, I.base.slot, fun b o e n hx => by
      rw [upd_ne (fun z => by rw [z, n0] at e; cases e)]
      exact I.base.free b o e n hx, I.base.there, fun b xs e => by
      have q := I.base.tups b xs e
      rw [upd_ne (ne_of_none q na)]
      exact q, fun b o v e => by
      have q := I.base.frzs b o v e
      rw [upd_ne (ne_of_none q na)]
      exact q, fun b ps e => by
      obtain ⟨l, q⟩ := I.base.tbls b ps e
      exact ⟨l, by rw [upd_ne (ne_of_none q na)]; exact q⟩⟩,
    I.loc, I.cell, by rw [upd_ne nL.symm]; exact I.free, fun x c e => by
      have q := I.freeC x c e
      have ne : c ≠ a := fun z => by
        obtain ⟨v, oc, e1, e2⟩ := I.cell x c e
        rw [z, ha] at e1
        have e3 := Option.some.inj e1
        rw [← e3, hd] at e2
        exact Data.noConfusion e2
      rw [upd_ne ne]
      exact q,
    fun p hp => by
      obtain ⟨p1, p2, p3⟩ := I.pin p hp
      exact ⟨p1, by rw [upd_ne (np p hp)]; exact p2, p3⟩,
    fun b u e => by
      by_cases hb : b = a
      · subst hb
        rw [upd_same] at e
        cases e
        exact exk_ok ha hz hd
      · rw [upd_ne hb] at e
        exact (I.hok b u e).stay (fun c v hc z => z) (fun c hc => by rw [upd_ne (ne_of_none hc na)]; exact hc) (fun c xs hc => by rw [upd_ne (ne_of_none hc na)]; exact hc), I.len⟩
end
/-! ### raise C(e, ..), C with an own __init__ -/
section
variable {X : Cx} {e : Expr} {es : List Expr} {ta : TA} {x : Str} {p pos : Pos} {C fI : Addr}
variable {bmB : List Value} {newId B initId : String} {k : Nat} {fd : FuncData} {ps : List Str} {sp : Sp}
theorem pmk_bex (FB : ExcBaseFacts B newId initId bmB) (T : ExK X.K C fI bmB newId) (tyC : PySem.W.typeIn X.K (.ref C) = some (.type "type")) (F1 : FnOk X.prog X.w X.K X.mg X.base CX0 k fI fd ps sp) (hr : Room (k + 1) X.A) (hb : Binds X.K fd ps []) (hg : Gl X x) (hm : X.mg x = some (.ref C)) (ha : PA X (e :: es) ta)
    (hdb : (x == ("__debug__" : Str)) = false := by decide) (he : starEach (e :: es) X.env = (false, eval e X.env) :: starEach es X.env := by rfl) (hpl : (backTo pos (starEach es X.env)).any (·.1) = false := by rfl) :
    PMk X (.Call (.Name x p) (e :: es) [] pos) (tMkO C sp [] ta) := by
  intro pins s σ H Q I h
  refine wpAny_Call_Name_kw (ld_glob I hg hm ?_ hdb)
  refine PySem.W.callWith_K (h₀ := X.base) I.ok.mod.kin T.kep (thn (ha.run pos pins s σ H _ I h) fun us s1 ⟨vs, H1, I1, r1, hz, q1⟩ => ⟨I1.kIn, ?_⟩) he hpl
  show wpAny _ _ (call (.ref C) us) _ _ _
  obtain ⟨_, _, _, _, _, _, _, _, _, _, _, _, _, _, _, _, hC, hT⟩ := PySem.W.excInit_of I1.kIn T.ini
  obtain ⟨hp, g, dr, tk, os⟩ := s1
  have hsz : hp.objs.size ≤ hp.objs.size + 1 := Nat.le_succ _
  have hn : H1 (hp.objs.size + 1) = none := I1.hok.fresh hsz
  have hq := q1 (hp.objs.size + 1) hn
  have kk : ∀ b o, hp.get? b = some o → ((hp.push (PySem.W.kdv_tup us)).push (PySem.HandSPX.excO C hp.objs.size)).get? b = some o := fun b o e => Heap.get?_push_of_some _ (Heap.get?_push_of_some _ e)
  have hget : ((hp.push (PySem.W.kdv_tup us)).push (PySem.HandSPX.excO C hp.objs.size)).get? (hp.objs.size + 1) = some (PySem.HandSPX.excO C hp.objs.size) := by heap_get
  have I2 : Inv X pins σ (upd H1 (hp.objs.size + 1) (exo (hp.objs.size + 1) C none)) ⟨(hp.push (PySem.W.kdv_tup us)).push (PySem.HandSPX.excO C hp.objs.size), g, dr, tk, os⟩ :=
    I1.laid (t' := tk) (a := hp.objs.size + 1) (o := exo (hp.objs.size + 1) C none) (h' := (hp.push (PySem.W.kdv_tup us)).push (PySem.HandSPX.excO C hp.objs.size)) kk hsz (exo_ok hget)
  have r2 : Vals (V.ref (hp.objs.size + 1) :: (vs ++ [])) (Value.ref (hp.objs.size + 1) :: us ++ []) := by
    rw [List.append_nil, List.append_nil]
    exact .cons rfl r1
  have hl : (Value.ref (hp.objs.size + 1) :: us ++ []).length = ps.length := by
    have e := r2.length
    rw [F1.len _ _ _ _ hq] at e
    exact e.symm
  have hus : us.length ≤ sizeLine := by
    rw [← Paired.length r1, sizeLine_eq]
    omega
  have bnd := hb _ (Value.ref (hp.objs.size + 1) :: us) I2.kIn hl
  rw [List.append_nil] at bnd
  have r3 : Vals (V.ref (hp.objs.size + 1) :: (vs ++ [])) (Value.ref (hp.objs.size + 1) :: us) := by
    rw [List.append_nil]
    exact .cons rfl r1
  refine wpAny_call (PySem.HandSPX.call_own FB hT hC (PySem.W.looks_findIn I1.kIn T.own) (fun self => PySem.W.bind_fn I1.kIn self T.fun_) hus
    (codeAny_mono (F1.run _ X.stack _ _ ⟨Value.ref (hp.objs.size + 1) :: us, []⟩ (Value.ref (hp.objs.size + 1) :: us) _ _ (fun _ _ _ => False) (hr.make C us []) (I2.env0.make C us []) bnd r3 hq) fun r s' hq' => ?_))
  cases r with
  | error er => exact hq'.elim
  | ok fl =>
    cases fl with
    | ret u =>
      obtain ⟨v, H2, os2, bare2, un2, hok2, rv, ev, d, fs, ea, ed, hd1, q2⟩ := hq'
      subst ev
      obtain ⟨h2, g2, d2, t2, os'⟩ := s'
      exact ⟨rv, mk_end (raises_own T.isc.hs tyC) I1 hsz kk un2 hok2 os2 bare2 ea ed hd1 q2⟩
    | next => exact False.elim hq'
    | brk => exact False.elim hq'
    | cont => exact False.elim hq'
end
/-! ### try: .. except t as n: suite, and the exception stays -/
/-- the test of an except clause, by what it matches -/
def Tst (X : Cx) (t : Expr) (f : Value → Option Bool) : Prop := ∀ (a : Addr) (q : List (Addr × Obj)) (pins : List (Addr × Obj)) (σ : St) (H : Hp) (s : Shared) (cls : Value) (b : Bool) (Q : Bool → Shared → Prop) (E : Value → Shared → Prop),
  Inv (X.suite a q) pins σ H s → PySem.W.Looks (model X.prog X.w) s.heap (typeOf (.ref a)) cls → f cls = some b → (∀ hh : Heap, (∀ b o, s.heap.get? b = some o → hh.get? b = some o) → Q b { s with heap := hh }) →
  wpAny (model X.prog X.w) (X.A.mark (some (.ref a))) (eval t X.env) (fun c s₁ => wpAny (model X.prog X.w) (X.A.mark (some (.ref a))) (excMatches (.ref a) c) Q E s₁) E s
def endK (D : Ends) (i : Nat) (a : Addr) (cls : Value) (d : Option Addr) : Ends :=
  { nx := fun σ H => D.nx (σ.set i none) (upd H a (exk a cls d)), rt := fun v H => D.rt v (upd H a (exk a cls d)), bk := fun σ H => D.bk (σ.set i none) (upd H a (exk a cls d)), ct := fun σ H => D.ct (σ.set i none) (upd H a (exk a cls d)) }
def wKeep (f : Value → Option Bool) (i : Nat) (ts : Addr → Value → Option Addr → TS) (D : Ends) : WX := fun cls d σ H =>
  f cls = some true ∧ ∀ a, H a = none → ts a cls d (endK D i a cls d) (σ.set i (some (.ref a))) H
section
variable {X : Cx} {n : Str} {i : Nat} {body suite : List Stmt} {b₀ : Stmt} {t : Expr} {pos pos' np np2 tp : Pos} {tb : WX → TS} {ts : Addr → Value → Option Addr → TS} {f : Value → Option Bool}
theorem tst_one {x : Str} {c : Value} (hc : Names X x c) : Tst X (.Name x np) (fun cls => PySem.W.exmOne X.K cls c) := by
  intro a q pins σ H s cls b Q E I LT hb h
  have LM := PySem.W.exm_one (M := model X.prog X.w) I.kIn LT hb
  have test : ∀ {Q : Value → Shared → Prop} {E : Value → Shared → Prop}, Q c s → wpAny (model X.prog X.w) (X.A.mark (some (.ref a))) (eval (.Name x np) X.env) Q E s := fun {Q E} q => by
    obtain ⟨hg, hdbg, hm | ⟨hm, hv, hnn⟩⟩ := hc
    · exact ld_glob I hg hm q hdbg
    · exact ld_blt I hg hm hv q hnn hdbg
  exact test (LM.here (h s.heap fun _ _ z => z))
theorem tst_two {x y : Str} {c1 c2 : Value} {k : Nat} (hx : Names X x c1) (hy : Names X y c2) (e1 : starEach [.Name x np, .Name y np2] X.env = (false, eval (.Name x np) X.env) :: starEach [.Name y np2] X.env := by rfl) (e2 : starEach [.Name y np2] X.env = (false, eval (.Name y np2) X.env) :: starEach [] X.env := by rfl) :
    Tst X (.Tuple [.Name x np, .Name y np2] k tp) (fun cls => PySem.W.exmAny X.K cls [c1, c2]) := by
  intro a q pins σ H s cls b Q E I LT hb h
  have test : ∀ {x : Str} {c : Value} {np : Pos} (hc : Names X x c) {Q : Value → Shared → Prop} {E : Value → Shared → Prop}, Q c s → wpAny (model X.prog X.w) (X.A.mark (some (.ref a))) (eval (.Name x np) X.env) Q E s := fun {x c np} hc {Q E} q => by
    obtain ⟨hg, hdbg, hm | ⟨hm, hv, hnn⟩⟩ := hc
    · exact ld_glob I hg hm q hdbg
    · exact ld_blt I hg hm hv q hnn hdbg
  refine wpAny_Tuple_spliced ?_
  show wpAny _ _ (spliced (backTo tp (starEach [.Name x np, .Name y np2] X.env))) _ _ s
  rw [e1]
  refine Calls.spliced_cons (test hx ?_)
  show wpAny _ _ (spliced (backTo tp (starEach [.Name y np2] X.env))) _ _ s
  rw [e2]
  refine Calls.spliced_cons (test hy ?_)
  refine Calls.spliced_nil ⟨by show 2 ≤ sizeLine; decide, ?_⟩
  have k0 : ∀ b o, s.heap.get? b = some o → (s.heap.push { cls := .type "tuple", data := .seq [c1, c2].toArray }).get? b = some o := fun b o z => Heap.get?_push_of_some _ z
  have LM := PySem.W.exm_tup2 (M := model X.prog X.w) (K := X.K) (h := s.heap.push { cls := .type "tuple", data := .seq [c1, c2].toArray }) (tp := s.heap.objs.size) (I.kIn.keeps k0) (LT.keeps k0) (Heap.get?_push_size _ rfl) hb
  exact LM.here (h _ k0)
theorem ps_try_keep (hs : X.stack = X.env :: X.outer) (hf : X.env.frame = some X.env.locals) (hN : X.N.Nodup) (hi : X.N[i]? = some n) (hln : X.env.kindOf n = some .local) (hex : X.ex = []) (ht : Tst X t f)
    (hb : ∀ (W : WX) (pn : List (Addr × Obj)) (xe : Value → Shared → Prop), Takes (X.tr pn xe) W → PassesOwn (model X.prog X.w) X.A X.env xe → PSs (X.tr pn xe) body (tb W))
    (hsu : ∀ (a : Addr) (oe : Obj) (cls : Value) (d : Option Addr) (pn : List (Addr × Obj)), Zc cls d oe → (∃ vs, oe.data = .fields vs) → PSs (X.suite a ((a, oe) :: pn)) (b₀ :: suite) (ts a cls d)) :
    PS X (.Try body [.ExceptHandler (some t) (some n) (b₀ :: suite) pos'] [] [] pos) (fun D σ H => tb (wKeep f i ts D) D σ H) := by
  refine ⟨fun pins s σ H D I h => ?_⟩
  have ok := I.ok
  have hfr : X.A.frames = some (X.env :: X.outer) := by rw [ok.frames, hs]
  have hloc : Loc X.env.scope n := .inl hln
  refine wpAny_Try_except ?_
  refine wpAny_mono ((hb (wKeep f i ts D) (X.pn ++ pins) (fun e s₁ => wpAny (model X.prog X.w) X.A (noteFrame e X.env) (fun _ s₂ => wpAny (model X.prog X.w) X.A (setFlight e none) (fun _ s₃ =>
    wpAny (model X.prog X.w) X.A (handleBy e X.env [.ExceptHandler (some t) (some n) (b₀ :: suite) pos']) (SP X pins D) X.xe s₃) X.xe s₂) X.xe s₁) (fun u s' xx => ?_) PassesOwn.looking).run [] s σ H D (I.toTry _) h) (fun f s1 hsp => ?_) (fun e s1 he => he)
  · -- the catch
    obtain ⟨a, B, sI, pins', σ', H', cls, d, rfl, J', nb, up, sky, na, os, ag, hb1, hyes⟩ := xx
    have J : Inv X pins σ' H' sI := J'.ofTry ok
    have sky' : Sky B (X.env :: X.outer) a (Zc cls d) X.env.locals s'.heap := by rw [← hs]; exact sky
    show wpAny (model X.prog X.w) X.A (noteFrame (.ref a) X.env) _ _ _
    refine Sky.land Zc.steady hfr hf sky' fun h3 fl3 up3 => ?_
    have J3 : Inv X pins σ' H' { s' with heap := h3 } := J.landed nb fl3.1 (up.trans up3) os ag
    obtain ⟨oe3, vs3, he3, hz3, hd3⟩ := fl3.there
    have notFr : ∀ {h : Heap} {o : Obj} {vs : Array Value}, h.FunFrames B (X.env :: X.outer) → h.get? a = some o → o.data = .fields vs → a ∉ frs (X.env :: X.outer) := fun {h o vs} ff e dd hm => by
      obtain ⟨_, o', e', hnf⟩ := ff.mem hm
      rw [e] at e'; cases e'
      exact hnf _ dd
    have nfr := notFr fl3.2.2.1 he3 hd3
    have nL : a ≠ X.env.locals := fun z => nfr (List.mem_filterMap.mpr ⟨X.env, List.mem_cons_self, by rw [hf, z]⟩)
    have nF : a ∉ X.fs := fun hm => by
      obtain ⟨e, he, q⟩ := List.mem_filterMap.mp hm
      exact nfr (List.mem_filterMap.mpr ⟨e, List.mem_cons_of_mem _ he, q⟩)
    have nI : sI.heap.get? a = none := by
      cases z : sI.heap.get? a with
      | none => rfl
      | some o =>
        have q := nb a o z (by rw [hs]; exact nfr)
        rw [fl3.2.1] at q
        cases q
    have n0 : X.s_0.heap.get? a = none := by
      cases z : X.s_0.heap.get? a with
      | none => rfl
      | some o =>
        obtain ⟨o', q⟩ := J.base.there a o z (by rw [hex]; simp)
        rw [nI] at q
        cases q
    have np : ∀ p ∈ X.pn ++ pins, p.1 ≠ a := fun p hp z => by
      have q := (J.pin p hp).1
      rw [z, nI] at q
      cases q
    have S3 := J3.suite he3 hd3 na nL nF
    refine wpAny_handleBy_cons (codeAny_handlers_test ?_) (by intro q; cases q)
    have LT : PySem.W.Looks (model X.prog X.w) h3 (typeOf (.ref a)) cls := fun A Q E s k q => wpAny_typeOf_ref (k _ _ he3) (by rw [hz3.1]; exact q)
    refine ht a _ _ _ _ _ cls true _ _ S3 LT hb1 fun hh k4 => ?_
    have fl3' := fl3.grow k4
    have up3' : s'.heap.UpToSlots hh := fun b o e z => by
      obtain ⟨sl, q⟩ := up3 b o e z
      exact ⟨sl, k4 _ _ q⟩
    show codeAny _ _ _ _ _
    refine codeAny_handlers_suite_as ?_
    refine HandSPX.lands_againZ (s := { s' with heap := hh }) fl3' fun h4 fl4 up4 => ?_
    have J4 : Inv X pins σ' H' { s' with heap := h4 } := J.landed nb fl4.1 ((up.trans up3').trans up4) os ag
    obtain ⟨oe4, vs4, he4, hz4, hd4⟩ := fl4.there
    have S4 := J4.suite he4 hd4 na nL nF
    refine store_ok (X := X.suite a ((a, oe4) :: (X.pn ++ pins))) (v := .ref a) S4 hN hi hloc rfl (fun s5 S5 => ?_) (.inr hln)
    refine wpAny_mono ((hsu a oe4 cls d (X.pn ++ pins) hz4 ⟨_, hd4⟩).run [] s5 _ H' _ S5 (hyes a na)) (fun f s6 hsp => ?_) (fun _ _ z => False.elim z)
    have end_ : ∀ {σ6 : St} {H6 : Hp} {Q : Shared → Prop}, Inv (X.suite a ((a, oe4) :: (X.pn ++ pins))) [] σ6 H6 s6 → (∀ s7, Inv X pins (σ6.set i none) (upd H6 a (exk a cls d)) s7 → Q s7) →
        wpAny (model X.prog X.w) X.A (do bindName X.env n .none; unbindBehindTheSuite X.env n pos') (fun _ s7 => Q s7) X.xe s6 := fun {σ6 H6 Q} S6 hq => by
      obtain ⟨p1, p2, _⟩ := S6.pin (a, oe4) (List.mem_append_left _ List.mem_cons_self)
      exact gone_ok ((S6.unsuite ok).track p1 hd4 hz4 p2 nL n0 np) hN hi hln hq
    cases f with
    | next =>
      obtain ⟨σ6, H6, S6, q6⟩ := hsp
      exact end_ S6 fun s7 J7 => ⟨_, _, J7, q6⟩
    | brk =>
      obtain ⟨σ6, H6, S6, q6⟩ := hsp
      exact end_ S6 fun s7 J7 => ⟨_, _, J7, q6⟩
    | cont =>
      obtain ⟨σ6, H6, S6, q6⟩ := hsp
      exact end_ S6 fun s7 J7 => ⟨_, _, J7, q6⟩
    | ret u =>
      obtain ⟨v6, σ6, H6, S6, r6, q6⟩ := hsp
      exact end_ S6 fun s7 J7 => ⟨_, _, _, J7, r6, q6⟩
  · cases f with
    | next =>
      obtain ⟨σ', H', J', q⟩ := hsp
      exact wpAny_execs_nil ⟨σ', H', J'.ofTry ok, q⟩
    | brk =>
      obtain ⟨σ', H', J', q⟩ := hsp
      exact ⟨σ', H', J'.ofTry ok, q⟩
    | cont =>
      obtain ⟨σ', H', J', q⟩ := hsp
      exact ⟨σ', H', J'.ofTry ok, q⟩
    | ret u =>
      obtain ⟨v, σ', H', J', r, q⟩ := hsp
      exact ⟨v, σ', H', J'.ofTry ok, r, q⟩
end
/-! ### what was caught: its field, its class -/
section
variable {X : Cx} {e : Expr} {te : TE} {f : Str} {pos : Pos} {C : Addr}
structure KgetP (C : Addr) (f : Str) (te : TE) (σ : St) (H : Hp) (Q : VK) : Prop where
  run : te σ H fun x H1 => ∃ (a dx : Addr) (fs : List (Str × V)) (v : V), x = .ref a ∧ H1 a = some (exk a (.ref C) (some dx)) ∧ H1 dx = some (.xd fs) ∧ fs.lookup f = some v ∧ Q v H1
def tKget (C : Addr) (f : Str) (te : TE) : TE := KgetP C f te
theorem pe_kget (T : ExcC X.K C) (hno : PySem.W.findIn X.K (.ref C) f = some none) (he : PE X e te) (hb : attributeBase e f X.env (eval e X.env) = eval e X.env := by rfl) :
    PE X (.Attribute e f pos) (tKget C f te) := by
  refine ⟨fun pins s σ H Q I h => attr_of hb (thn (he.run pins s σ H _ I h.run) fun u s1 hu => ?_)⟩
  obtain ⟨x, H1, I1, rx, a, dx, fs, v, ex, ea, ed, hl, q⟩ := hu
  subst ex
  obtain rfl : u = Value.ref a := rx
  obtain ⟨o, vs, at_, hz, hd⟩ := exk_at I1.hok ea
  have hx : ObjOk X.prog X.w H1 s1.heap dx (.xd fs) := I1.hok dx _ ed
  obtain ⟨mA, ns, rel⟩ := hx
  obtain ⟨od, at2, look⟩ := lookIn_ns ns
  obtain ⟨u, hu, ru⟩ := RelO.some_of (v := v) (o := mA f) (by rw [← hl]; exact rel f)
  have J : PySem.W.InstAt s1.heap a o C (some od) := ⟨at_, hz.1, by unfold PySem.W.notCls; rw [hd] <;> rfl, by rw [hz.2]; exact at2⟩
  exact HandSPX.exc_get I1.kIn J T.hg T.hk T.hs (PySem.W.findObj_own T.hd hno rfl (by rw [look, hu])) (handed_of ru) ⟨v, H1, I1.tok _, ru, q⟩
/-- isinstance(e, c), e an exception that was caught -/
def rKis (K : PySem.W.Frag) : List V → Hp → VK → Prop := fun xs H Q => ∃ (a C : Addr) (d : Option Addr) (c : V) (u : Value) (b : Bool),
  xs = [.ref a, c] ∧ ClsV c u ∧ H a = some (exk a (.ref C) d) ∧ (∀ dx, d = some dx → ∃ fs, H dx = some (.xd fs)) ∧ ExcC K C ∧ PySem.W.kitOne K (.ref C) u = some b ∧ Q (.bl b) H
theorem kkit {pins : List (Addr × Obj)} {σ : St} {H : Hp} {s : Shared} {a C : Addr} {d : Option Addr} (I : Inv X pins σ H s) (T : ExcC X.K C) (ea : H a = some (exk a (.ref C) d))
    (ed : ∀ dx, d = some dx → ∃ fs, H dx = some (.xd fs)) : ∃ P : Heap → Prop, PySem.W.KitX X.K (.ref a) (.ref C) P ∧ P s.heap := by
  obtain ⟨o, vs, at_, hz, hd⟩ := exk_at I.hok ea
  have nc : PySem.W.notCls o = true := by unfold PySem.W.notCls; rw [hd] <;> rfl
  have cl : (PySem.W.clsIn X.K C).isSome = true := by
    obtain ⟨cd, hc, _⟩ := PySem.W.any_some T.hd
    rw [hc]
    rfl
  cases d with
  | none => exact ⟨_, PySem.W.kitx_exc (od := none) cl T.hg T.hk T.hs T.ha T.hn T.ht T.hm, ⟨at_, hz.1, nc, by rw [hz.2]; trivial⟩⟩
  | some dx =>
    obtain ⟨fs, e2⟩ := ed dx rfl
    have hx : ObjOk X.prog X.w H s.heap dx (.xd fs) := I.hok dx _ e2
    obtain ⟨mA, ns, _⟩ := hx
    obtain ⟨od, at2, _⟩ := lookIn_ns ns
    exact ⟨_, PySem.W.kitx_exc (od := some od) cl T.hg T.hk T.hs T.ha T.hn T.ht T.hm, ⟨at_, hz.1, nc, by rw [hz.2]; exact at2⟩⟩
theorem call_kis : CallR X (.builtin "isinstance") (rKis X.K) := by
  intro pins s σ H xs us Q I r h
  obtain ⟨a, C, d, c, u, b, rfl, hc, ea, ed, T, e, q⟩ := h
  obtain ⟨u1, u2, rfl, r1, r2⟩ := vals2 r
  obtain rfl := hc.eq r2
  obtain rfl : u1 = Value.ref a := r1
  obtain ⟨P, Z, z⟩ := kkit I T ea ed
  exact PySem.W.kia_one Z I.kIn z e (fun q => nomatch q) fun tk => ⟨.bl b, H, I.tok tk, rfl, q⟩
end
end L2
set_option Elab.async false
set_option linter.all false
set_option maxRecDepth 100000
set_option maxHeartbeats 4000000
namespace KB
open PySem PySem.Spec PyProof.Rows L2 Evl
def topS (i : Nat) : Stmt := PySem.Challenge.pw_treethaw_k70_whole_moving_over_a_bad_lin.main.body.getD i (.Pass ⟨0, 0, 0, 0⟩)
theorem same_new {H : Hp} {p : Addr} {o : HO} (h : H p = none) : Same H (upd H p o) := fun b x e => by
  rw [upd_ne (ne_of_none e h)]
  exact e
theorem same_mut {H H' : Hp} {p : Addr} {o : HO} (s : Same H H') (h : H p = none) : Same H (upd H' p o) := fun b x e => by
  rw [upd_ne (ne_of_none e h)]
  exact s b x e
mutual
/-- data at any depth, all of it tracked -/
inductive Dx (H : Hp) : V → PyData → Prop
  | non : Dx H .non .none
  | bl (b : Bool) : Dx H (.bl b) (.bool b)
  | int (i : Int) : Dx H (.int i) (.int i)
  | str (x : Str) : Dx H (.str x) (.str x)
  | lst {a : Addr} {xs : List V} {ds : List PyData} : H a = some (.lst xs) → DxAll H xs ds → Dx H (.ref a) (.list ds)
  | tup {a : Addr} {xs : List V} {ds : List PyData} : H a = some (.tup xs) → DxAll H xs ds → Dx H (.ref a) (.tuple ds)
inductive DxAll (H : Hp) : List V → List PyData → Prop
  | nil : DxAll H [] []
  | cons {v : V} {vs : List V} {d : PyData} {ds : List PyData} : Dx H v d → DxAll H vs ds → DxAll H (v :: vs) (d :: ds)
end
mutual
theorem Dx.mono {H H' : Hp} (s : Same H H') : ∀ {v : V} {d : PyData}, Dx H v d → Dx H' v d
  | _, _, .non => .non
  | _, _, .bl b => .bl b
  | _, _, .int i => .int i
  | _, _, .str x => .str x
  | _, _, .lst e h => .lst (s _ _ e) (DxAll.mono s h)
  | _, _, .tup e h => .tup (s _ _ e) (DxAll.mono s h)
theorem DxAll.mono {H H' : Hp} (s : Same H H') : ∀ {vs : List V} {ds : List PyData}, DxAll H vs ds → DxAll H' vs ds
  | _, _, .nil => .nil
  | _, _, .cons h t => .cons (Dx.mono s h) (DxAll.mono s t)
end
theorem DxAll.length {H : Hp} : ∀ {vs : List V} {ds : List PyData}, DxAll H vs ds → vs.length = ds.length
  | _, _, .nil => rfl
  | _, _, .cons _ t => by rw [List.length_cons, List.length_cons, DxAll.length t]
theorem DxAll.get {H : Hp} : ∀ {vs : List V} {ds : List PyData} {i : Nat} {v : V}, DxAll H vs ds → vs[i]? = some v → ∃ d, ds[i]? = some d ∧ Dx H v d
  | _, _, _, _, .nil, e => by simp at e
  | _, _, 0, _, .cons h _, e => by
    simp at e
    subst e
    exact ⟨_, rfl, h⟩
  | _, _, i + 1, v, .cons _ t, e => by
    obtain ⟨d, h1, h2⟩ := DxAll.get (i := i) (v := v) t (by simpa using e)
    exact ⟨d, by simpa using h1, h2⟩
theorem DxAll.snoc {H : Hp} {v : V} {d : PyData} (h : Dx H v d) : ∀ {vs : List V} {ds : List PyData}, DxAll H vs ds → DxAll H (vs ++ [v]) (ds ++ [d])
  | _, _, .nil => .cons h .nil
  | _, _, .cons h1 t => .cons h1 (DxAll.snoc h t)
/-- of nesting below n -/
def Sh : Nat → PyData → Prop
  | 0, _ => False
  | n + 1, .list ds => ds.length ≤ 1000 ∧ ∀ d ∈ ds, Sh n d
  | n + 1, .tuple ds => ds.length ≤ 1000 ∧ ∀ d ∈ ds, Sh n d
  | _ + 1, .dict _ => False
  | _ + 1, _ => True
/-- the heap without the objects of M -/
def mask (H : Hp) (M : List Addr) : Hp := fun b => if b ∈ M then none else H b
theorem mask_nil (H : Hp) : mask H [] = H := funext fun b => if_neg List.not_mem_nil
theorem mask_at {H : Hp} {M : List Addr} {a : Addr} {o : HO} (e : mask H M a = some o) : H a = some o ∧ a ∉ M := by
  unfold mask at e
  by_cases h : a ∈ M
  · rw [if_pos h] at e
    cases e
  · rw [if_neg h] at e
    exact ⟨e, h⟩
theorem mask_of {H : Hp} {M : List Addr} {a : Addr} {o : HO} (e : H a = some o) (h : a ∉ M) : mask H M a = some o := (if_neg h).trans e
theorem mask_same {H H' : Hp} {M M' : List Addr} (s : Same H H') (h : ∀ b o, H b = some o → b ∈ M' → b ∈ M) : Same (mask H M) (mask H' M') := fun b o e => by
  obtain ⟨e1, e2⟩ := mask_at e
  exact mask_of (s b o e1) fun z => e2 (h b o e1 z)
theorem mask_upd {H : Hp} {M : List Addr} {a : Addr} {o : HO} (h : a ∈ M) : mask (upd H a o) M = mask H M := funext fun b => by
  unfold mask
  by_cases z : b ∈ M
  · rw [if_pos z, if_pos z]
  · have ne : b ≠ a := fun e => z (e ▸ h)
    rw [if_neg z, if_neg z, upd_ne ne]
theorem dx_ints {H : Hp} : ∀ (ns : List Int), DxAll H (ns.map V.int) (ns.map PyData.int)
  | [] => .nil
  | n :: ns => .cons (.int n) (dx_ints ns)
/-- told a datum -/
def RetD (d : PyData) (H : Hp) (Q : VK) : Prop := ∀ v H2, Ex H H2 → Dx H2 v d → Q v H2
def EvX (te : TE) (σ : L2.St) (H : Hp) (d : PyData) : Prop := ∀ H1, Ex H H1 → ∀ Q : VK, (∀ v H2, Ex H1 H2 → Dx H2 v d → Q v H2) → te σ H1 Q
def SpX (sp : Sp) (vs : List V) (H : Hp) (d : PyData) : Prop := ∀ H1, Ex H H1 → ∀ Q : VK, (∀ v H2, Ex H1 H2 → Dx H2 v d → Q v H2) → ∀ E : XK, sp vs H1 Q E
section
variable {K : PySem.W.Frag} {σ : L2.St} {H H' : Hp} {ta tb te tx : TE} {tz : TS} {D : Ends}
theorem ex_call {sp : Sp} {dvs vs : List V} {d : PyData} {E : XK} {ta : TA} (h : EvA ta σ H vs) (hs : SpX sp (vs ++ dvs) H d) : EvX (tCall sp dvs E ta) σ H d := fun H1 e Q q =>
  h H1 e _ fun H2 e2 => hs H2 (e.trans e2) Q (fun v H3 e3 g => q v H3 (e2.trans e3) g) E
theorem s_asgX {i : Nat} {d : PyData} (h : EvX te σ H d) (k : ∀ v H1, Ex H H1 → Dx H1 v d → D.nx (σ.set i (some v)) H1) : tAsg te (gName i) D σ H := h H (Ex.refl H) _ fun v H1 e g => k v H1 e g
theorem q_asgX {i : Nat} {d : PyData} (h : EvX te σ H d) (k : ∀ v H1, Ex H H1 → Dx H1 v d → tz D (σ.set i (some v)) H1) : tSeq (tAsg te (gName i)) tz D σ H := s_asgX (D := { D with nx := tz D }) h k
theorem s_retX {d : PyData} (h : EvX te σ H d) (k : ∀ v H1, Ex H H1 → Dx H1 v d → D.rt v H1) : tRet te D σ H := h H (Ex.refl H) _ k
end
end KB
set_option Elab.async false
set_option linter.all false
set_option maxRecDepth 100000
set_option maxHeartbeats 4000000
namespace KB
open PySem PySem.Spec PyProof.Rows L2
abbrev sSame : Stmt := topS 14
abbrev nSame : List Str := ["_law_found", "_law_due", "_law_mine", "_law_its"]
theorem scSame : FnScope nSame ["_law_found", "_law_due"] (defScope sSame) := ⟨rfl, rfl, rfl, by decide +kernel, rfl, by decide +kernel, by decide +kernel⟩
/-- equal data: True -/
def spSame (n : Nat) : Sp := fun vs H Q _ => ∃ (x y : V) (d : PyData), vs = [x, y] ∧ Dx H x d ∧ Dx H y d ∧ Sh n d ∧ ∀ H', Same H H' → Q (.bl true) H'
theorem kit2 {K : PySem.W.Frag} {T a b : String} {r1 r2 : Bool} (h1 : kitB T a = some r1) (h2 : kitB T b = some r2) : PySem.W.kitAny K (.type T) [.type a, .type b] = some (r1 || r2) := by
  refine kitAny_cons (kit_ty h1) (fun e => ?_) (fun e => by rw [e]; rfl)
  rw [e]
  refine kitAny_cons (kit_ty h2) (fun e2 => by rw [e2]; exact kitAny_nil) (fun e2 => by rw [e2]; rfl)
theorem walk_zipT2 {K : PySem.W.Frag} {a b : Addr} {xs ys : List V} (hl : xs.length = ys.length) : Walk (RZ.ItzT K a b) xs.length (fun H => SqT K H a xs ∧ SqT K H b ys) (YPair (fun i => xs[i]?) (fun i => ys[i]?)) := by
  refine ⟨fun i _ hi q => ?_, fun _ q => ⟨xs, ys, q.1, q.2, .inl (Nat.le_refl _)⟩, fun i H v H' _ q y => ?_⟩
  · have h2 : i < ys.length := by omega
    exact ⟨xs, ys, xs[i], ys[i], q.1, q.2, List.getElem?_eq_getElem hi, List.getElem?_eq_getElem h2⟩
  · obtain ⟨T, x, z, h1, h2, h3, h4, h5⟩ := y
    exact ⟨T, x, z, h1, h2, h3, h4 xs q.1, h5 ys q.2⟩
section
variable {P : Program} {w : World} {K : PySem.W.Frag} {mg : Str → Option Value} {base : Heap} {f : Addr} {fd : FuncData}
theorem no_same : FnOk P w K mg base CX0 0 f fd ["_law_found", "_law_due"] (spSame 0) :=
  ⟨fun vs H Q E ⟨_, _, _, _, _, _, h, _⟩ => h.elim, fun _ _ _ _ _ _ _ _ _ _ _ _ _ ⟨_, _, _, _, _, _, h, _⟩ => h.elim⟩
theorem ok_same {n : Nat} (F : Fun K "_law_same" "_law_same" sSame f fd) (G : FnOk P w K mg base CX0 n f fd ["_law_found", "_law_due"] (spSame n)) (bG : Binds K fd ["_law_found", "_law_due"] []) (mG : mg "_law_same" = some (.ref f))
    (mI : mg "isinstance" = none) (mL : mg "list" = none) (mT : mg "tuple" = none) (mN : mg "len" = none) (mA : mg "all" = none) (mZ : mg "zip" = none) (mB : mg "bool" = none) (mS : mg "str" = none) (mi : mg "int" = none) :
    FnOk P w K mg base CX0 (n + 1) f fd ["_law_found", "_law_due"] (spSame (n + 1)) := by
  refine F.ok scSame (fun vs H Q E h => ?_) (fun cdv A outer s H vs Q E hr h => ?_)
  · obtain ⟨x, y, d, rfl, _⟩ := h
    rfl
  · obtain ⟨x, y, d, rfl, hx, hy, hs, q⟩ := h
    refine ⟨_, pss_cons (ps_if (pt_val (pe_callB call_isiT (by rfl) mI (by decide +kernel) (pa_cons (pv 1) (pa_cons (pe_tup (pa_cons (pe_bltn (v := .ty "list") (by rfl) mL (by decide +kernel) rfl) (pa_cons (pe_bltn (v := .ty "tuple") (by rfl) mT (by decide +kernel) rfl) pa_nil))) pa_nil))))
        (pss_cons (ps_if (PW.pt (pw_or (pt_cmpR op_ne (pe_callB call_isi (by rfl) mI (by decide +kernel) (pa_cons (pv 0) (pa_cons (pe_bltn (v := .ty "list") (by rfl) mL (by decide +kernel) rfl) pa_nil))) (pe_callB call_isi (by rfl) mI (by decide +kernel) (pa_cons (pv 1) (pa_cons (pe_bltn (v := .ty "list") (by rfl) mL (by decide +kernel) rfl) pa_nil))) (nomark _)) (pw_or1 (pt_cmpR op_ne (pe_callB call_isi (by rfl) mI (by decide +kernel) (pa_cons (pv 0) (pa_cons (pe_bltn (v := .ty "tuple") (by rfl) mT (by decide +kernel) rfl) pa_nil))) (pe_callB call_isi (by rfl) mI (by decide +kernel) (pa_cons (pv 1) (pa_cons (pe_bltn (v := .ty "tuple") (by rfl) mT (by decide +kernel) rfl) pa_nil))) (nomark _)))))
          (pss_one (ps_ret pe_bl)) pss_nil)
        (pss_one (ps_ret (pe_and (pe_cmpR op_eq (pe_callB call_len_seq (by rfl) mN PySem.boot_len (pa_cons (pv 0) pa_nil)) (pe_callB call_len_seq (by rfl) mN PySem.boot_len (pa_cons (pv 1) pa_nil)) (nomark _)) (pe_one (pe_callB (cr_all rfl) (by rfl) mA (by decide +kernel) (pa_cons
          (pe_lc (own := [("_law_mine", 2), ("_law_its", 3)]) (g := gTup _ 2 (gCons (gName 2) (gCons (gName 3) gNil))) (tt := tYes) rfl scSame.nd (RZ.pi_zipA (by rfl) mZ (pa_cons (pv 0) (pa_cons (pv 1) pa_nil))) (blkOk_by (N := nSame) (sc := defScope sSame) (by decide +kernel))
            (fun _ _ _ _ _ => pg_tup rfl (pgs_cons (pg_name (i := 2) scSame.nd rfl (Or.inl rfl)) (pgs_cons (pg_name (i := 3) scSame.nd rfl (Or.inl rfl)) pgs_nil))) (fun _ _ _ _ _ => pts_nil) (fun _ _ _ _ _ => pe_call G hr rfl mG F.kp bG .nil pass0 (pa_cons (pv 2) (pa_cons (pv 3) pa_nil)))) pa_nil))))))) pss_nil)
      (pss_cons (ps_if (PW.pt (pw_or (pt_cmp (pc_isN (pv 1))) (pw_or1 (pt_val (pe_callB call_isiT (by rfl) mI (by decide +kernel) (pa_cons (pv 1) (pa_cons (pe_tup (pa_cons (pe_bltn (v := .ty "bool") (by rfl) mB (by decide +kernel) rfl) (pa_cons (pe_bltn (v := .ty "str") (by rfl) mS (by decide +kernel) rfl) pa_nil))) pa_nil)))))))
        (pss_one (ps_ret (pe_and (pe_cmpR op_eq (pv 0) (pv 1) (nomark _)) (pe_and (pe_cmpR op_eq (pe_callB call_isi (by rfl) mI (by decide +kernel) (pa_cons (pv 0) (pa_cons (pe_bltn (v := .ty "bool") (by rfl) mB (by decide +kernel) rfl) pa_nil))) (pe_callB call_isi (by rfl) mI (by decide +kernel) (pa_cons (pv 1) (pa_cons (pe_bltn (v := .ty "bool") (by rfl) mB (by decide +kernel) rfl) pa_nil))) (nomark _)) (pe_one (pe_cmpR op_eq (pe_cmp (pc_isN (pv 0))) (pe_cmp (pc_isN (pv 1))) (nomark _)))))))  pss_nil)
      (pss_one (ps_ret (pe_and (pe_callB call_isi (by rfl) mI (by decide +kernel) (pa_cons (pv 0) (pa_cons (pe_bltn (v := .ty "int") (by rfl) mi (by decide +kernel) rfl) pa_nil))) (pe_and (pe_not (pe_callB call_isi (by rfl) mI (by decide +kernel) (pa_cons (pv 0) (pa_cons (pe_bltn (v := .ty "bool") (by rfl) mB (by decide +kernel) rfl) pa_nil)))) (pe_one (pe_cmpR op_eq (pv 0) (pv 1) (nomark _)))))))), ?_⟩
    cases hx with
    | non =>
      cases hy
      refine ⟨_, rfl, by show 2 ≤ sizeLine; decide, fun t1 n1 => ⟨_, t1, _, _, _, false, rfl, upd_same, .cons (.ty _) (.cons (.ty _) .nil), .base .non, kit2 (T := "NoneType") (a := "list") (b := "tuple") (r1 := false) (r2 := false) (by decide +kernel) (by decide +kernel), _, rfl, iteF ?_⟩⟩
      have s1 := same_new (o := HO.tup [.ty "list", .ty "tuple"]) n1
      refine ⟨_, rfl, _, rfl, iteT (iteT ?_)⟩
      refine ⟨_, rfl, _, rfl, rfl, _, rfl, iteT ?_⟩
      refine ⟨_, rfl, _, _, _, _, false, rfl, .ty _, .base .non, kit_ty (by decide +kernel), _, rfl, _, _, _, _, false, rfl, .ty _, .base .non, kit_ty (by decide +kernel), rfl, _, rfl, iteT ?_⟩
      exact ⟨_, rfl, _, rfl, rfl, q _ s1⟩
    | bl b =>
      cases hy
      refine ⟨_, rfl, by show 2 ≤ sizeLine; decide, fun t1 n1 => ⟨_, t1, _, _, _, false, rfl, upd_same, .cons (.ty _) (.cons (.ty _) .nil), .base (.bl b), kit2 (T := "bool") (a := "list") (b := "tuple") (r1 := false) (r2 := false) (by decide +kernel) (by decide +kernel), _, rfl, iteF ?_⟩⟩
      have s1 := same_new (o := HO.tup [.ty "list", .ty "tuple"]) n1
      refine ⟨_, rfl, _, rfl, iteF ?_⟩
      refine ⟨_, rfl, by show 2 ≤ sizeLine; decide, fun t2 n2 => ⟨_, t2, _, _, _, true, rfl, upd_same, .cons (.ty _) (.cons (.ty _) .nil), .base (.bl b), kit2 (T := "bool") (a := "bool") (b := "str") (r1 := true) (r2 := false) (by decide +kernel) (by decide +kernel), _, rfl, iteT ?_⟩⟩
      have s2 := s1.trans (same_new (o := HO.tup [.ty "bool", .ty "str"]) n2)
      refine ⟨_, rfl, _, rfl, rfl, _, rfl, ?_⟩
      rw [decide_eq_true (rfl : (V.bl b) = V.bl b)]
      refine iteT ⟨_, rfl, _, _, _, _, true, rfl, .ty _, .base (.bl b), kit_ty (by decide +kernel), _, rfl, _, _, _, _, true, rfl, .ty _, .base (.bl b), kit_ty (by decide +kernel), rfl, _, rfl, iteT ?_⟩
      exact ⟨_, rfl, _, rfl, rfl, q _ s2⟩
    | str z =>
      cases hy
      refine ⟨_, rfl, by show 2 ≤ sizeLine; decide, fun t1 n1 => ⟨_, t1, _, _, _, false, rfl, upd_same, .cons (.ty _) (.cons (.ty _) .nil), .base (.str z), kit2 (T := "str") (a := "list") (b := "tuple") (r1 := false) (r2 := false) (by decide +kernel) (by decide +kernel), _, rfl, iteF ?_⟩⟩
      have s1 := same_new (o := HO.tup [.ty "list", .ty "tuple"]) n1
      refine ⟨_, rfl, _, rfl, iteF ?_⟩
      refine ⟨_, rfl, by show 2 ≤ sizeLine; decide, fun t2 n2 => ⟨_, t2, _, _, _, true, rfl, upd_same, .cons (.ty _) (.cons (.ty _) .nil), .base (.str z), kit2 (T := "str") (a := "bool") (b := "str") (r1 := false) (r2 := true) (by decide +kernel) (by decide +kernel), _, rfl, iteT ?_⟩⟩
      have s2 := s1.trans (same_new (o := HO.tup [.ty "bool", .ty "str"]) n2)
      refine ⟨_, rfl, _, rfl, rfl, _, rfl, ?_⟩
      rw [decide_eq_true (rfl : (V.str z) = V.str z)]
      refine iteT ⟨_, rfl, _, _, _, _, false, rfl, .ty _, .base (.str z), kit_ty (by decide +kernel), _, rfl, _, _, _, _, false, rfl, .ty _, .base (.str z), kit_ty (by decide +kernel), rfl, _, rfl, iteT ?_⟩
      exact ⟨_, rfl, _, rfl, rfl, q _ s2⟩
    | int i =>
      cases hy
      refine ⟨_, rfl, by show 2 ≤ sizeLine; decide, fun t1 n1 => ⟨_, t1, _, _, _, false, rfl, upd_same, .cons (.ty _) (.cons (.ty _) .nil), .base (.int i), kit2 (T := "int") (a := "list") (b := "tuple") (r1 := false) (r2 := false) (by decide +kernel) (by decide +kernel), _, rfl, iteF ?_⟩⟩
      have s1 := same_new (o := HO.tup [.ty "list", .ty "tuple"]) n1
      refine ⟨_, rfl, _, rfl, iteF ?_⟩
      refine ⟨_, rfl, by show 2 ≤ sizeLine; decide, fun t2 n2 => ⟨_, t2, _, _, _, false, rfl, upd_same, .cons (.ty _) (.cons (.ty _) .nil), .base (.int i), kit2 (T := "int") (a := "bool") (b := "str") (r1 := false) (r2 := false) (by decide +kernel) (by decide +kernel), _, rfl, iteF ?_⟩⟩
      have s2 := s1.trans (same_new (o := HO.tup [.ty "bool", .ty "str"]) n2)
      refine ⟨_, rfl, _, _, _, _, true, rfl, .ty _, .base (.int i), kit_ty (by decide +kernel), _, rfl, iteT ?_⟩
      refine ⟨_, rfl, _, _, _, _, false, rfl, .ty _, .base (.int i), kit_ty (by decide +kernel), _, rfl, _, rfl, iteT ?_⟩
      refine ⟨_, rfl, _, rfl, rfl, ?_⟩
      rw [decide_eq_true (rfl : (V.int i) = V.int i)]
      exact q _ s2
    | @lst a xs ds ea hxs =>
      cases hy with
      | @lst b ys _ eb hys =>
        have hlen : xs.length = ys.length := hxs.length.trans hys.length.symm
        refine ⟨_, rfl, by show 2 ≤ sizeLine; decide, fun t1 n1 => ?_⟩
        have s1 := same_new (o := HO.tup [.ty "list", .ty "tuple"]) n1
        refine ⟨_, t1, _, _, _, true, rfl, upd_same, .cons (.ty _) (.cons (.ty _) .nil), .base (.lst (s1 _ _ eb)), kit2 (T := "list") (a := "list") (b := "tuple") (r1 := true) (r2 := false) (by decide +kernel) (by decide +kernel), _, rfl, iteT ?_⟩
        refine ⟨_, rfl, _, _, _, _, true, rfl, .ty _, .base (.lst (s1 _ _ ea)), kit_ty (by decide +kernel), _, rfl, _, _, _, _, true, rfl, .ty _, .base (.lst (s1 _ _ eb)), kit_ty (by decide +kernel), rfl, _, rfl, iteF ?_⟩
        refine ⟨_, rfl, _, _, _, _, false, rfl, .ty _, .base (.lst (s1 _ _ ea)), kit_ty (by decide +kernel), _, rfl, _, _, _, _, false, rfl, .ty _, .base (.lst (s1 _ _ eb)), kit_ty (by decide +kernel), rfl, _, rfl, iteF ?_⟩
        refine ⟨_, rfl, a, xs, rfl, .inl (SqL.of (s1 _ _ ea)), _, rfl, b, ys, rfl, .inl (SqL.of (s1 _ _ eb)), rfl, _, rfl, ?_⟩
        rw [hlen, decide_eq_true (rfl : (V.int (ys.length : Int)) = V.int (ys.length : Int))]
        refine iteT ?_
        refine ⟨_, rfl, _, rfl, a, b, xs, ys, rfl, .inl ⟨SqL.of (s1 _ _ ea), SqL.of (s1 _ _ eb), fun D nD => ?_⟩⟩
        have nDH : H D = none := s1.free nD
        refine lc_it (walk_zip (n := xs.length) (by omega)) (fun i H3 => Same H H3 ∧ H3 D = some (.lst ((List.replicate i true).map V.bl)))
          ⟨s1.trans (same_new nD), upd_same⟩ (fun i H3 _ p => ⟨SqL.of (p.1 _ _ ea), SqL.of (p.1 _ _ eb)⟩) ?_ ?_
        · rintro i x H3 H4 hi ⟨s3, eD⟩ ⟨t, x1, x2, rfl, nt, rfl, f1, f2⟩
          have f1' : xs[i]? = some x1 := f1
          have f2' : ys[i]? = some x2 := f2
          obtain ⟨d1, e1, g1⟩ := hxs.get f1'
          obtain ⟨d2, e2, g2⟩ := hys.get f2'
          obtain rfl : d1 = d2 := Option.some.inj (e1.symm.trans e2)
          have s4 := s3.trans (same_new (o := HO.tup [x1, x2]) nt)
          refine ⟨t, _, rfl, .inl (.inl upd_same), rfl, _, _, rfl, _, _, rfl, rfl, rfl, _, rfl, _, rfl, x1, x2, d1, rfl, g1.mono s4, g2.mono s4, hs.2 d1 (List.mem_of_getElem? e1), fun H5 s5 => ?_⟩
          refine ⟨_, s5 _ _ ((upd_ne (ne_of_none eD nt)).trans eD), ?_, same_mut (s4.trans s5) nDH, ?_⟩
          · rw [List.length_map, List.length_replicate]
            have z := hs.1
            have z2 := hxs.length
            exact Nat.lt_of_le_of_lt (show i ≤ 1000 by omega) (by decide)
          · rw [upd_same, List.replicate_succ', List.map_append]
            rfl
        · rintro H3 ⟨s3, eD⟩
          refine ⟨D, _, rfl, SqL.of eD, ?_⟩
          have al : (List.replicate xs.length true).all id = true := by
            rw [List.all_eq_true]
            intro z hz
            rw [List.eq_of_mem_replicate hz]
            rfl
          rw [al]
          exact q _ s3
    | @tup a xs ds ea hxs =>
      cases hy with
      | @tup b ys _ eb hys =>
        have hlen : xs.length = ys.length := hxs.length.trans hys.length.symm
        refine ⟨_, rfl, by show 2 ≤ sizeLine; decide, fun t1 n1 => ?_⟩
        have s1 := same_new (o := HO.tup [.ty "list", .ty "tuple"]) n1
        refine ⟨_, t1, _, _, _, true, rfl, upd_same, .cons (.ty _) (.cons (.ty _) .nil), .base (.tup (s1 _ _ eb)), kit2 (T := "tuple") (a := "list") (b := "tuple") (r1 := false) (r2 := true) (by decide +kernel) (by decide +kernel), _, rfl, iteT ?_⟩
        refine ⟨_, rfl, _, _, _, _, false, rfl, .ty _, .base (.tup (s1 _ _ ea)), kit_ty (by decide +kernel), _, rfl, _, _, _, _, false, rfl, .ty _, .base (.tup (s1 _ _ eb)), kit_ty (by decide +kernel), rfl, _, rfl, iteF ?_⟩
        refine ⟨_, rfl, _, _, _, _, true, rfl, .ty _, .base (.tup (s1 _ _ ea)), kit_ty (by decide +kernel), _, rfl, _, _, _, _, true, rfl, .ty _, .base (.tup (s1 _ _ eb)), kit_ty (by decide +kernel), rfl, _, rfl, iteF ?_⟩
        refine ⟨_, rfl, a, xs, rfl, .inr (SqT.of (s1 _ _ ea)), _, rfl, b, ys, rfl, .inr (SqT.of (s1 _ _ eb)), rfl, _, rfl, ?_⟩
        rw [hlen, decide_eq_true (rfl : (V.int (ys.length : Int)) = V.int (ys.length : Int))]
        refine iteT ?_
        refine ⟨_, rfl, _, rfl, a, b, xs, ys, rfl, .inr ⟨SqT.of (s1 _ _ ea), SqT.of (s1 _ _ eb), fun D nD => ?_⟩⟩
        have nDH : H D = none := s1.free nD
        refine lc_it (walk_zipT2 hlen) (fun i H3 => Same H H3 ∧ H3 D = some (.lst ((List.replicate i true).map V.bl)))
          ⟨s1.trans (same_new nD), upd_same⟩ (fun i H3 _ p => ⟨SqT.of (p.1 _ _ ea), SqT.of (p.1 _ _ eb)⟩) ?_ ?_
        · rintro i x H3 H4 hi ⟨s3, eD⟩ ⟨t, x1, x2, rfl, nt, rfl, f1, f2⟩
          have f1' : xs[i]? = some x1 := f1
          have f2' : ys[i]? = some x2 := f2
          obtain ⟨d1, e1, g1⟩ := hxs.get f1'
          obtain ⟨d2, e2, g2⟩ := hys.get f2'
          obtain rfl : d1 = d2 := Option.some.inj (e1.symm.trans e2)
          have s4 := s3.trans (same_new (o := HO.tup [x1, x2]) nt)
          refine ⟨t, _, rfl, .inl (.inl upd_same), rfl, _, _, rfl, _, _, rfl, rfl, rfl, _, rfl, _, rfl, x1, x2, d1, rfl, g1.mono s4, g2.mono s4, hs.2 d1 (List.mem_of_getElem? e1), fun H5 s5 => ?_⟩
          refine ⟨_, s5 _ _ ((upd_ne (ne_of_none eD nt)).trans eD), ?_, same_mut (s4.trans s5) nDH, ?_⟩
          · rw [List.length_map, List.length_replicate]
            have z := hs.1
            have z2 := hxs.length
            exact Nat.lt_of_le_of_lt (show i ≤ 1000 by omega) (by decide)
          · rw [upd_same, List.replicate_succ', List.map_append]
            rfl
        · rintro H3 ⟨s3, eD⟩
          refine ⟨D, _, rfl, SqL.of eD, ?_⟩
          have al : (List.replicate xs.length true).all id = true := by
            rw [List.all_eq_true]
            intro z hz
            rw [List.eq_of_mem_replicate hz]
            rfl
          rw [al]
          exact q _ s3
end
end KB
set_option Elab.async false
set_option linter.all false
set_option maxRecDepth 100000
set_option maxHeartbeats 4000000
namespace L2
open PySem PySem.Spec PyProof.Rows
/-! ### defs, methods, makers, exceptions: their facts in one -/
/-- a def of the module -/
structure Kf (P : Program) (w : World) (K : PySem.W.Frag) (mg : Str → Option Value) (base : Heap) (L : Nat) (x : Str) (ps : List Str) (sp : Sp) : Prop where
  ex : ∃ k f fd, k ≤ L ∧ FnOk P w K mg base CX0 k f fd ps sp ∧ Binds K fd ps [] ∧ PySem.W.keepIn K (.ref f) = true ∧ mg x = some (.ref f)
/-- a def that may raise -/
structure KfX (P : Program) (w : World) (K : PySem.W.Frag) (mg : Str → Option Value) (base : Heap) (L : Nat) (x : Str) (ps : List Str) (sp : Sp) : Prop where
  ex : ∃ k f fd, k ≤ L ∧ FnOk P w K mg base (L2.CX P w) k f fd ps sp ∧ Binds K fd ps [] ∧ PySem.W.keepIn K (.ref f) = true ∧ mg x = some (.ref f)
/-- a method -/
structure Km (P : Program) (w : World) (K : PySem.W.Frag) (mg : Str → Option Value) (base : Heap) (L : Nat) (C : Addr) (m : Str) (ps : List Str) (sp : Sp) : Prop where
  ex : ∃ k f fd, k ≤ L ∧ FnOk P w K mg base CX0 k f fd ps sp ∧ Binds K fd ps [] ∧ Meth K C m f
  cls : Cls K C
structure KmX (P : Program) (w : World) (K : PySem.W.Frag) (mg : Str → Option Value) (base : Heap) (L : Nat) (C : Addr) (m : Str) (ps : List Str) (sp : Sp) : Prop where
  ex : ∃ k f fd, k ≤ L ∧ FnOk P w K mg base (L2.CX P w) k f fd ps sp ∧ Binds K fd ps [] ∧ Meth K C m f
  cls : Cls K C
/-- a class that is made -/
structure Kc (P : Program) (w : World) (K : PySem.W.Frag) (mg : Str → Option Value) (base : Heap) (L : Nat) (C : Addr) (x : Str) (ps : List Str) (sp : Sp) : Prop where
  ex : ∃ k f fd, k + 1 ≤ L ∧ FnOk P w K mg base CX0 k f fd ps sp ∧ Binds K fd ps [] ∧ Mk K C f ∧ mg x = some (.ref C)
/-- an exception class with an __init__ -/
structure Ke (P : Program) (w : World) (K : PySem.W.Frag) (mg : Str → Option Value) (base : Heap) (L : Nat) (C : Addr) (x : Str) (sp : Sp) : Prop where
  ex : ∃ B newId initId bmB fI k fd ps, k + 1 ≤ L ∧ ExcBaseFacts B newId initId bmB ∧ ExK K C fI bmB newId ∧ PySem.W.typeIn K (.ref C) = some (.type "type") ∧ FnOk P w K mg base CX0 k fI fd ps sp ∧ Binds K fd ps [] ∧ mg x = some (.ref C)
theorem Ke.isc {P : Program} {w : World} {K : PySem.W.Frag} {mg : Str → Option Value} {base : Heap} {L : Nat} {C : Addr} {x : Str} {sp : Sp} (T : Ke P w K mg base L C x sp) : ExcC K C := by
  obtain ⟨_, _, _, _, _, _, _, _, _, _, T, _⟩ := T.ex
  exact T.isc
theorem Ke.at_ {P : Program} {w : World} {K : PySem.W.Frag} {mg : Str → Option Value} {base : Heap} {L : Nat} {C : Addr} {x : Str} {sp : Sp} (T : Ke P w K mg base L C x sp) : mg x = some (.ref C) := by
  obtain ⟨_, _, _, _, _, _, _, _, _, _, _, _, _, _, m⟩ := T.ex
  exact m
section
variable {X : Cx} {L : Nat} {C : Addr} {ps : List Str} {sp : Sp} {x m : Str} {p pos apos : Pos} {e o : Expr} {es : List Expr} {ta : TE} {t : TA}
theorem pe_fn (G : Kf X.prog X.w X.K X.mg X.base L x ps sp) (hr : Room L X.A) (ha : PA X (e :: es) t) (hg : Gl X x := by rfl) (hdb : (x == ("__debug__" : Str)) = false := by decide)
    (he : starEach (e :: es) X.env = (false, eval e X.env) :: starEach es X.env := by rfl) (hpl : (backTo pos (starEach es X.env)).any (·.1) = false := by rfl) : PE X (.Call (.Name x p) (e :: es) [] pos) (tCall sp [] E0 t) := by
  obtain ⟨k, f, fd, hk, F, b, kp, mg⟩ := G.ex
  exact pe_call F (hr.mono hk) hg mg kp b .nil pass0 ha hdb he hpl
theorem pe_fn0 (G : Kf X.prog X.w X.K X.mg X.base L x ps sp) (hr : Room L X.A) (hg : Gl X x := by rfl) (hdb : (x == ("__debug__" : Str)) = false := by decide) : PE X (.Call (.Name x p) [] [] pos) (tCall sp [] E0 tNil) := by
  obtain ⟨k, f, fd, hk, F, b, kp, mg⟩ := G.ex
  exact pe_call0 F (hr.mono hk) hg mg kp b .nil pass0 hdb
theorem pe_mt {pl : Sem Bool} (he : PE X o ta) (G : Km X.prog X.w X.K X.mg X.base L C m ps sp) (hr : Room L X.A) (ha : PA X (e :: es) t)
    (hst : starEach (e :: es) X.env = (false, eval e X.env) :: starEach es X.env := by rfl) (hpl : (backTo pos (starEach es X.env)).any (·.1) = false := by rfl)
    (ht : eval (.Call (.Attribute o m apos) (e :: es) [] pos) X.env = (do
      let ov ← eval o X.env
      standAt apos.atName
      let (f, first) ← holding [ov] (getMethod ov m pl)
      callWith pos f first (backTo pos (starEach (e :: es) X.env)) (backToKw pos (keywordEach [] X.env))) := by rfl) :
    PE X (.Call (.Attribute o m apos) (e :: es) [] pos) (tMeth C m sp [] E0 ta t) := by
  obtain ⟨k, f, fd, hk, F, b, M⟩ := G.ex
  exact pe_meth (pl := pl) he G.cls M F (hr.mono hk) b .nil pass0 ha hst hpl ht
theorem pe_mt0 {pl : Sem Bool} (he : PE X o ta) (G : Km X.prog X.w X.K X.mg X.base L C m ps sp) (hr : Room L X.A)
    (ht : eval (.Call (.Attribute o m apos) [] [] pos) X.env = (do
      let ov ← eval o X.env
      standAt apos.atName
      let (f, first) ← holding [ov] (getMethod ov m pl)
      callWith pos f first (backTo pos (starEach [] X.env)) (backToKw pos (keywordEach [] X.env))) := by rfl) :
    PE X (.Call (.Attribute o m apos) [] [] pos) (tMeth C m sp [] E0 ta tNil) := by
  obtain ⟨k, f, fd, hk, F, b, M⟩ := G.ex
  exact pe_meth0 (pl := pl) he G.cls M F (hr.mono hk) b .nil pass0 ht
theorem pe_mk (G : Kc X.prog X.w X.K X.mg X.base L C x ps sp) (hr : Room L X.A) (ha : PA X (e :: es) t) (hg : Gl X x := by rfl) (hdb : (x == ("__debug__" : Str)) = false := by decide)
    (he : starEach (e :: es) X.env = (false, eval e X.env) :: starEach es X.env := by rfl) (hpl : (backTo pos (starEach es X.env)).any (·.1) = false := by rfl) : PE X (.Call (.Name x p) (e :: es) [] pos) (tMake C sp [] E0 t) := by
  obtain ⟨k, f, fd, hk, F, b, M, mg⟩ := G.ex
  exact pe_make M F (hr.mono hk) hg mg b .nil pass0 ha hdb he hpl
theorem pe_mk0 (G : Kc X.prog X.w X.K X.mg X.base L C x ps sp) (hr : Room L X.A) (hg : Gl X x := by rfl) (hdb : (x == ("__debug__" : Str)) = false := by decide) : PE X (.Call (.Name x p) [] [] pos) (tMake C sp [] E0 tNil) := by
  obtain ⟨k, f, fd, hk, F, b, M, mg⟩ := G.ex
  exact pe_make0 M F (hr.mono hk) hg mg b .nil pass0 hdb
theorem pmk_C (T : Ke X.prog X.w X.K X.mg X.base L C x sp) (hr : Room L X.A) (ha : PA X (e :: es) t) (hg : Gl X x := by rfl) (hdb : (x == ("__debug__" : Str)) = false := by decide)
    (he : starEach (e :: es) X.env = (false, eval e X.env) :: starEach es X.env := by rfl) (hpl : (backTo pos (starEach es X.env)).any (·.1) = false := by rfl) : PMk X (.Call (.Name x p) (e :: es) [] pos) (tMkO C sp [] t) := by
  obtain ⟨B, newId, initId, bmB, fI, k, fd, ps, hk, FB, T, ty, F, b, mg⟩ := T.ex
  exact pmk_bex FB T ty F (hr.mono hk) b hg mg ha hdb he hpl
end
/-! ### calls that may raise, in a try -/
section
variable {X : Cx} {L : Nat} {C : Addr} {ps : List Str} {sp : Sp} {E : St → XK} {x m : Str} {p pos apos : Pos} {e o : Expr} {es : List Expr} {ta : TE} {t : TA}
theorem pe_fnS (G : KfX X.prog X.w X.K X.mg X.base L x ps sp) (hr : Room L X.A) (hx : ∀ σ, PassesAt (L2.CX X.prog X.w) X σ (E σ)) (ha : PA X (e :: es) t) (hg : Gl X x := by rfl) (hdb : (x == ("__debug__" : Str)) = false := by decide)
    (he : starEach (e :: es) X.env = (false, eval e X.env) :: starEach es X.env := by rfl) (hpl : (backTo pos (starEach es X.env)).any (·.1) = false := by rfl) : PE X (.Call (.Name x p) (e :: es) [] pos) (tCallS sp E t) := by
  obtain ⟨k, f, fd, hk, F, b, kp, mg⟩ := G.ex
  exact pe_callS F (hr.mono hk) hg mg kp b hx ha hdb he hpl
def tMethX (C : Addr) (m : Str) (sp : Sp) (E : St → XK) (ta : TE) (t : TA) : TE := fun σ H Q => ta σ H fun x H1 => ∃ a dx fs, x = .ref a ∧ H1 a = some (.ins C dx fs) ∧ fs.lookup m = none ∧ t σ H1 fun vs H2 => sp (x :: vs) H2 Q (E σ)
theorem pe_mtS {pl : Sem Bool} (he : PE X o ta) (G : KmX X.prog X.w X.K X.mg X.base L C m ps sp) (hr : Room L X.A) (hx : ∀ σ, PassesAt (L2.CX X.prog X.w) X σ (E σ)) (ha : PA X (e :: es) t)
    (hst : starEach (e :: es) X.env = (false, eval e X.env) :: starEach es X.env := by rfl) (hpl : (backTo pos (starEach es X.env)).any (·.1) = false := by rfl)
    (ht : eval (.Call (.Attribute o m apos) (e :: es) [] pos) X.env = (do
      let ov ← eval o X.env
      standAt apos.atName
      let (f, first) ← holding [ov] (getMethod ov m pl)
      callWith pos f first (backTo pos (starEach (e :: es) X.env)) (backToKw pos (keywordEach [] X.env))) := by rfl) :
    PE X (.Call (.Attribute o m apos) (e :: es) [] pos) (tMethX C m sp E ta t) := by
  obtain ⟨k, f, fd, hk, F, b, M⟩ := G.ex
  refine ⟨fun pins s σ H Q I h => ?_⟩
  refine PySem.W.methodCall_KW (pl := pl) (thn (he.run pins s σ H _ I h) fun u s1 ⟨x, H1, I1, rx, a, dx, fs, ex, ea, l, q⟩ => ?_) ht
  subst ex
  obtain rfl : u = Value.ref a := rx
  refine getmeth_ok I1 ea G.cls M l ?_
  refine PySem.W.callWith_K (first := [.ref a]) (h₀ := X.base) I.ok.mod.kin M.kp (thn (ha.run pos pins s1 σ H1 _ I1 q) fun us s2 ⟨vs, H2, I2, r, q2⟩ => ⟨I2.kIn, ?_⟩) hst hpl
  exact run_fnS (us := .ref a :: us) (vs := .ref a :: vs) F (hr.mono hk) b (hx σ) I2 (.cons rfl r) q2
theorem pe_mtS0 {pl : Sem Bool} (he : PE X o ta) (G : KmX X.prog X.w X.K X.mg X.base L C m ps sp) (hr : Room L X.A) (hx : ∀ σ, PassesAt (L2.CX X.prog X.w) X σ (E σ))
    (ht : eval (.Call (.Attribute o m apos) [] [] pos) X.env = (do
      let ov ← eval o X.env
      standAt apos.atName
      let (f, first) ← holding [ov] (getMethod ov m pl)
      callWith pos f first (backTo pos (starEach [] X.env)) (backToKw pos (keywordEach [] X.env))) := by rfl) :
    PE X (.Call (.Attribute o m apos) [] [] pos) (tMethX C m sp E ta tNil) := by
  obtain ⟨k, f, fd, hk, F, b, M⟩ := G.ex
  refine ⟨fun pins s σ H Q I h => ?_⟩
  refine PySem.W.methodCall_KW (pl := pl) (thn (he.run pins s σ H _ I h) fun u s1 ⟨x, H1, I1, rx, a, dx, fs, ex, ea, l, q⟩ => ?_) ht
  subst ex
  obtain rfl : u = Value.ref a := rx
  refine getmeth_ok I1 ea G.cls M l ?_
  exact PySem.W.callWith_K0 (first := [.ref a]) I1.kIn M.kp (run_fnS (us := [.ref a]) (vs := [.ref a]) F (hr.mono hk) b (hx σ) I1 (.cons rfl .nil) q)
end
/-! ### what an error is made with -/
abbrev mroV : List Value := [.type "ValueError", .type "Exception", .type "BaseException", .type "object"]
abbrev mroL : List Value := [.type "LookupError", .type "Exception", .type "BaseException", .type "object"]
abbrev mroR : List Value := [.type "RuntimeError", .type "Exception", .type "BaseException", .type "object"]
theorem ty_V : typeOf (.type "ValueError") = pure (.type "type") := by kernel_rfl
theorem ty_L : typeOf (.type "LookupError") = pure (.type "type") := by kernel_rfl
theorem ty_R : typeOf (.type "RuntimeError") = pure (.type "type") := by kernel_rfl
/-- a number or a word that an error is made with -/
def Said (y : V) : Prop := (∃ i : Int, y = .int i ∧ i.natAbs.log2 < 900) ∨ ∃ z : Str, y = .str z ∧ z.length ≤ 1000
theorem said_fmt {y : V} (h : Said y) : ∃ m : Str, m.length ≤ 1000 ∧ ∀ (σ : L2.St) (j : Nat) (H : Hp) (Q : VK), σ[j]? = some (some y) → Q (.str m) H → tFmt (tVar j) σ H Q := by
  rcases h with ⟨i, rfl, hi⟩ | ⟨z, rfl, hz⟩
  · refine ⟨toString i, ?_, fun σ j H Q e q => ⟨_, e, .inr ⟨i, rfl, by omega, q⟩⟩⟩
    have e := int_text_length_le (k := 900) (by decide) hi
    rw [PySem.ofString_length]
    omega
  · exact ⟨z, hz, fun σ j H Q e q => ⟨_, e, .inl ⟨z, rfl, Nat.le_trans hz (by decide), q⟩⟩⟩
theorem len_add {a b : Str} {n m k : Nat} (ha : a.length ≤ n) (hb : b.length ≤ m) (h : n + m ≤ k) : (a ++ b).length ≤ k := by
  rw [strLen_append]
  omega
def spInit0 (C : Addr) : Sp := fun vs H Q _ => ∃ a : Addr, vs = [.ref a] ∧ H a = some (exo a C none) ∧ Q .non H
def spInit (C : Addr) (f : Str) : Sp := fun vs H Q _ => ∃ (a : Addr) (y : V), vs = [.ref a, y] ∧ H a = some (exo a C none) ∧ Said y ∧
  ∀ dx, H dx = none → dx ≠ a → Q .non (upd (upd H dx (exd dx [(f, y)])) a (exo a C (some dx)))
theorem sz0 : (Str.empty : Str).length ≤ 0 := by decide +kernel
theorem small_line {n : Nat} (h : n ≤ 100000) : n ≤ sizeLine := Nat.le_trans h (by decide)
end L2
namespace Evl
open PySem L2
/-! ### heaps that change within M -/
def Xc (M : List Addr) (H H' : Hp) : Prop := ∀ a o, a ∉ M → H a = some o → H' a = some o
theorem Xc.of {M : List Addr} {H H' : Hp} (e : Ex H H') : Xc M H H' := fun a o _ h => e a o h
theorem Xc.trans {M : List Addr} {H H1 H2 : Hp} (a : Xc M H H1) (b : Xc M H1 H2) : Xc M H H2 := fun x o n h => b x o n (a x o n h)
theorem Xc.sub {M M' : List Addr} {H H' : Hp} (e : Xc M H H') (h : ∀ a ∈ M, a ∈ M') : Xc M' H H' := fun a o n g => e a o (fun z => n (h a z)) g
theorem Xc.put {M : List Addr} {H H' : Hp} {p : Addr} {o : HO} (e : Xc M H H') (h : p ∈ M) : Xc M H (upd H' p o) := fun a u n g => by
  have ne : a ≠ p := fun z => n (by rw [z]; exact h)
  rw [upd_ne ne]
  exact e a u n g
theorem Xc.new {M : List Addr} {H H' : Hp} {p : Addr} {o : HO} (e : Xc M H H') (h : H p = none) : Xc M H (upd H' p o) := fun a u n g => by
  rw [upd_ne (ne_of_none g h)]
  exact e a u n g
theorem Xc.refl (M : List Addr) (H : Hp) : Xc M H H := fun _ _ _ h => h
section
variable {K : PySem.W.Frag} {σ : L2.St} {H H' : Hp} {ta tb te tx : TE} {t : TA} {x y z v : V} {Q : VK} {D : Ends} {tz : TS}
/-- a call, whatever it does -/
theorem ef_call {sp : Sp} {vs : List V} {E : XK} (h : EvA t σ H vs) (k : ∀ H1, Ex H H1 → sp vs H1 Q E) : tCall sp [] E t σ H Q := h H (Ex.refl H) _ fun H1 e => by
  show sp (vs ++ []) H1 Q E
  rw [List.append_nil]
  exact k H1 e
theorem ef_meth {C : Addr} {m : Str} {sp : Sp} {E : XK} {vs : List V} {a dx : Addr} {fs : List (Str × V)} (ho : Ev ta σ H (.ref a)) (he : H a = some (.ins C dx fs)) (hl : fs.lookup m = none) (h : EvA t σ H vs) (k : ∀ H1, Ex H H1 → sp (.ref a :: vs) H1 Q E) : tMeth C m sp [] E ta t σ H Q :=
  ho H (Ex.refl H) _ fun H1 e1 => ⟨a, dx, fs, rfl, e1 _ _ he, hl, h H1 e1 _ fun H2 e2 => by
    show sp (.ref a :: (vs ++ [])) H2 Q E
    rw [List.append_nil]
    exact k H2 (e1.trans e2)⟩
theorem ef_methX {C : Addr} {m : Str} {sp : Sp} {E : L2.St → XK} {vs : List V} {a dx : Addr} {fs : List (Str × V)} (ho : Ev ta σ H (.ref a)) (he : H a = some (.ins C dx fs)) (hl : fs.lookup m = none) (h : EvA t σ H vs) (k : ∀ H1, Ex H H1 → sp (.ref a :: vs) H1 Q (E σ)) : tMethX C m sp E ta t σ H Q :=
  ho H (Ex.refl H) _ fun H1 e1 => ⟨a, dx, fs, rfl, e1 _ _ he, hl, h H1 e1 _ fun H2 e2 => k H2 (e1.trans e2)⟩
theorem ef_ev (h : Ev te σ H v) (k : ∀ H1, Ex H H1 → Q v H1) : te σ H Q := h H (Ex.refl H) _ k
/-- o.f = e -/
theorem s_fld {f : Str} {a C dx : Addr} {fs : List (Str × V)} (hv : Ev te σ H v) (ho : Ev ta σ H (.ref a)) (he : H a = some (.ins C dx fs)) (c : Cls K C) (n : NoAttr K C f) (hl : fs.length < 1000) (k : ∀ H1, Ex H H1 → D.nx σ (upd H1 a (.ins C dx (putF f v fs)))) : sFld K ta te f D σ H :=
  hv H (Ex.refl H) _ fun H1 e1 => ho H1 e1 _ fun H2 e2 => ⟨a, C, dx, fs, rfl, (e1.trans e2) _ _ he, c, n, hl, k H2 (e1.trans e2)⟩
theorem q_fld {f : Str} {a C dx : Addr} {fs : List (Str × V)} (hv : Ev te σ H v) (ho : Ev ta σ H (.ref a)) (he : H a = some (.ins C dx fs)) (c : Cls K C) (n : NoAttr K C f) (hl : fs.length < 1000) (k : ∀ H1, Ex H H1 → tz D σ (upd H1 a (.ins C dx (putF f v fs)))) : tSeq (sFld K ta te f) tz D σ H :=
  s_fld (D := { D with nx := tz D }) hv ho he c n hl k
theorem s_fldL {f : Str} {a C dx : Addr} {fs : List (Str × V)} {xs : List V} (hv : EvL te σ H xs) (ho : Ev ta σ H (.ref a)) (he : H a = some (.ins C dx fs)) (c : Cls K C) (n : NoAttr K C f) (hl : fs.length < 1000) (k : ∀ p H1, H p = none → Ex H H1 → H1 p = some (.lst xs) → D.nx σ (upd H1 a (.ins C dx (putF f (.ref p) fs)))) : sFld K ta te f D σ H :=
  hv H (Ex.refl H) _ fun p H1 np e1 gp => ho H1 e1 _ fun H2 e2 => ⟨a, C, dx, fs, rfl, (e1.trans e2) _ _ he, c, n, hl, k p H2 np (e1.trans e2) (e2 _ _ gp)⟩
theorem q_fldL {f : Str} {a C dx : Addr} {fs : List (Str × V)} {xs : List V} (hv : EvL te σ H xs) (ho : Ev ta σ H (.ref a)) (he : H a = some (.ins C dx fs)) (c : Cls K C) (n : NoAttr K C f) (hl : fs.length < 1000) (k : ∀ p H1, H p = none → Ex H H1 → H1 p = some (.lst xs) → tz D σ (upd H1 a (.ins C dx (putF f (.ref p) fs)))) : tSeq (sFld K ta te f) tz D σ H :=
  s_fldL (D := { D with nx := tz D }) hv ho he c n hl k
/-- raise C(e) -/
theorem s_raise {C : Addr} {f : Str} {W : XK} (h : Ev te σ H v) (sv : Said v) (k : ∀ d H1, H d = none → Ex H H1 → H1 d = some (.xd [(f, v)]) → W (.ref C) (some d) H1) : tMkO C (spInit C f) [] (tCons te tNil) σ H W :=
  h H (Ex.refl H) _ fun H1 e1 => ⟨by show 1 ≤ 1000; omega, fun a na => ⟨a, v, rfl, upd_same, sv, fun dx nd ne => ⟨rfl, dx, _, upd_same, by rw [upd_ne ne, upd_same], by rw [upd_ne ne] at nd; exact nd, by
    rw [upd_ne ne] at nd
    refine k dx _ (fresh_back e1 nd) (fun b o hb => ?_) upd_same
    have g1 := e1 b o hb
    rw [upd_ne (ne_of_none g1 nd), del_ne (ne_of_none g1 na), upd_ne (ne_of_none g1 na), upd_ne (ne_of_none g1 nd), upd_ne (ne_of_none g1 na)]
    exact g1⟩⟩⟩
/-- d[k] = v, d a dict with text or int keys -/
theorem s_dput {d : Addr} {kvs : List (Key × V)} {ky : Key} {td tk : TE} (hz : kvs.length < 100000) (hv : Ev te σ H v) (hd : Ev td σ H (.ref d)) (hk : Ev tk σ H (kV ky)) (e : H d = some (.dK kvs)) (k : ∀ H1, Ex H H1 → D.nx σ (upd H1 d (.dK (putK kvs ky v)))) : sDPut td tk te D σ H :=
  hv H (Ex.refl H) _ fun H1 e1 => hd H1 e1 _ fun H2 e2 => hk H2 (e1.trans e2) _ fun H3 e3 => ⟨d, _, rfl, DPut.k (((e1.trans e2).trans e3) _ _ e) (sz_lt hz), k H3 ((e1.trans e2).trans e3)⟩
theorem q_dput {d : Addr} {kvs : List (Key × V)} {ky : Key} {td tk : TE} (hz : kvs.length < 100000) (hv : Ev te σ H v) (hd : Ev td σ H (.ref d)) (hk : Ev tk σ H (kV ky)) (e : H d = some (.dK kvs)) (k : ∀ H1, Ex H H1 → tz D σ (upd H1 d (.dK (putK kvs ky v)))) : tSeq (sDPut td tk te) tz D σ H :=
  s_dput (D := { D with nx := tz D }) hz hv hd hk e k
variable {td : TE}
def rSrtD : List V → Hp → VK → Prop := fun xs H Q => ∃ (a : Addr) (kvs : List (Key × V)) (ks : List Int), xs = [.ref a] ∧ Rd H a (.dK kvs) ∧ kvs.map (·.1) = ks.map Sum.inl ∧ ks.length < 64 ∧ ∀ (ys : List Int) (p : Addr), ys.Perm ks → ys.Pairwise (· ≤ ·) → H p = none → Q (.ref p) (upd H p (.lst (ys.map V.int)))
theorem el_srtD {d : Addr} {kvs : List (Key × V)} {ks : List Int} (hd : Ev td σ H (.ref d)) (e0 : Rd H d (.dK kvs)) (hk : kvs.map (·.1) = ks.map Sum.inl) (nd : ks.Nodup) (hl : ks.length < 64) : EvL (tCB rSrtD (tCons td tNil)) σ H ((KB.asc ks).map V.int) := fun H1 e Q q =>
  hd H1 e _ fun H2 e2 => ⟨d, kvs, ks, rfl, ex_rd (e.trans e2) e0, hk, hl, fun ys p pm so np => by
    have ey : ys = KB.asc ks := KB.asc_eq (by
      have nd' : ys.Nodup := pm.nodup_iff.mpr nd
      exact List.Pairwise.imp (fun h => by have h1 := h.1; have h2 := h.2; omega) (so.and nd')) fun k => pm.mem_iff
    subst ey
    exact q p _ (fresh_back e2 np) (e2.trans (Ex.new np)) upd_same⟩
theorem cr_srtD {X : Cx} (hc : X.calm = true) : CallR X (.builtin "sorted") rSrtD := call_sortedDI hc
/-- a dict's length -/
theorem ev_lenD {d : Addr} {kvs : List (Key × V)} (h : Ev ta σ H (.ref d)) (e0 : H d = some (.dK kvs)) : Ev (tCB (fun xs H Q => ∃ a kvs, xs = [V.ref a] ∧ H a = some (.dK kvs) ∧ Q (.int kvs.length) H) (tCons ta tNil)) σ H (.int kvs.length) := fun H1 e Q q =>
  h H1 e _ fun H2 e2 => ⟨d, kvs, rfl, (e.trans e2) _ _ e0, q H2 e2⟩
theorem ev_notN (h : Ev ta σ H x) : Ev (tNotN ta) σ H (.bl (!decide (x = .non))) := fun H1 e Q q => h H1 e _ fun H2 e2 => q H2 e2
/-- a list's or a tuple's item, by what it reads -/
theorem rv_ixq {p : Addr} {xs : List V} {i : Nat} (h : H p = some (.lst xs) ∨ H p = some (.tup xs)) (ha : xs[i]? = some v) : RV (rIx K) (.ref p) (.int (i : Int)) H v := fun H1 e _ q => by
  rcases h with h | h
  · exact .inl ⟨p, xs, _, v, rfl, rfl, sq_of (e _ _ h), atI_nat ha, q H1 (Ex.refl H1)⟩
  · exact .inr (.inl ⟨p, xs, _, v, rfl, rfl, st_of (e _ _ h), atI_nat ha, q H1 (Ex.refl H1)⟩)
end
end Evl
set_option Elab.async false
set_option linter.all false
set_option maxRecDepth 100000
set_option maxHeartbeats 4000000
namespace Evl
open PySem L2
section
variable {K : PySem.W.Frag} {σ : L2.St} {H H' G : Hp} {ta tb te tx td tl : TE} {t : TT}
theorem eu_if {b : Bool} {xs : List V} (h : EvT t σ H b) (h1 : b = true → EvU ta σ H xs) (h2 : b = false → EvU tb σ H xs) : EvU (tIf t ta tb) σ H xs := fun H1 e Q q => h H1 e _ fun H2 e2 => by
  cases b with
  | true =>
    show ta σ H2 Q
    exact h1 rfl H2 (e.trans e2) Q fun p H3 np e3 g => q p H3 (fresh_back e2 np) (e2.trans e3) g
  | false =>
    show tb σ H2 Q
    exact h2 rfl H2 (e.trans e2) Q fun p H3 np e3 g => q p H3 (fresh_back e2 np) (e2.trans e3) g
theorem eu_nil : EvU (tTup tNil) σ H [] := eu_tup ea_nil (by show 0 ≤ 100000; omega)
def rTupOf (K : PySem.W.Frag) : List V → Hp → VK → Prop := fun xs H Q => ∃ p ys, xs = [.ref p] ∧ ((SqL K H p ys ∧ ∀ l, H l = none → Q (.ref l) (upd H l (.tup ys))) ∨ (SqT K H p ys ∧ Q (.ref p) H))
theorem eu_tupOf {a : Addr} {xs : List V} (h : Ev ta σ H (.ref a)) (g : H a = some (.lst xs)) : EvU (tCB (rTupOf K) (tCons ta tNil)) σ H xs := fun H1 e Q q =>
  h H1 e _ fun H2 e2 => ⟨a, xs, rfl, .inl ⟨sq_of (e2 _ _ (e _ _ g)), fun l nl => q l _ (fresh_back e2 nl) (e2.trans (Ex.new nl)) upd_same⟩⟩
end
end Evl
namespace KB
open PySem PySem.Spec PyProof.Rows L2 Evl
/-! ### data that are made -/
/-- a datum that holds nothing of what came since H -/
def EvM (te : TE) (σ : L2.St) (H : Hp) (d : PyData) : Prop := ∀ (Mk : List Addr) H1, Ex H H1 → (∀ b ∈ Mk, H b = none ∧ H1 b ≠ none) → ∀ Q : VK, (∀ v H2, Ex H1 H2 → Dx (mask H2 Mk) v d → Q v H2) → te σ H1 Q
theorem DxAll.app {H : Hp} : ∀ {vs us : List V} {ds es : List PyData}, DxAll H vs ds → DxAll H us es → DxAll H (vs ++ us) (ds ++ es)
  | _, _, _, _, .nil, k => k
  | _, _, _, _, .cons h t, k => .cons h (DxAll.app t k)
theorem mask_ex {H H1 : Hp} {Mk : List Addr} (e : Ex H H1) (h : ∀ b ∈ Mk, H b = none) : Ex H (mask H1 Mk) := fun b o hb => mask_of (e b o hb) fun m => by rw [h b m] at hb; cases hb
theorem mask_sub (H : Hp) (Mk : List Addr) : Ex (mask H Mk) H := fun b o h => (mask_at h).1
theorem Dx.unmask {H : Hp} {Mk : List Addr} {v : V} {d : PyData} (h : Dx (mask H Mk) v d) : Dx H v d := h.mono (mask_sub H Mk)
section
variable {K : PySem.W.Frag} {σ : L2.St} {H H' : Hp} {ta tb te tx tl : TE} {t : TT} {d : PyData}
theorem EvM.x (h : EvM te σ H d) : EvX te σ H d := fun H1 e Q q => h [] H1 e (fun b m => nomatch m) Q fun v H2 e2 g => q v H2 e2 g.unmask
theorem em_tup {ta : TA} {vs : List V} {ds : List PyData} (h : EvA ta σ H vs) (hd : DxAll H vs ds) (hl : vs.length ≤ 100000) : EvM (tTup ta) σ H (.tuple ds) := fun Mk H1 e hM Q q =>
  h H1 e _ fun H2 e2 => ⟨sz_of hl, fun p np => q _ _ (e2.trans (Ex.new np)) (.tup (mask_of upd_same fun m => (hM p m).2 (fresh_back e2 np)) (hd.mono (mask_ex ((e.trans e2).trans (Ex.new np)) fun b m => (hM b m).1)))⟩
theorem ex_cat {ds es : List PyData} (ha : EvX ta σ H (.list ds)) (hb : EvX tb σ H (.list es)) (hz : ds.length + es.length ≤ 100000) : EvX (tOp rCat ta tb) σ H (.list (ds ++ es)) := fun H1 e Q q =>
  ha H1 e _ fun v H2 e2 dv => hb H2 (e.trans e2) _ fun u H3 e3 du => by
    cases dv with
    | @lst a xs _ ga hx =>
      cases du with
      | @lst b ys _ gb hy =>
        refine ⟨a, b, xs, ys, rfl, rfl, e3 _ _ ga, gb, sz_of (by rw [hx.length, hy.length]; exact hz), fun p np => q _ _ ((e2.trans e3).trans (Ex.new np)) ?_⟩
        exact .lst upd_same (((hx.mono e3).app hy).mono (Ex.new np))
theorem ev_x {v : V} (h : Ev te σ H v) (g : Dx H v d) : EvX te σ H d := fun H1 e Q q => h H1 e _ fun H2 e2 => q v H2 e2 (g.mono (e.trans e2))
/-- the list of data that is made, behind i turns -/
def MadeX {α : Type} (H1 : Hp) (xs : List α) (p : α → Bool) (g : α → PyData) (Dl : Addr) (i : Nat) (G : Hp) : Prop := H1 Dl = none ∧ Ex H1 G ∧ ∃ acc, G Dl = some (.lst acc) ∧ DxAll (mask G [Dl]) acc (((xs.take i).filter p).map g)
theorem madeX_turn {α : Type} {H1 G : Hp} {xs : List α} {p : α → Bool} {g : α → PyData} {Dl : Addr} {i : Nat} {b : α} {σ2 : L2.St} (m : MadeX H1 xs p g Dl i G) (hz : xs.length ≤ 40000) (eb : xs[i]? = some b) (ht : EvT t σ2 H1 (p b)) (he : p b = true → EvM te σ2 H1 (g b)) :
    t σ2 G fun c H3 => if c = true then te σ2 H3 fun y H4 => ∃ acc, H4 Dl = some (.lst acc) ∧ acc.length < sizeLine ∧ MadeX H1 xs p g Dl (i + 1) (upd H4 Dl (.lst (acc ++ [y]))) else MadeX H1 xs p g Dl (i + 1) H3 := by
  obtain ⟨n1, eG, acc, gD, da⟩ := m
  have nx : (xs.take (i + 1)).filter p = (xs.take i).filter p ++ if p b = true then [b] else [] := by
    rw [List.take_add_one, eb, List.filter_append]
    show _ ++ List.filter p [b] = _
    cases hp : p b <;> simp [hp]
  refine ht G eG _ fun G2 e2 => ?_
  cases hp : p b with
  | true =>
    refine iteT (he hp [Dl] G2 (eG.trans e2) (fun c mc => by rw [List.mem_singleton.mp mc]; exact ⟨n1, by rw [e2 _ _ gD]; exact fun z => nomatch z⟩) _ fun v G3 e3 dv => ⟨acc, e3 _ _ (e2 _ _ gD), ?_, n1, Ex.mut (eG.trans (e2.trans e3)) n1, acc ++ [v], upd_same, ?_⟩)
    · rw [da.length, List.length_map]
      exact sz_lt (by have h1 := List.length_filter_le p (xs.take i); have h2 := List.length_take_le i xs; have h3 := (List.getElem?_eq_some_iff.mp eb).1; omega)
    · rw [mask_upd (List.mem_singleton.mpr rfl), nx, hp, List.map_append]
      exact (da.mono (mask_same (e2.trans e3) fun _ _ _ z => z)).snoc dv
  | false =>
    refine iteF ⟨n1, eG.trans e2, acc, e2 _ _ gD, ?_⟩
    rw [nx, hp]
    simpa using da.mono (mask_same e2 fun _ _ _ z => z)
theorem madeX_end {α : Type} {H1 G : Hp} {xs : List α} {p : α → Bool} {g : α → PyData} {Dl : Addr} (m : MadeX H1 xs p g Dl xs.length G) : Dx G (.ref Dl) (.list ((xs.filter p).map g)) := by
  obtain ⟨_, _, acc, gD, da⟩ := m
  rw [List.take_length] at da
  exact .lst gD (da.mono (mask_sub G _))
/-- [e for x in xs if t], e a new datum; xs a new list -/
theorem ex_lcN {α : Type} {xs : List α} {j : Nat} {vs : List Nat} (emb : α → V) (p : α → Bool) (g : α → PyData) (h : EvL tl σ H (xs.map emb)) (hz : xs.length ≤ 40000) (hw : ∀ x, wipe ((wipe σ vs).set j (some x)) vs = wipe σ vs)
    (ht : ∀ b ∈ xs, ∀ H1, Ex H H1 → EvT t ((wipe σ vs).set j (some (emb b))) H1 (p b)) (he : ∀ b ∈ xs, p b = true → ∀ H1, Ex H H1 → EvM te ((wipe σ vs).set j (some (emb b))) H1 (g b)) :
    EvX (tLc (iList K tl) (gName j) t te vs) σ H (.list ((xs.filter p).map g)) := fun H0 e0 Q q => by
  have len : (xs.map emb).length = xs.length := List.length_map _
  refine h H0 e0 _ fun a H1 na e1 ga => ⟨a, rfl, ⟨_, sq_of ga⟩, fun Dl hD => lc_it (walk_list (K := K) (a := a) (xs := xs.map emb)) (MadeX H1 xs p g Dl) ⟨hD, Ex.new hD, [], upd_same, .nil⟩ (fun i G _ m => sq_of (m.2.1 _ _ ga)) ?_ fun G m => ?_⟩
  · rintro i x G _ hi m ⟨rfl, ex⟩
    rw [List.getElem?_map] at ex
    obtain ⟨b, eb, rfl⟩ := Option.map_eq_some_iff.mp ex
    have mb := List.mem_of_getElem? eb
    exact ⟨hw _, madeX_turn m hz eb (ht b mb H1 (e0.trans e1)) (fun hp => he b mb hp H1 (e0.trans e1))⟩
  · rw [len] at m
    exact q _ G (e1.trans m.2.1) (madeX_end m)
/-- .. xs a list that stands -/
theorem ex_lcV {α : Type} {xs : List α} {j : Nat} {vs : List Nat} {a : Addr} (emb : α → V) (p : α → Bool) (g : α → PyData) (h : Ev tl σ H (.ref a)) (hx : SqL K H a (xs.map emb)) (hz : xs.length ≤ 40000) (hw : ∀ x, wipe ((wipe σ vs).set j (some x)) vs = wipe σ vs)
    (ht : ∀ b ∈ xs, ∀ H1, Ex H H1 → EvT t ((wipe σ vs).set j (some (emb b))) H1 (p b)) (he : ∀ b ∈ xs, p b = true → ∀ H1, Ex H H1 → EvM te ((wipe σ vs).set j (some (emb b))) H1 (g b)) :
    EvX (tLc (iList K tl) (gName j) t te vs) σ H (.list ((xs.filter p).map g)) := fun H0 e0 Q q => by
  have len : (xs.map emb).length = xs.length := List.length_map _
  refine h H0 e0 _ fun H1 e1 => ⟨a, rfl, ⟨_, ex_l (e0.trans e1) hx⟩, fun Dl hD => lc_it (walk_list (K := K) (a := a) (xs := xs.map emb)) (MadeX H1 xs p g Dl) ⟨hD, Ex.new hD, [], upd_same, .nil⟩ (fun i G _ m => ex_l (e0.trans (e1.trans m.2.1)) hx) ?_ fun G m => ?_⟩
  · rintro i x G _ hi m ⟨rfl, ex⟩
    rw [List.getElem?_map] at ex
    obtain ⟨b, eb, rfl⟩ := Option.map_eq_some_iff.mp ex
    have mb := List.mem_of_getElem? eb
    exact ⟨hw _, madeX_turn m hz eb (ht b mb H1 (e0.trans e1)) (fun hp => he b mb hp H1 (e0.trans e1))⟩
  · rw [len] at m
    exact q _ G (e1.trans m.2.1) (madeX_end m)
end
def EvXA (ta : TA) (σ : L2.St) (H : Hp) (ds : List PyData) : Prop := ∀ H1, Ex H H1 → ∀ Q : List V → Hp → Prop, (∀ vs H2, Ex H1 H2 → DxAll H2 vs ds → Q vs H2) → ta σ H1 Q
section
variable {K : PySem.W.Frag} {σ : L2.St} {H H' : Hp} {ta tb te tl : TE} {tx : TA} {t : TT} {d : PyData} {ds : List PyData} {v : V} {ns : List Int}
theorem xa_nil : EvXA tNil σ H [] := fun H1 _ Q q => q [] H1 (Ex.refl H1) .nil
theorem xa_cons (h : EvX ta σ H d) (h2 : EvXA tx σ H ds) : EvXA (tCons ta tx) σ H (d :: ds) := fun H1 e Q q =>
  h H1 e _ fun v H2 e2 g2 => h2 H2 (e.trans e2) _ fun vs H3 e3 g3 => q (v :: vs) H3 (e2.trans e3) (.cons (g2.mono e3) g3)
theorem ex_tupA (h : EvXA tx σ H ds) (hz : ds.length ≤ 100000) : EvX (tTup tx) σ H (.tuple ds) := fun H1 e Q q =>
  h H1 e _ fun vs H2 e2 g2 => ⟨by rw [g2.length]; exact sz_of hz, fun l nl => q _ _ (e2.trans (Ex.new nl)) (.tup upd_same (g2.mono (Ex.new nl)))⟩
theorem ex_lstA (h : EvXA tx σ H ds) (hz : ds.length ≤ 100000) : EvX (tLst tx) σ H (.list ds) := fun H1 e Q q =>
  h H1 e _ fun vs H2 e2 g2 => ⟨by rw [g2.length]; exact sz_of hz, fun l nl => q _ _ (e2.trans (Ex.new nl)) (.lst upd_same (g2.mono (Ex.new nl)))⟩
def cutL {α : Type} (xs : List α) (lo hi : Option Int) : List α := (xs.drop (HT.sIx xs.length 0 lo)).take (HT.sIx xs.length xs.length hi - HT.sIx xs.length 0 lo)
theorem cutL_mem {α : Type} {xs : List α} {lo hi : Option Int} {x : α} (h : x ∈ cutL xs lo hi) : x ∈ xs := List.mem_of_mem_drop (List.mem_of_mem_take h)
theorem cutL_len {α : Type} (xs : List α) (lo hi : Option Int) : (cutL xs lo hi).length ≤ xs.length := by
  unfold cutL
  rw [List.length_take, List.length_drop]
  omega
theorem DxAll.drop {H : Hp} : ∀ {xs : List V} {ds : List PyData} (n : Nat), DxAll H xs ds → DxAll H (xs.drop n) (ds.drop n)
  | _, _, 0, h => h
  | _, _, n + 1, .nil => .nil
  | _, _, n + 1, .cons _ t => DxAll.drop n t
theorem DxAll.take {H : Hp} : ∀ {xs : List V} {ds : List PyData} (n : Nat), DxAll H xs ds → DxAll H (xs.take n) (ds.take n)
  | _, _, 0, _ => .nil
  | _, _, n + 1, .nil => .nil
  | _, _, n + 1, .cons h t => .cons h (DxAll.take n t)
theorem DxAll.cut {H : Hp} {xs : List V} {ds : List PyData} (h : DxAll H xs ds) (lo hi : Option Int) : DxAll H (cutV xs lo hi) (cutL ds lo hi) := by
  unfold cutV cutL
  rw [h.length]
  exact (h.drop _).take _
/-- xs[lo:hi] -/
theorem ex_cutL {to1 to2 : TO} {lo hi : Option Int} (h : Ev ta σ H v) (g : Dx H v (.list ds)) (h1 : ∀ H1 Q, Q lo H1 → to1 σ H1 Q) (h2 : ∀ H1 Q, Q hi H1 → to2 σ H1 Q) : EvX (tSl (rSlL K) ta to1 to2) σ H (.list (cutL ds lo hi)) := fun H1 e Q q =>
  h H1 e _ fun H2 e2 => h1 H2 _ (h2 H2 _ (by
    have g2 := g.mono (e.trans e2)
    cases g2 with
    | @lst a xs _ ga hx => exact ⟨a, xs, rfl, sq_of ga, fun p np => q _ _ (e2.trans (Ex.new np)) (.lst upd_same ((hx.cut lo hi).mono (Ex.new np)))⟩))
theorem cut_whole {α : Type} {xs : List α} {lo hi : Option Int} (h : HT.sIx xs.length 0 lo = 0 ∧ HT.sIx xs.length xs.length hi = xs.length) : cutL xs lo hi = xs := by
  unfold cutL
  rw [h.1, h.2, List.drop_zero, Nat.sub_zero, List.take_length]
theorem ex_cutT {to1 to2 : TO} {lo hi : Option Int} (h : Ev ta σ H v) (g : Dx H v (.tuple ds)) (h1 : ∀ H1 Q, Q lo H1 → to1 σ H1 Q) (h2 : ∀ H1 Q, Q hi H1 → to2 σ H1 Q) : EvX (tSl (rSlA K) ta to1 to2) σ H (.tuple (cutL ds lo hi)) := fun H1 e Q q =>
  h H1 e _ fun H2 e2 => h1 H2 _ (h2 H2 _ (by
    have g2 := g.mono (e.trans e2)
    cases g2 with
    | @tup a xs _ ga hx =>
      refine ⟨a, xs, rfl, st_of ga, fun hw => ?_, fun _ p np => q _ _ (e2.trans (Ex.new np)) (.tup upd_same ((hx.cut lo hi).mono (Ex.new np)))⟩
      rw [hx.length] at hw
      rw [cut_whole hw] at q
      exact q _ H2 e2 (.tup ga hx)))
theorem DxAll.rev {H : Hp} : ∀ {xs : List V} {ds : List PyData}, DxAll H xs ds → DxAll H xs.reverse ds.reverse
  | _, _, .nil => .nil
  | _, _, .cons h t => by
    rw [List.reverse_cons, List.reverse_cons]
    exact (DxAll.rev t).app (.cons h .nil)
theorem ex_tupOf (h : Ev ta σ H v) (g : Dx H v (.list ds)) : EvX (tCB (rTupOf K) (tCons ta tNil)) σ H (.tuple ds) := fun H1 e Q q =>
  h H1 e _ fun H2 e2 => by
    have g2 := g.mono (e.trans e2)
    cases g2 with
    | @lst a xs _ ga hx => exact ⟨a, xs, rfl, .inl ⟨sq_of ga, fun p np => q _ _ (e2.trans (Ex.new np)) (.tup upd_same (hx.mono (Ex.new np)))⟩⟩
theorem ex_listOf (h : Ev ta σ H v) (g : Dx H v (.tuple ds)) : EvX (tCB (fun xs H Q => ∃ p ys, xs = [.ref p] ∧ (SqL K H p ys ∨ SqT K H p ys) ∧ ∀ l, H l = none → Q (.ref l) (upd H l (.lst ys))) (tCons ta tNil)) σ H (.list ds) := fun H1 e Q q =>
  h H1 e _ fun H2 e2 => by
    have g2 := g.mono (e.trans e2)
    cases g2 with
    | @tup a xs _ ga hx => exact ⟨a, xs, rfl, .inr (st_of ga), fun p np => q _ _ (e2.trans (Ex.new np)) (.lst upd_same (hx.mono (Ex.new np)))⟩
/-- t + u -/
theorem ex_catT {es : List PyData} (h : EvX ta σ H (.tuple ds)) (h2 : EvX tb σ H (.tuple es)) (hz : ds.length + es.length ≤ 100000) : EvX (tOp (rCatA K) ta tb) σ H (.tuple (ds ++ es)) := fun H1 e Q q =>
  h H1 e _ fun v H2 e2 g2 => h2 H2 (e.trans e2) _ fun u H3 e3 g3 => by
    have g2 := g2.mono e3
    cases g2 with
    | @tup a xs _ ga hx =>
      cases g3 with
      | @tup b ys _ gb hy =>
        have lx := hx.length
        have ly := hy.length
        refine ⟨a, b, xs, ys, rfl, rfl, st_of ga, st_of gb, sz_of (by omega), fun z => ?_, fun _ z => ?_, fun _ _ p np => q _ _ ((e2.trans e3).trans (Ex.new np)) (.tup upd_same ((hx.mono (Ex.new np)).app (hy.mono (Ex.new np))))⟩
        · have : ds = [] := List.length_eq_zero_iff.mp (by rw [← lx, z]; rfl)
          subst this
          exact q _ H3 (e2.trans e3) (.tup gb hy)
        · have : es = [] := List.length_eq_zero_iff.mp (by rw [← ly, z]; rfl)
          subst this
          rw [List.append_nil] at q
          exact q _ H3 (e2.trans e3) (.tup ga hx)
end
section
variable {K : PySem.W.Frag} {σ : L2.St} {H H' : Hp} {ta tb te tx tl : TE} {t : TT} {d : PyData}
theorem ex_if {b : Bool} {d : PyData} (h : EvT t σ H b) (h1 : b = true → EvX ta σ H d) (h2 : b = false → EvX tb σ H d) : EvX (tIf t ta tb) σ H d := fun H1 e Q q => h H1 e _ fun H2 e2 => by
  cases b with
  | true =>
    show ta σ H2 Q
    exact h1 rfl H2 (e.trans e2) Q fun v H3 e3 g => q v H3 (e2.trans e3) g
  | false =>
    show tb σ H2 Q
    exact h2 rfl H2 (e.trans e2) Q fun v H3 e3 g => q v H3 (e2.trans e3) g
theorem ex_lst2 {d1 d2 : PyData} (h1 : EvX ta σ H d1) (h2 : EvX tb σ H d2) : EvX (tLst (tCons ta (tCons tb tNil))) σ H (.list [d1, d2]) := fun H1 e Q q =>
  h1 H1 e _ fun v H2 e2 g2 => h2 H2 (e.trans e2) _ fun u H3 e3 g3 => ⟨by show 2 ≤ sizeLine; decide, fun l nl => q _ _ ((e2.trans e3).trans (Ex.new nl)) (.lst upd_same (.cons ((g2.mono e3).mono (Ex.new nl)) (.cons (g3.mono (Ex.new nl)) .nil)))⟩
theorem ev_same {n : Nat} {d : PyData} (h1 : EvX ta σ H d) (h2 : EvX tb σ H d) (hs : Sh n d) : Ev (tCall (spSame n) [] E0 (tCons ta (tCons tb tNil))) σ H (.bl true) := fun H1 e Q q =>
  h1 H1 e _ fun v H2 e2 g2 => h2 H2 (e.trans e2) _ fun u H3 e3 g3 => ⟨v, u, d, rfl, g2.mono e3, g3, hs, fun H' s => q H' ((e2.trans e3).trans s)⟩
/-- what is made behind i turns of a walk -/
def MadeI (H1 : Hp) (g : Nat → PyData) (Dl : Addr) (i : Nat) (G : Hp) : Prop := H1 Dl = none ∧ Ex H1 G ∧ ∃ acc, G Dl = some (.lst acc) ∧ DxAll (mask G [Dl]) acc ((List.range i).map g)
theorem madeI_turn {H1 G G1 : Hp} {g : Nat → PyData} {Dl : Addr} {i : Nat} {σ2 : L2.St} (m : MadeI H1 g Dl i G) (hi : i < 40000) (eG : Ex G G1) (he : EvM te σ2 H1 (g i)) :
    te σ2 G1 fun y H4 => ∃ acc, H4 Dl = some (.lst acc) ∧ acc.length < sizeLine ∧ MadeI H1 g Dl (i + 1) (upd H4 Dl (.lst (acc ++ [y]))) := by
  obtain ⟨n1, e1, acc, gD, da⟩ := m
  refine he [Dl] G1 (e1.trans eG) (fun c mc => by rw [List.mem_singleton.mp mc]; exact ⟨n1, by rw [eG _ _ gD]; exact fun z => nomatch z⟩) _ fun v G3 e3 dv => ⟨acc, e3 _ _ (eG _ _ gD), ?_, n1, Ex.mut (e1.trans (eG.trans e3)) n1, acc ++ [v], upd_same, ?_⟩
  · rw [da.length, List.length_map, List.length_range]
    exact sz_lt (by omega)
  · rw [mask_upd (List.mem_singleton.mpr rfl), List.range_succ, List.map_append]
    exact (da.mono (mask_same (eG.trans e3) fun _ _ _ z => z)).snoc dv
/-- [e for i, x in enumerate(xs)], e a new datum, xs a list that stands -/
theorem ex_lcE {xs : List V} {j1 j2 : Nat} {vs : List Nat} {a : Addr} (g : Nat → PyData) (h : Ev tl σ H (.ref a)) (hx : SqL K H a xs) (hz : xs.length ≤ 40000) (hw : ∀ x y, wipe (((wipe σ vs).set j1 (some x)).set j2 (some y)) vs = wipe σ vs)
    (he : ∀ (i : Nat) b, xs[i]? = some b → ∀ H1, Ex H H1 → EvM te (((wipe σ vs).set j1 (some (.int (i : Int)))).set j2 (some b)) H1 (g i)) :
    EvX (tLc (iEnum K (tCons tl tNil)) (gTup K 2 (gCons (gName j1) (gCons (gName j2) gNil))) tYes te vs) σ H (.list ((List.range xs.length).map g)) := fun H0 e0 Q q =>
  h H0 e0 _ fun H1 e1 => ⟨a, xs, rfl, ex_l (e0.trans e1) hx, fun Dl hD => lc_it (walk_enum (K := K) (a := a) (xs := xs)) (MadeI H1 g Dl) ⟨hD, Ex.new hD, [], upd_same, .nil⟩ (fun i G _ m => ex_l (e0.trans (e1.trans m.2.1)) hx) (by
    rintro i x G _ hi m ⟨T, y1, y2, rfl, nT, rfl, f1, f2⟩
    cases f1
    exact ⟨T, _, rfl, .inl (.inl upd_same), rfl, _, _, rfl, _, _, rfl, rfl, hw _ _, madeI_turn m (by omega) (Ex.new nT) (he i y2 f2 H1 (e0.trans e1))⟩) fun G m => by
    obtain ⟨_, eG, acc, gD, da⟩ := m
    exact q _ G (e1.trans eG) (.lst gD (da.mono (mask_sub G _)))⟩
/-- .. over range(n) -/
theorem ex_lcR {j : Nat} {vs : List Nat} {n : Int} {ta : TA} (g : Nat → PyData) (h : EvA ta σ H [.int n]) (hn : 0 ≤ n ∧ n ≤ 40000) (hw : ∀ x, wipe ((wipe σ vs).set j (some x)) vs = wipe σ vs)
    (he : ∀ i : Nat, (i : Int) < n → ∀ H1, Ex H H1 → EvM te ((wipe σ vs).set j (some (.int (i : Int)))) H1 (g i)) :
    EvX (tLc (iRng1 ta) (gName j) tYes te vs) σ H (.list ((List.range n.toNat).map g)) := fun H0 e0 Q q =>
  h H0 e0 _ fun H1 e1 => ⟨n, rfl, by omega, by omega, fun Dl hD => lc_it (walk_range (lo := 0) (n := n.toNat)) (MadeI H1 g Dl) ⟨hD, Ex.new hD, [], upd_same, .nil⟩ (fun _ _ _ _ => trivial) (by
    rintro i x G _ hi m ⟨rfl, rfl⟩
    have e2 : (0 : Int) + (i : Int) = (i : Int) := Int.zero_add _
    have z := he i (by omega) H1 (e0.trans e1)
    rw [← e2] at z
    exact ⟨hw _, madeI_turn m (by omega) (Ex.refl _) z⟩) fun G m => by
    obtain ⟨_, eG, acc, gD, da⟩ := m
    exact q _ G (e1.trans eG) (.lst gD (da.mono (mask_sub G _)))⟩
/-- new data that hold nothing of what came since -/
theorem em_tupV {ta : TA} {vs : List V} {ds : List PyData} (h : EvA ta σ H vs) (hd : DxAll H vs ds) (hl : vs.length ≤ 100000) : EvM (tTup ta) σ H (.tuple ds) := em_tup h hd hl
end
section
variable {K : PySem.W.Frag} {σ : L2.St} {H H' : Hp} {ta tb te tl : TE} {tx : TA} {d : PyData} {ds : List PyData} {v : V} {D : Ends}
/-- a datum in a new object -/
def EvN (te : TE) (σ : L2.St) (H : Hp) (d : PyData) : Prop := ∀ H1, Ex H H1 → ∀ Q : VK, (∀ a H2, H1 a = none → Ex H1 H2 → Dx H2 (.ref a) d → Q (.ref a) H2) → te σ H1 Q
theorem en_lstA (h : EvXA tx σ H ds) (hz : ds.length ≤ 100000) : EvN (tLst tx) σ H (.list ds) := fun H1 e Q q =>
  h H1 e _ fun vs H2 e2 g2 => ⟨by rw [g2.length]; exact sz_of hz, fun l nl => q _ _ (fresh_back e2 nl) (e2.trans (Ex.new nl)) (.lst upd_same (g2.mono (Ex.new nl)))⟩
theorem en_lcE {xs : List V} {j1 j2 : Nat} {vs : List Nat} {a : Addr} (g : Nat → PyData) (h : Ev tl σ H (.ref a)) (hx : SqL K H a xs) (hz : xs.length ≤ 40000) (hw : ∀ x y, wipe (((wipe σ vs).set j1 (some x)).set j2 (some y)) vs = wipe σ vs)
    (he : ∀ (i : Nat) b, xs[i]? = some b → ∀ H1, Ex H H1 → EvM te (((wipe σ vs).set j1 (some (.int (i : Int)))).set j2 (some b)) H1 (g i)) :
    EvN (tLc (iEnum K (tCons tl tNil)) (gTup K 2 (gCons (gName j1) (gCons (gName j2) gNil))) tYes te vs) σ H (.list ((List.range xs.length).map g)) := fun H0 e0 Q q =>
  h H0 e0 _ fun H1 e1 => ⟨a, xs, rfl, ex_l (e0.trans e1) hx, fun Dl hD => lc_it (walk_enum (K := K) (a := a) (xs := xs)) (MadeI H1 g Dl) ⟨hD, Ex.new hD, [], upd_same, .nil⟩ (fun i G _ m => ex_l (e0.trans (e1.trans m.2.1)) hx) (by
    rintro i x G _ hi m ⟨T, y1, y2, rfl, nT, rfl, f1, f2⟩
    cases f1
    exact ⟨T, _, rfl, .inl (.inl upd_same), rfl, _, _, rfl, _, _, rfl, rfl, hw _ _, madeI_turn m (by omega) (Ex.new nT) (he i y2 f2 H1 (e0.trans e1))⟩) fun G m => by
    obtain ⟨n1, eG, acc, gD, da⟩ := m
    exact q _ G (fresh_back e1 n1) (e1.trans eG) (.lst gD (da.mono (mask_sub G _)))⟩
theorem s_retN (h : EvN te σ H d) (k : ∀ a H1, H a = none → Ex H H1 → Dx H1 (.ref a) d → D.rt (.ref a) H1) : tRet te D σ H := h H (Ex.refl H) _ k
end
end KB
set_option Elab.async false
set_option linter.all false
set_option maxRecDepth 100000
set_option maxHeartbeats 4000000
namespace KS
open PySem PySem.Spec PyProof.Rows L2 Evl
abbrev sDraw : Stmt := KB.topS 11
abbrev sPick : Stmt := KB.topS 13
abbrev sStream : Stmt := KB.topS 10
abbrev sFolded : Stmt := KB.topS 12
theorem scDraw : FnScope ["_law_source", "_law_bound", "_law_found", "_law_once", "_law_twice"] ["_law_source", "_law_bound"] (defScope sDraw) := ⟨rfl, rfl, rfl, by decide +kernel, rfl, by decide +kernel, by decide +kernel⟩
theorem scPick : FnScope ["_law_source", "_law_some"] ["_law_source", "_law_some"] (defScope sPick) := ⟨rfl, rfl, rfl, by decide +kernel, rfl, by decide +kernel, by decide +kernel⟩
theorem scStream : FnScope ["_law_script", "_law_k", "_law_cell"] ["_law_script", "_law_k"] (defScope sStream) := ⟨rfl, rfl, rfl, by decide +kernel, rfl, by decide +kernel, by decide +kernel⟩
theorem scFolded : FnScope ["_law_script", "_law_most", "_law_cells", "_law_k", "_law_cell"] ["_law_script", "_law_most"] (defScope sFolded) := ⟨rfl, rfl, rfl, by decide +kernel, rfl, by decide +kernel, by decide +kernel⟩
/-- a source of draws -/
def Src (H : Hp) (p : Addr) (c : Int) : Prop := ∃ a b : Int, H p = some (.lst [.int a, .int b, .int c]) ∧ 0 ≤ a ∧ 0 ≤ b ∧ b < 2 ^ 63 ∧ 0 ≤ c
theorem Src.mono {H H' : Hp} {p : Addr} {c : Int} (e : Ex H H') (h : Src H p c) : Src H' p c := by
  obtain ⟨a, b, h1, h2⟩ := h
  exact ⟨a, b, e _ _ h1, h2⟩
theorem Src.xc {M : List Addr} {H H' : Hp} {p : Addr} {c : Int} (x : Xc M H H') (hp : p ∉ M) (h : Src H p c) : Src H' p c := by
  obtain ⟨a, b, h1, h2⟩ := h
  exact ⟨a, b, x _ _ hp h1, h2⟩
def spDraw : Sp := fun vs H Q _ => ∃ (p : Addr) (c m : Int), vs = [.ref p, .int m] ∧ Src H p c ∧ c < 2 ^ 40 ∧ 0 < m ∧ m ≤ 10000000 ∧
  ∀ (r c' : Int) (H' : Hp), 0 ≤ r → r < m → c ≤ c' → c' ≤ c + 1 → Xc [p] H H' → Src H' p c' → Q (.int r) H'
def spPick : Sp := fun vs H Q _ => ∃ (p l : Addr) (c : Int) (xs : List V), vs = [.ref p, .ref l] ∧ Src H p c ∧ c < 2 ^ 40 ∧ l ≠ p ∧ H l = some (.lst xs) ∧ 0 < xs.length ∧ xs.length ≤ 1000 ∧
  ∀ (v : V) (c' : Int) (H' : Hp), v ∈ xs → c ≤ c' → c' ≤ c + 1 → Xc [p] H H' → Src H' p c' → Q v H'
def spStream (K : PySem.W.Frag) : Sp := fun vs H Q _ => ∃ (l : Addr) (ns : List Int) (k : Nat), vs = [.ref l, .int (k : Int)] ∧ SqL K H l (ns.map V.int) ∧ k < 1000 ∧
  ∀ (p : Addr) (H' : Hp), H p = none → Ex H H' → Src H' p 0 → Q (.ref p) H'
theorem b01 (k : Bool) : (0 : Int) ≤ (if k = true then 1 else 0) ∧ (if k = true then (1 : Int) else 0) ≤ 1 := by
  cases k <;> decide
section
variable {P : Program} {w : World} {K : PySem.W.Frag} {mg : Str → Option Value} {base : Heap} {f : Addr} {fd : FuncData}
theorem ok_draw (F : Fun K "_law_draw" "_law_draw" sDraw f fd) : FnOk P w K mg base CX0 1 f fd ["_law_source", "_law_bound"] spDraw := by
  refine F.ok scDraw (fun vs H Q E h => ?_) (fun cdv A outer s H vs Q E hr h => ?_)
  · obtain ⟨p, c, m, rfl, _⟩ := h
    rfl
  · obtain ⟨p, c, m, rfl, ⟨a, b, hp, ha, hb, hb2, hc⟩, hc2, hm, hm2, q⟩ := h
    refine ⟨_, pss_cons (ps_if (pt_cmpR op_gt (pe_ix ix_list (pv 0) pe_int (fun _ _ => rfl)) pe_int (nomark _))
        (pss_cons (ps_set (i := 2) scDraw.nd rfl (.inl rfl) (pe_op op_mod (pe_ix ix_list (pv 0) pe_int (fun _ _ => rfl)) (pv 1)))
        (pss_cons (ps_asg (pe_op op_fdivW (pe_ix ix_list (pv 0) pe_int (fun _ _ => rfl)) (pv 1)) (pg_sub (pv 0) pe_int set_list))
        (pss_one (ps_ret (pv 2))))) pss_nil)
      (pss_cons (ps_asg (pe_op op_add (pe_ix ix_list (pv 0) pe_int (fun _ _ => rfl)) pe_int) (pg_sub (pv 0) pe_int set_list))
      (pss_cons (ps_set (i := 3) scDraw.nd rfl (.inl rfl) (pe_op op_mod (pe_op op_mul (pe_op op_add (pe_ix ix_list (pv 0) pe_int (fun _ _ => rfl)) (pe_op op_mul pe_int (pe_ix ix_list (pv 0) pe_int (fun _ _ => rfl))))
          (pe_op op_add pe_int (pe_ix ix_list (pv 0) pe_int (fun _ _ => rfl)))) pe_int))
      (pss_cons (ps_set (i := 4) scDraw.nd rfl (.inl rfl) (pe_op op_mod (pe_op op_mul (pe_op op_add (pe_op op_add (pv 3) (pe_ix ix_list (pv 0) pe_int (fun _ _ => rfl))) (pe_op op_fdiv (pe_ix ix_list (pv 0) pe_int (fun _ _ => rfl)) pe_int))
          (pe_op op_add (pe_op op_mod (pv 3) pe_int) pe_int)) pe_int))
      (pss_one (ps_ret (pe_op op_mod (pe_op op_fdiv (pe_op op_mod (pe_op op_add (pe_op op_mul (pv 4) pe_int) (pv 3)) pe_int) pe_int) (pv 1))))))), ?_⟩
    have look : ∀ {H1 : Hp} {a b c : Int}, H1 p = some (.lst [.int a, .int b, .int c]) → SqL K H1 p [.int a, .int b, .int c] := fun e => SqL.of e
    -- source[0] > 0
    refine ⟨_, rfl, p, _, _, _, rfl, rfl, look hp, rfl, _, _, rfl, rfl, _, rfl, ?_⟩
    refine ite2 (fun h0 => ?_) (fun h0 => ?_)
    · have a1 : (0 : Int) < a := of_decide_eq_true h0
      refine ⟨_, rfl, p, _, _, _, rfl, rfl, look hp, rfl, _, rfl, _, _, rfl, rfl, hm, ?_⟩
      refine ⟨_, rfl, p, _, _, _, rfl, rfl, look hp, rfl, _, rfl, _, _, rfl, rfl, ?_, ?_⟩
      · exact wide_div (b := 50) hm (by omega) (by decide) (by decide)
      refine ⟨_, rfl, p, _, _, 0, rfl, rfl, hp, rfl, ?_⟩
      refine ⟨_, rfl, ?_⟩
      have h1 := Int.emod_nonneg a (show m ≠ 0 by omega)
      have h2 := Int.emod_lt_of_pos a hm
      have h3 : 0 ≤ a / m := Int.ediv_nonneg ha (by omega)
      exact q _ c _ h1 h2 (Int.le_refl _) (by omega) ((Xc.refl [p] H).put List.mem_cons_self) ⟨_, _, upd_same, h3, hb, hb2, hc⟩
    · -- source[2] = source[2] + 1
      refine ⟨_, rfl, p, _, _, _, rfl, rfl, look hp, rfl, _, _, rfl, rfl, _, rfl, p, _, _, 2, rfl, rfl, hp, rfl, ?_⟩
      have h1 : upd H p (.lst [.int a, .int b, .int (c + 1)]) p = some (.lst [.int a, .int b, .int (c + 1)]) := upd_same
      -- once
      refine ⟨_, rfl, p, _, _, _, rfl, rfl, look h1, rfl, _, rfl, p, _, _, _, rfl, rfl, look h1, rfl, _, _, rfl, rfl, .inl ⟨by decide, by decide⟩, _, _, rfl, rfl,
        _, rfl, p, _, _, _, rfl, rfl, look h1, rfl, _, _, rfl, rfl, _, _, rfl, rfl, .inr ⟨by omega, by omega⟩, _, _, rfl, rfl, (show (0 : Int) < 2147483647 by decide), ?_⟩
      -- twice
      refine ⟨_, rfl, _, rfl, p, _, _, _, rfl, rfl, look h1, rfl, _, _, rfl, rfl, _, rfl, p, _, _, _, rfl, rfl, look h1, rfl, _, _, rfl, rfl, ⟨by decide, by decide⟩, _, _, rfl, rfl,
        _, rfl, _, _, rfl, rfl, (show (0 : Int) < 40009 by decide), _, _, rfl, rfl, _, _, rfl, rfl, .inr ?_, _, _, rfl, rfl, (show (0 : Int) < 2147483629 by decide), ?_⟩
      · have z1 := Int.emod_nonneg ((b + 48271 * (c + 1)) * (39373 + (c + 1)) % 2147483647) (show (40009 : Int) ≠ 0 by decide)
        have z2 := Int.emod_lt_of_pos ((b + 48271 * (c + 1)) * (39373 + (c + 1)) % 2147483647) (show (0 : Int) < 40009 by decide)
        exact ⟨by omega, by omega⟩
      · refine ⟨_, rfl, _, _, rfl, rfl, .inr ⟨by decide, by decide⟩, _, rfl, _, _, rfl, rfl, _, _, rfl, rfl, (show (0 : Int) < 2147483587 by decide), _, _, rfl, rfl, ⟨by decide, by decide⟩, _, rfl, _, _, rfl, rfl, hm, ?_⟩
        exact q _ (c + 1) _ (Int.emod_nonneg _ (by omega)) (Int.emod_lt_of_pos _ hm) (by omega) (by omega) ((Xc.refl [p] H).put List.mem_cons_self) ⟨a, b, upd_same, ha, hb, hb2, by omega⟩
theorem ok_pick (F : Fun K "_law_pick" "_law_pick" sPick f fd) (G__law_draw : Kf P w K mg base 1 "_law_draw" ["_law_source", "_law_bound"] spDraw) (mL : mg "len" = none) : FnOk P w K mg base CX0 2 f fd ["_law_source", "_law_some"] spPick := by
  refine F.ok scPick (fun vs H Q E h => ?_) (fun cdv A outer s H vs Q E hr h => ?_)
  · obtain ⟨p, l, c, xs, rfl, _⟩ := h
    rfl
  · obtain ⟨p, l, c, xs, rfl, S, hc, hne, hl, h0, h1, q⟩ := h
    refine ⟨_, pss_one (ps_ret (pe_ix ix_list (pv 1) (pe_fn G__law_draw (hr.mono (by decide)) (pa_cons (pv 0) (pa_cons (pe_callB call_len_seq (by rfl) mL PySem.boot_len (pa_cons (pv 1) pa_nil)) pa_nil))) (fun _ _ => rfl))), ?_⟩
    refine ⟨_, rfl, _, rfl, _, rfl, l, xs, rfl, .inl (SqL.of hl), ?_⟩
    refine ⟨p, c, _, rfl, S, hc, by omega, by omega, fun r c' H' r0 r1 c0 c1 x S' => ?_⟩
    obtain ⟨j, rfl⟩ : ∃ j : Nat, r = (j : Int) := ⟨r.toNat, by omega⟩
    have hj : j < xs.length := by omega
    refine ⟨l, xs, _, xs[j], rfl, rfl, SqL.of (x _ _ (fun z => hne (List.mem_singleton.mp z)) hl), atI_nat (List.getElem?_eq_getElem hj), ?_⟩
    exact q _ c' H' (List.getElem_mem hj) c0 c1 x S'
theorem ok_stream (F : Fun K "_law_stream" "_law_stream" sStream f fd) (mL : mg "len" = none) (mA : mg "abs" = none) (mI : mg "int" = none) :
    FnOk P w K mg base CX0 1 f fd ["_law_script", "_law_k"] (spStream K) := by
  refine F.ok scStream (fun vs H Q E h => ?_) (fun cdv A outer s H vs Q E hr h => ?_)
  · obtain ⟨l, ns, k, rfl, _⟩ := h
    rfl
  · obtain ⟨l, ns, k, rfl, hl, hk, q⟩ := h
    refine ⟨_, pss_cons (ps_set (i := 2) scStream.nd rfl (.inl rfl) pe_int)
      (pss_cons (ps_if (pt_cmpR op_lt (pv 1) (pe_callB call_len_seq (by rfl) mL PySem.boot_len (pa_cons (pv 0) pa_nil)) (nomark _))
        (pss_one (ps_set (i := 2) scStream.nd rfl (.inl rfl) (pe_ix ix_list (pv 0) (pv 1) (fun _ _ => rfl)))) pss_nil)
      (pss_one (ps_ret (pe_lst (pa_cons (pe_op op_mul (pe_callB call_abs (by rfl) mA (by decide +kernel) (pa_cons (pv 2) pa_nil))
          (pe_callTy call_int1 (by rfl) mI (by decide +kernel) (pa_cons (pe_cmpR op_ge (pe_callB call_abs (by rfl) mA (by decide +kernel) (pa_cons (pv 2) pa_nil)) (pe_op op_pow pe_int pe_int) (nomark _)) pa_nil)))
        (pa_cons (pe_op op_add (pe_op op_add (pe_op op_mod (pv 2) pe_int) (pe_op op_mul pe_int (pv 1))) pe_int) (pa_cons pe_int pa_nil))))))), ?_⟩
    have fin : ∀ (cell : Int) (σ : L2.St), σ[1]? = some (some (V.int (k : Int))) → σ[2]? = some (some (V.int cell)) → ∀ D : Ends, D.rt = Q →
        tRet (tLst (tCons (tOp (rI CMul fun i j => .int (i * j)) (tCB (fun xs H Q => ∃ i, xs = [.int i] ∧ Q (.int (if i < 0 then -i else i)) H) (tCons (tVar 2) tNil))
          (tCB (fun xs H Q => (∃ i, xs = [.int i] ∧ Q (.int i) H) ∨ ∃ k, xs = [.bl k] ∧ Q (.int (if k then 1 else 0)) H) (tCons (tOp (rI0 fun i j => .bl (decide (j ≤ i))) (tCB (fun xs H Q => ∃ i, xs = [.int i] ∧ Q (.int (if i < 0 then -i else i)) H) (tCons (tVar 2) tNil)) (tOp (rI CPow fun i j => .int (i ^ j.toNat)) (tC (.int 10)) (tC (.int 18)))) tNil)))
          (tCons (tOp (rI0 fun i j => .int (i + j)) (tOp (rI0 fun i j => .int (i + j)) (tOp (rI (fun _ j => 0 < j) fun i j => .int (i % j)) (tVar 2) (tC (.int 2305843009213693951))) (tOp (rI CMul fun i j => .int (i * j)) (tC (.int 39373)) (tVar 1))) (tC (.int 29))) (tCons (tC (.int 0)) tNil)))) D σ H := by
      intro cell σ s1 s2 D eD
      refine ⟨_, s2, _, rfl, _, s2, _, rfl, _, _, rfl, rfl, ⟨by decide, by decide, by decide⟩, _, _, rfl, rfl, .inr ⟨_, rfl, _, _, rfl, rfl, .inr ?_, ?_⟩⟩
      · exact ⟨Int.lt_of_lt_of_le (by decide) (b01 _).1, Int.lt_of_le_of_lt (b01 _).2 (by decide)⟩
      · refine ⟨_, s2, _, _, rfl, rfl, (show (0 : Int) < 2305843009213693951 by decide), _, s1, _, _, rfl, rfl, .inl ⟨by decide, by decide⟩, _, _, rfl, rfl, _, _, rfl, rfl, (by show 3 ≤ sizeLine; decide), fun p hp => ?_⟩
        rw [eD]
        have z1 := Int.emod_nonneg cell (show (2305843009213693951 : Int) ≠ 0 by decide)
        have z2 := Int.emod_lt_of_pos cell (show (0 : Int) < 2305843009213693951 by decide)
        refine q p _ hp (Ex.new hp) ⟨_, _, upd_same, ?_, by omega, by omega, Int.le_refl 0⟩
        refine Int.mul_nonneg ?_ ?_
        · split <;> omega
        · exact (b01 _).1
    refine ⟨_, rfl, _, rfl, l, _, rfl, .inl hl, _, _, rfl, rfl, _, rfl, ?_⟩
    refine ite2 (fun h1 => ?_) (fun h1 => ?_)
    · have h2 := of_decide_eq_true h1
      rw [List.length_map] at h2
      have h3 : k < ns.length := by omega
      refine ⟨_, rfl, _, rfl, l, _, _, .int ns[k], rfl, rfl, hl, atI_nat (by rw [List.getElem?_map, List.getElem?_eq_getElem h3]; rfl), ?_⟩
      exact fin ns[k] _ rfl rfl _ rfl
    · exact fin 0 _ rfl rfl _ rfl
end
def spFolded (K : PySem.W.Frag) : Sp := fun vs H Q _ => ∃ (l : Addr) (ns : List Int) (m : Nat), vs = [.ref l, .int (m : Int)] ∧ SqL K H l (ns.map V.int) ∧ ns.length ≤ 63 ∧ 0 < m ∧ m ≤ 10 ∧
  ∀ (p : Addr) (ms : List Int) (H' : Hp), H p = none → Same H H' → H' p = some (.lst (ms.map V.int)) → 0 < ms.length → ms.length ≤ m → Q (.ref p) H'
theorem cut_ints (ns : List Int) (lo hi : Option Int) : cutV (ns.map V.int) lo hi = ((ns.drop (HT.sIx ns.length 0 lo)).take (HT.sIx ns.length ns.length hi - HT.sIx ns.length 0 lo)).map V.int := by
  unfold cutV
  rw [List.length_map, List.map_take, List.map_drop]
theorem same_new {H : Hp} {p : Addr} {o : HO} (h : H p = none) : Same H (upd H p o) := fun b x e => by
  rw [upd_ne (ne_of_none e h)]
  exact e
theorem same_mut {H H' : Hp} {p : Addr} {o : HO} (s : Same H H') (h : H p = none) : Same H (upd H' p o) := fun b x e => by
  rw [upd_ne (ne_of_none e h)]
  exact s b x e
section
variable {P : Program} {w : World} {K : PySem.W.Frag} {mg : Str → Option Value} {base : Heap} {f : Addr} {fd : FuncData}
theorem ok_folded (F : Fun K "_law_folded" "_law_folded" sFolded f fd) (mL : mg "list" = none) (mE : mg "enumerate" = none) :
    FnOk P w K mg base CX0 1 f fd ["_law_script", "_law_most"] (spFolded K) := by
  refine F.ok scFolded (fun vs H Q E h => ?_) (fun cdv A outer s H vs Q E hr h => ?_)
  · obtain ⟨l, ns, m, rfl, _⟩ := h
    rfl
  · obtain ⟨l, ns, m, rfl, hl, hn, hm0, hm1, q⟩ := h
    refine ⟨_, pss_cons (ps_set (i := 2) scFolded.nd rfl (.inl rfl) (pe_orT (pe_callTy call_list_of (by rfl) mL (by decide +kernel) (pa_cons (pe_slice sl_list (pv 0) po_none (po_some (pv 1))) pa_nil)) (pe_one (pe_lst (pa_cons pe_int pa_nil)))))
      (pss_cons (ps_for PassesOwn.never rfl (pi_enum (by rfl) mE (pa_cons (pe_slice sl_list (pv 0) (po_some (pv 1)) (po_some pe_int)) pa_nil))
          (pg_tup rfl (pgs_cons (pg_name (i := 3) scFolded.nd rfl (.inl rfl)) (pgs_cons (pg_name (i := 4) scFolded.nd rfl (.inl rfl)) pgs_nil)))
        (pss_one (ps_asg (pe_op op_add (pe_ix ix_list (pv 2) (pe_op op_mod (pv 3) (pv 1)) (fun _ _ => rfl)) (pe_op op_mul (pv 4) (pe_op op_add (pv 3) pe_int))) (pg_sub (pv 2) (pe_op op_mod (pv 3) (pv 1)) set_list))))
      (pss_one (ps_ret (pv 2)))), ?_⟩
    -- the loop, from cells of ms at p
    have loop : ∀ (p : Addr) (ms : List Int) (H1 : Hp) (D : Ends), D.rt = Q → H p = none → Same H H1 → H1 p = some (.lst (ms.map V.int)) → 0 < ms.length → ms.length ≤ m → (m ≤ ns.length → ms.length = m) →
        tSeq (tFor (iEnum K (tCons (tSl (rSlL K) (tVar 0) (tPart (tVar 1)) (tPart (tC (.int 63)))) tNil)) (gTup K 2 (gCons (gName 3) (gCons (gName 4) gNil)))
          (tAsg (tOp (rI0 fun i j => .int (i + j)) (tOp (rIxL K) (tVar 2) (tOp (rI (fun _ j => 0 < j) fun i j => .int (i % j)) (tVar 3) (tVar 1))) (tOp (rI CMul fun i j => .int (i * j)) (tVar 4) (tOp (rI0 fun i j => .int (i + j)) (tVar 3) (tC (.int 2)))))
            (gSub (tVar 2) (tOp (rI (fun _ j => 0 < j) fun i j => .int (i % j)) (tVar 3) (tVar 1)) rSetL))) (tRet (tVar 2)) D [some (.ref l), some (.int (m : Int)), some (.ref p), none, none] H1 := by
      intro p ms H1 D eD hp s1 hc h0 h1 h2
      obtain ⟨ks, eks, hks, hk0⟩ : ∃ ks : List Int, cutV (ns.map V.int) (some (m : Int)) (some 63) = ks.map V.int ∧ ks.length ≤ 63 ∧ (ns.length < m → ks.length = 0) := by
        refine ⟨_, cut_ints ns _ _, ?_, fun z => ?_⟩
        · rw [List.length_take, List.length_drop]
          omega
        · rw [List.length_take, List.length_drop, HT.sIx_nat]
          omega
      refine ⟨_, rfl, _, rfl, _, rfl, 63, rfl, l, _, rfl, s1.seq hl, fun c nc => ?_⟩
      rw [eks]
      refine ⟨c, _, rfl, SqL.of upd_same, ?_⟩
      have ncp : c ≠ p := fun e => by
        rw [e, hc] at nc
        cases nc
      refine for_it (walk_enum (K := K) (a := c) (xs := ks.map V.int)) (fun i σ H3 => ∃ (y3 y4 : Option V) (zs : List Int), σ = [some (.ref l), some (.int (m : Int)), some (.ref p), y3, y4] ∧ Same H H3 ∧ H3 c = some (.lst (ks.map V.int)) ∧ H3 p = some (.lst (zs.map V.int)) ∧ zs.length = ms.length)
        ⟨none, none, ms, rfl, s1.trans (same_new nc), upd_same, by rw [upd_ne ncp.symm]; exact hc, rfl⟩ (fun i σ H3 _ ⟨_, _, _, _, _, e, _⟩ => SqL.of e) ?_ ?_
      · rintro i x σ H3 H4 hi ⟨y3, y4, zs, rfl, s3, e3, e4, e5⟩ ⟨T, x1, x2, rfl, nT, rfl, f1, f2⟩
        rw [List.length_map] at hi
        obtain rfl : V.int ((i : Nat) : Int) = x1 := Option.some.inj f1
        obtain rfl : V.int ks[i] = x2 := by
          have f3 : (ks.map V.int)[i]? = some x2 := f2
          rw [List.getElem?_map, List.getElem?_eq_getElem hi] at f3
          exact Option.some.inj f3
        have nTp : p ≠ T := ne_of_none e4 nT
        have nTc : c ≠ T := ne_of_none e3 nT
        have e4' : upd H3 T (.tup [.int ((i : Nat) : Int), .int ks[i]]) p = some (.lst (zs.map V.int)) := (upd_ne nTp).trans e4
        have hmn : m ≤ ns.length := by
          by_cases z : ns.length < m
          · have := hk0 z
            omega
          · omega
        have hz := h2 hmn
        have i1 := Int.emod_nonneg (i : Int) (show (m : Int) ≠ 0 by omega)
        have i2 := Int.emod_lt_of_pos (i : Int) (show (0 : Int) < (m : Int) by omega)
        obtain ⟨j, ej⟩ : ∃ j : Nat, (i : Int) % (m : Int) = (j : Int) := ⟨((i : Int) % (m : Int)).toNat, by omega⟩
        have hj : j < zs.length := by omega
        have hjm : j < (zs.map V.int).length := by rw [List.length_map]; exact hj
        refine ⟨T, _, rfl, .inl (.inl upd_same), rfl, _, _, rfl, _, _, rfl, rfl, ?_⟩
        refine ⟨_, rfl, _, rfl, _, rfl, _, _, rfl, rfl, (show (0 : Int) < (m : Int) by omega), p, _, _, .int zs[j], rfl, rfl, SqL.of e4', ?_, ?_⟩
        · rw [ej]
          exact atI_nat (by rw [List.getElem?_map, List.getElem?_eq_getElem hj]; rfl)
        refine ⟨_, rfl, _, rfl, _, _, rfl, rfl, _, _, rfl, rfl, .inr ⟨by omega, by omega⟩, _, _, rfl, rfl, ?_⟩
        refine ⟨_, rfl, _, rfl, _, rfl, _, _, rfl, rfl, (show (0 : Int) < (m : Int) by omega), p, _, _, j, rfl, rfl, e4', ?_, ?_⟩
        · rw [ej]
          unfold ixN
          rw [if_pos (by omega), if_pos (by omega), Int.toNat_natCast]
        refine ⟨_, _, zs.set j (zs[j] + ks[i] * ((i : Int) + 2)), rfl, fun b o e => ?_, ?_, ?_, by rw [List.length_set]; exact e5⟩
        · rw [upd_ne (ne_of_none e hp), upd_ne (ne_of_none (s3 b o e) nT)]
          exact s3 b o e
        · rw [upd_ne ncp, upd_ne nTc]
          exact e3
        · rw [upd_same, List.map_set]
      · rintro σ H3 ⟨y3, y4, zs, rfl, s3, e3, e4, e5⟩
        refine ⟨_, rfl, ?_⟩
        rw [eD]
        exact q p zs H3 hp s3 e4 (by omega) (by omega)
    -- list(script[:most]) or [0]
    obtain ⟨ts, ets, hts⟩ : ∃ ts : List Int, cutV (ns.map V.int) none (some (m : Int)) = ts.map V.int ∧ ts.length = min m ns.length := by
      refine ⟨_, cut_ints ns _ _, ?_⟩
      rw [List.length_take, List.length_drop, HT.sIx_nat, HT.sIx_none]
      omega
    refine ⟨_, rfl, _, rfl, _, rfl, l, _, rfl, hl, fun c nc => ?_⟩
    rw [ets]
    refine ⟨c, _, rfl, .inl (SqL.of upd_same), fun p np => ?_⟩
    have s2 := same_new (o := HO.lst (ts.map V.int)) nc
    have hp : H p = none := s2.free np
    have s3 := s2.trans (same_new (o := HO.lst (ts.map V.int)) np)
    refine ⟨_, .inl ⟨_, SqL.of upd_same, rfl⟩, ?_⟩
    cases ts with
    | nil =>
      refine iteF ⟨by show 1 ≤ sizeLine; decide, fun p2 np2 => ?_⟩
      rw [List.length_nil] at hts
      exact loop p2 [0] _ _ rfl (s3.free np2) (s3.trans (same_new np2)) upd_same (by decide) hm0 (fun z => by omega)
    | cons t ts => exact iteT (loop p (t :: ts) _ _ rfl hp s3 upd_same (Nat.succ_pos _) (by omega) (fun z => by omega))
end
end KS
set_option Elab.async false
set_option linter.all false
set_option maxRecDepth 100000
set_option maxHeartbeats 4000000
namespace KM
open PySem
inductive Ph where
  | runs | frozen | given
  deriving DecidableEq
structure Gv where
  ph : Ph
  turn : Nat
  pcs : List Str
  known : Bool
structure Tk where
  turn : Nat
  many : Nat
  kept : List (Nat × Str)
  run : Bool
inductive Msg where
  | piece (t i n : Nat) (s : Str) | go (t : Nat) | whole (t : Nat) | going (t : Nat)
def Tk.keys (T : Tk) : List Nat := T.kept.map (·.1)
def wholeB (T : Tk) : Bool := decide (0 < T.turn) && decide (T.many ≤ T.kept.length)
def gRecv (G : Gv) : Msg → Gv
  | .whole t => if t = G.turn ∧ G.ph = .frozen then { G with ph := .given } else G
  | .going t => if t = G.turn ∧ G.ph = .given then { G with known := true } else G
  | _ => G
def tStart (T : Tk) (t n : Nat) : Tk := if T.turn < t then ⟨t, n, [], false⟩ else T
def tKeep (T : Tk) (t i : Nat) (s : Str) : Tk := if t = T.turn ∧ i ∉ T.keys then { T with kept := T.kept ++ [(i, s)] } else T
def tRecv (T : Tk) (m : Msg) : Tk := if T.run = true then T else match m with
  | .piece t i n s => tKeep (tStart T t n) t i s
  | .go t => if t = T.turn ∧ wholeB T = true then { T with run := true } else T
  | _ => T
def pieces (t n : Nat) : Nat → List Str → List Msg
  | _, [] => []
  | i, s :: r => .piece t i n s :: pieces t n (i + 1) r
def gMsgs (G : Gv) : List Msg := match G.ph with
  | .frozen => pieces G.turn G.pcs.length 0 G.pcs
  | .given => if G.known = true then [] else [.go G.turn]
  | .runs => []
def tMsgs (T : Tk) : List Msg := if T.run = true then [.going T.turn] else if wholeB T = true then [.whole T.turn] else []
def okM (P : Nat → List Str) (G : Gv) (T : Tk) : Msg → Prop
  | .piece t i n s => 1 ≤ t ∧ t ≤ G.turn ∧ n = (P t).length ∧ (P t)[i]? = some s
  | .go t => t = G.turn ∧ G.ph = .given
  | .whole t => 1 ≤ t ∧ t ≤ G.turn ∧ (t < T.turn ∨ (t = T.turn ∧ wholeB T = true))
  | .going t => T.run = true ∧ t = T.turn
structure Iv (P : Nat → List Str) (G : Gv) (T : Tk) (L : List Msg) : Prop where
  g0 : G.ph = .runs ∨ (1 ≤ G.turn ∧ G.pcs = P G.turn)
  ne : ∀ t, P t ≠ []
  sz : ∀ t, (P t).length ≤ 20
  tt : T.turn ≤ G.turn
  tk : 1 ≤ T.turn → T.many = (P T.turn).length ∧ T.keys.Nodup ∧ ∀ x ∈ T.kept, (P T.turn)[x.1]? = some x.2
  t0 : T.turn = 0 → T.kept = [] ∧ T.run = false
  gv : G.ph = .given → T.turn = G.turn ∧ wholeB T = true
  rn : T.run = true → G.ph = .given
  ms : ∀ m ∈ L, okM P G T m
  kn : G.known = true → T.run = true
theorem iv_init : Iv (fun _ => [""]) ⟨.runs, 0, [], false⟩ ⟨0, 0, [], false⟩ [] :=
  ⟨.inl rfl, fun _ h => by simp at h, fun _ => by simp, Nat.le_refl 0, fun h => absurd h (by decide), fun _ => ⟨rfl, rfl⟩, fun h => (nomatch h), fun h => (nomatch h), fun m h => (nomatch h), fun h => (nomatch h)⟩
section
variable {P : Nat → List Str} {G : Gv} {T : Tk} {L : List Msg}
theorem Iv.sub {L' : List Msg} (I : Iv P G T L) (h : ∀ m ∈ L', m ∈ L) : Iv P G T L' :=
  ⟨I.g0, I.ne, I.sz, I.tt, I.tk, I.t0, I.gv, I.rn, fun m hm => I.ms m (h m hm), I.kn⟩
theorem Iv.cat {L' : List Msg} (I : Iv P G T L) (h : ∀ m ∈ L', okM P G T m) : Iv P G T (L ++ L') :=
  ⟨I.g0, I.ne, I.sz, I.tt, I.tk, I.t0, I.gv, I.rn, fun m hm => (List.mem_append.mp hm).elim (I.ms m) (h m), I.kn⟩
def put (P : Nat → List Str) (t : Nat) (p : List Str) : Nat → List Str := fun k => if k = t then p else P k
theorem Iv.freeze {p : List Str} (I : Iv P G T L) (hr : G.ph = .runs) (hp : p ≠ []) (hz : p.length ≤ 20) : Iv (put P (G.turn + 1) p) { G with ph := .frozen, turn := G.turn + 1, pcs := p } T L := by
  have pe : ∀ t, t ≤ G.turn → put P (G.turn + 1) p t = P t := fun t h => if_neg (by omega)
  refine ⟨.inr ⟨by simp, by simp [put]⟩, fun t => ?_, fun t => ?_, Nat.le_succ_of_le I.tt, fun h => ?_, I.t0, fun h => (nomatch h), fun h => ?_, fun m hm => ?_, I.kn⟩
  · unfold put
    split
    · exact hp
    · exact I.ne t
  · unfold put
    split
    · exact hz
    · exact I.sz t
  · have := I.tt
    rw [pe _ this]
    exact I.tk h
  · have := I.rn h
    rw [hr] at this
    cases this
  · have := I.ms m hm
    cases m with
    | piece t i n s =>
      obtain ⟨a, b, c, d⟩ := this
      refine ⟨a, Nat.le_succ_of_le b, ?_, ?_⟩
      · rw [pe t b]; exact c
      · rw [pe t b]; exact d
    | go t =>
      obtain ⟨_, b⟩ := this
      rw [hr] at b
      cases b
    | whole t =>
      obtain ⟨a, b, c⟩ := this
      exact ⟨a, Nat.le_succ_of_le b, c⟩
    | going t => exact this
theorem Iv.resume (I : Iv P G T L) (hf : G.ph = .frozen) : Iv P { G with ph := .runs } T L := by
  refine ⟨.inl rfl, I.ne, I.sz, I.tt, I.tk, I.t0, fun h => (nomatch h), fun h => ?_, fun m hm => ?_, I.kn⟩
  · have := I.rn h
    rw [hf] at this
    cases this
  · have := I.ms m hm
    cases m with
    | go t =>
      obtain ⟨_, b⟩ := this
      rw [hf] at b
      cases b
    | piece t i n s => exact this
    | whole t => exact this
    | going t => exact this
theorem okM_ph {G' : Gv} {m : Msg} (ht : G'.turn = G.turn) (hp : G.ph = .given → G'.ph = .given) (h : okM P G T m) : okM P G' T m := by
  cases m with
  | piece t i n s => obtain ⟨a, b, c⟩ := h; exact ⟨a, by rw [ht]; exact b, c⟩
  | go t => obtain ⟨a, b⟩ := h; exact ⟨by rw [ht]; exact a, hp b⟩
  | whole t => obtain ⟨a, b, c⟩ := h; exact ⟨a, by rw [ht]; exact b, c⟩
  | going t => exact h
theorem Iv.toG {m : Msg} (I : Iv P G T L) (hm : m ∈ L) : Iv P (gRecv G m) T L := by
  have ok := I.ms m hm
  cases m with
  | piece t i n s => exact I
  | go t => exact I
  | whole t =>
    show Iv P (if t = G.turn ∧ G.ph = .frozen then { G with ph := .given } else G) T L
    split
    · rename_i h
      obtain ⟨h1, h2⟩ := h
      obtain ⟨a, b, c⟩ := ok
      have wh : T.turn = G.turn ∧ wholeB T = true := by
        rcases c with c | ⟨c1, c2⟩
        · have := I.tt; omega
        · exact ⟨by omega, c2⟩
      refine ⟨.inr ?_, I.ne, I.sz, I.tt, I.tk, I.t0, fun _ => wh, fun _ => rfl, fun m hm => okM_ph (G := G) rfl (fun _ => rfl) (I.ms m hm), I.kn⟩
      rcases I.g0 with g | g
      · rw [h2] at g; cases g
      · exact g
    · exact I
  | going t =>
    show Iv P (if t = G.turn ∧ G.ph = .given then { G with known := true } else G) T L
    split
    · exact ⟨I.g0, I.ne, I.sz, I.tt, I.tk, I.t0, I.gv, I.rn, fun m hm => okM_ph (G := G) rfl (fun h => h) (I.ms m hm), fun _ => ok.1⟩
    · exact I
theorem keys_lt (I : Iv P G T L) (h : 1 ≤ T.turn) : ∀ i ∈ T.keys, i < (P T.turn).length := fun i m => by
  obtain ⟨x, mx, rfl⟩ := List.mem_map.mp m
  exact (List.getElem?_eq_some_iff.mp ((I.tk h).2.2 x mx)).1
theorem nodup_all : ∀ (n : Nat) (l : List Nat), l.Nodup → (∀ i ∈ l, i < n) → l.length ≤ n ∧ (n ≤ l.length → ∀ i, i < n → i ∈ l)
  | 0, l, _, h => by
    cases l with
    | nil => exact ⟨Nat.le_refl 0, fun _ i hi => absurd hi (Nat.not_lt_zero _)⟩
    | cons a l => exact absurd (h a List.mem_cons_self) (Nat.not_lt_zero _)
  | n + 1, l, nd, h => by
    have ih := nodup_all n (l.filter fun i => decide (i ≠ n)) (nd.filter _) (fun i m => by
      have := List.mem_filter.mp m
      have h1 := h i this.1
      have h2 : i ≠ n := of_decide_eq_true this.2
      omega)
    by_cases hn : n ∈ l
    · have e : (l.filter fun i => decide (i ≠ n)).length + 1 = l.length := by
        have := nd.erase_eq_filter n
        have e2 := List.length_erase_of_mem hn
        rw [this] at e2
        have pos : 0 < l.length := List.length_pos_of_mem hn
        have e3 : (l.filter fun i => decide (i ≠ n)) = l.filter (fun x => x != n) := List.filter_congr fun x _ => by
          by_cases z : x = n <;> simp [z]
        rw [e3]
        omega
      refine ⟨by omega, fun hl i hi => ?_⟩
      by_cases z : i = n
      · rw [z]; exact hn
      · exact (List.mem_filter.mp (ih.2 (by omega) i (by omega))).1
    · have e : (l.filter fun i => decide (i ≠ n)) = l := List.filter_eq_self.mpr fun i m => decide_eq_true (fun z => hn (z ▸ m))
      rw [e] at ih
      exact ⟨by omega, fun hl => by omega⟩
theorem nodup_sub : ∀ {l m : List Nat}, l.Nodup → (∀ a ∈ l, a ∈ m) → l.length ≤ m.length
  | [], _, _, _ => Nat.zero_le _
  | a :: l, m, nd, h => by
    have nd' := List.nodup_cons.mp nd
    have ma := h a List.mem_cons_self
    have ih := nodup_sub (m := m.erase a) nd'.2 fun b hb => (List.mem_erase_of_ne (fun z => nd'.1 (by rw [← z]; exact hb))).mpr (h b (List.mem_cons_of_mem _ hb))
    have e := List.length_erase_of_mem ma
    have pos : 0 < m.length := List.length_pos_of_mem ma
    simp only [List.length_cons]
    omega
theorem few_kept (I : Iv P G T L) (h : 1 ≤ T.turn) : T.kept.length ≤ T.many ∧ (T.many ≤ T.kept.length → ∀ i, i < T.many → i ∈ T.keys) := by
  have z := nodup_all (P T.turn).length T.keys (I.tk h).2.1 (keys_lt I h)
  rw [← (I.tk h).1] at z
  have e : T.keys.length = T.kept.length := List.length_map _
  rw [e] at z
  exact z
theorem whole_eq (I : Iv P G T L) : wholeB T = (decide (0 < T.turn) && decide (T.kept.length = T.many)) := by
  unfold wholeB
  by_cases h : 0 < T.turn
  · have := (few_kept I h).1
    congr 1
    rw [decide_eq_decide]
    omega
  · rw [decide_eq_false h]
    rfl
theorem whole_in (I : Iv P G T L) (h : wholeB T = true) : 1 ≤ T.turn ∧ ∀ i, i < (P T.turn).length → i ∈ T.keys := by
  unfold wholeB at h
  rw [Bool.and_eq_true] at h
  have h1 : 0 < T.turn := of_decide_eq_true h.1
  have h2 := of_decide_eq_true h.2
  refine ⟨h1, fun i hi => ?_⟩
  rw [← (I.tk h1).1] at hi
  exact (few_kept I h1).2 h2 i hi
theorem okM_T {T' : Tk} {m : Msg} (hw : ∀ t, t < T.turn ∨ (t = T.turn ∧ wholeB T = true) → t < T'.turn ∨ (t = T'.turn ∧ wholeB T' = true)) (hr : T.run = true → T'.run = true ∧ T'.turn = T.turn) (h : okM P G T m) : okM P G T' m := by
  cases m with
  | piece t i n s => exact h
  | go t => exact h
  | whole t => obtain ⟨a, b, c⟩ := h; exact ⟨a, b, hw t c⟩
  | going t => obtain ⟨a, b⟩ := h; exact ⟨(hr a).1, by rw [(hr a).2]; exact b⟩
/-- a piece that begins a later try -/
theorem Iv.start {t n : Nat} (I : Iv P G T L) (hn : n = (P t).length) (h1 : 1 ≤ t) (hg : t ≤ G.turn) (hr : T.run = false) : Iv P G (tStart T t n) L := by
  unfold tStart
  split
  · rename_i h
    refine ⟨I.g0, I.ne, I.sz, hg, fun _ => ⟨hn, List.Pairwise.nil, fun x m => by cases m⟩, fun z => ?_, fun z => ?_, fun z => (by cases z), fun m hm => okM_T (fun k c => .inl ?_) (fun z => ?_) (I.ms m hm), fun z => (by have := I.kn z; rw [hr] at this; cases this)⟩
    · have : t = 0 := z
      omega
    · have := (I.gv z).1
      omega
    · show k < t
      rcases c with c | c <;> omega
    · rw [hr] at z
      cases z
  · exact I
theorem Iv.keep {t i : Nat} {s : Str} (I : Iv P G T L) (h1 : 1 ≤ t) (hs : (P t)[i]? = some s) : Iv P G (tKeep T t i s) L := by
  unfold tKeep
  split
  · rename_i h
    obtain ⟨e, hk⟩ := h
    subst e
    have tk := I.tk h1
    have up : ∀ k, k < T.turn ∨ (k = T.turn ∧ wholeB T = true) → k < T.turn ∨ (k = T.turn ∧ wholeB { T with kept := T.kept ++ [(i, s)] } = true) := fun k c => by
      rcases c with c | ⟨c1, c2⟩
      · exact .inl c
      · refine .inr ⟨c1, ?_⟩
        unfold wholeB at c2 ⊢
        rw [Bool.and_eq_true] at c2 ⊢
        refine ⟨c2.1, decide_eq_true ?_⟩
        have := of_decide_eq_true c2.2
        show T.many ≤ (T.kept ++ [(i, s)]).length
        rw [List.length_append]
        omega
    refine ⟨I.g0, I.ne, I.sz, I.tt, fun _ => ⟨tk.1, ?_, fun x m => ?_⟩, fun z => ?_, fun z => ⟨(I.gv z).1, ?_⟩, I.rn, fun m hm => okM_T up (fun z => ⟨z, rfl⟩) (I.ms m hm), I.kn⟩
    · show ((T.kept ++ [(i, s)]).map (·.1)).Nodup
      rw [List.map_append, List.nodup_append]
      refine ⟨tk.2.1, by simp, fun a ha b hb => ?_⟩
      rw [List.mem_singleton.mp hb]
      exact fun z => hk (by rw [← show a = i from z]; exact ha)
    · rcases List.mem_append.mp m with m | m
      · exact tk.2.2 x m
      · rw [List.mem_singleton.mp m]
        exact hs
    · have : T.turn = 0 := z
      omega
    · have q := up T.turn (.inr ⟨rfl, (I.gv z).2⟩)
      rcases q with q | q
      · exact absurd q (Nat.lt_irrefl _)
      · exact q.2
  · exact I
theorem Iv.toT {m : Msg} (I : Iv P G T L) (hm : m ∈ L) : Iv P G (tRecv T m) L := by
  have ok := I.ms m hm
  unfold tRecv
  split
  · exact I
  · rename_i hr
    have hr : T.run = false := by
      cases z : T.run with
      | false => rfl
      | true => exact absurd z hr
    cases m with
    | piece t i n s =>
      obtain ⟨a, b, c, d⟩ := ok
      exact (I.start c a b hr).keep a d
    | go t =>
      show Iv P G (if t = T.turn ∧ wholeB T = true then { T with run := true } else T) L
      split
      · rename_i h
        obtain ⟨a, b⟩ := ok
        refine ⟨I.g0, I.ne, I.sz, I.tt, I.tk, fun z => ?_, fun z => I.gv z, fun _ => b, fun m hm => okM_T (T := T) (fun k c => c) (fun z => ⟨rfl, rfl⟩) (I.ms m hm), fun _ => rfl⟩
        have z2 : T.turn = 0 := z
        have := (whole_in I h.2).1
        omega
      · exact I
    | whole t => exact I
    | going t => exact I
theorem mem_pieces {t n : Nat} {m : Msg} : ∀ {ps : List Str} {k : Nat}, m ∈ pieces t n k ps → ∃ j s, m = .piece t (k + j) n s ∧ ps[j]? = some s
  | [], _, h => by cases h
  | s :: r, k, h => by
    rcases List.mem_cons.mp h with h | h
    · exact ⟨0, s, h, rfl⟩
    · obtain ⟨j, s', e, g⟩ := mem_pieces h
      exact ⟨j + 1, s', by rw [e]; congr 1; omega, by simpa using g⟩
theorem pieces_len {t n : Nat} : ∀ {ps : List Str} {k : Nat}, (pieces t n k ps).length = ps.length
  | [], _ => rfl
  | s :: r, k => by
    show (pieces t n (k + 1) r).length + 1 = _
    rw [pieces_len]
    rfl
theorem Iv.gm (I : Iv P G T L) : ∀ m ∈ gMsgs G, okM P G T m := fun m h => by
  unfold gMsgs at h
  cases z : G.ph with
  | runs => rw [z] at h; cases h
  | frozen =>
    rw [z] at h
    obtain ⟨j, s, rfl, g⟩ := mem_pieces h
    rcases I.g0 with g0 | ⟨g1, g2⟩
    · rw [z] at g0; cases g0
    · refine ⟨g1, Nat.le_refl _, by rw [g2], ?_⟩
      rw [← g2, Nat.zero_add]
      exact g
  | given =>
    rw [z] at h
    dsimp only at h
    split at h
    · cases h
    · rw [List.mem_singleton.mp h]
      exact ⟨rfl, z⟩
theorem Iv.tm (I : Iv P G T L) : ∀ m ∈ tMsgs T, okM P G T m := fun m h => by
  unfold tMsgs at h
  split at h
  · rename_i hr
    rw [List.mem_singleton.mp h]
    exact ⟨hr, rfl⟩
  · split at h
    · rename_i hw
      rw [List.mem_singleton.mp h]
      exact ⟨(whole_in I hw).1, I.tt, .inr ⟨rfl, hw⟩⟩
    · cases h
/-- what the taker keeps, by the places in order -/
def find (l : List (Nat × Str)) (i : Nat) : Option Str := (l.find? fun x => decide (x.1 = i)).map (·.2)
theorem find_in {l : List (Nat × Str)} {i : Nat} (h : i ∈ l.map (·.1)) : ∃ s, find l i = some s ∧ (i, s) ∈ l := by
  obtain ⟨x, m, rfl⟩ := List.mem_map.mp h
  cases z : l.find? fun y => decide (y.1 = x.1) with
  | none => exact absurd (decide_eq_true rfl) (List.find?_eq_none.mp z x m)
  | some y =>
    have e : y.1 = x.1 := of_decide_eq_true (List.find?_some (p := fun y : Nat × Str => decide (y.1 = x.1)) z)
    refine ⟨y.2, by unfold find; rw [z]; rfl, ?_⟩
    rw [← e]
    exact List.mem_of_find?_eq_some z
theorem text_of (I : Iv P G T L) (h : wholeB T = true) : (List.range (P T.turn).length).map (fun i => (find T.kept i).getD "") = P T.turn := by
  obtain ⟨h1, h2⟩ := whole_in I h
  refine List.ext_getElem? fun i => ?_
  rw [List.getElem?_map]
  by_cases hi : i < (P T.turn).length
  · rw [List.getElem?_range hi]
    obtain ⟨s, e1, e2⟩ := find_in (h2 i hi)
    rw [Option.map_some, e1, (I.tk h1).2.2 _ e2]
    rfl
  · rw [List.getElem?_eq_none (by simpa using hi), List.getElem?_eq_none (by omega)]
    rfl
theorem keys_perm (I : Iv P G T L) (h : wholeB T = true) : ∀ i, i ∈ T.keys ↔ i < (P T.turn).length := fun i => by
  obtain ⟨h1, h2⟩ := whole_in I h
  exact ⟨keys_lt I h1 i, h2 i⟩
/-! ### the end -/
/-- every piece delivered, one after another -/
theorem deliver (I : Iv P G T L) (hf : G.ph = .frozen) : wholeB ((gMsgs G).foldl tRecv T) = true ∧ ((gMsgs G).foldl tRecv T).turn = G.turn := by
  obtain ⟨g1, g2⟩ : 1 ≤ G.turn ∧ G.pcs = P G.turn := I.g0.resolve_left (by rw [hf]; intro z; cases z)
  have key : ∀ (ps : List Str) (k : Nat) (T : Tk), Iv P G T L → (∀ j s, ps[j]? = some s → (P G.turn)[k + j]? = some s) → (0 < k ∨ T.turn = G.turn → T.turn = G.turn ∧ ∀ i, i < k → i ∈ T.keys) → k + ps.length = (P G.turn).length → (T.turn = G.turn ∨ ps ≠ []) →
      let T' := (pieces G.turn (P G.turn).length k ps).foldl tRecv T
      Iv P G T' L ∧ T'.turn = G.turn ∧ ∀ i, i < (P G.turn).length → i ∈ T'.keys := by
    intro ps
    induction ps with
    | nil =>
      intro k T I hp hk hl hx
      have e : T.turn = G.turn := hx.resolve_right (fun z => z rfl)
      have z := hk (.inr e)
      refine ⟨I, e, fun i hi => z.2 i ?_⟩
      simp at hl
      omega
    | cons s r ih =>
      intro k T I hp hk hl hx
      have hs : (P G.turn)[k]? = some s := hp 0 s rfl
      have run : T.run = false := by
        cases z : T.run with
        | false => rfl
        | true =>
          have := I.rn z
          rw [hf] at this
          cases this
      have e1 : tRecv T (.piece G.turn k (P G.turn).length s) = tKeep (tStart T G.turn (P G.turn).length) G.turn k s := by
        unfold tRecv
        rw [if_neg (by rw [run]; decide)]
      have I1 := I.start (n := (P G.turn).length) rfl g1 (Nat.le_refl _) run
      have I2 := I1.keep (i := k) g1 hs
      have t1 : (tStart T G.turn (P G.turn).length).turn = G.turn := by
        unfold tStart
        split
        · rfl
        · have := I.tt
          omega
      have t2 : (tKeep (tStart T G.turn (P G.turn).length) G.turn k s).turn = G.turn := by
        unfold tKeep
        split <;> exact t1
      have k1 : ∀ i, i < k → i ∈ (tStart T G.turn (P G.turn).length).keys := fun i hi => by
        have z := hk (.inl (by omega))
        unfold tStart
        rw [if_neg (by omega)]
        exact z.2 i hi
      have k2 : ∀ i, i < k + 1 → i ∈ (tKeep (tStart T G.turn (P G.turn).length) G.turn k s).keys := fun i hi => by
        unfold tKeep
        split
        · show i ∈ ((tStart T G.turn (P G.turn).length).kept ++ [(k, s)]).map (·.1)
          rw [List.map_append]
          by_cases z : i = k
          · exact List.mem_append_right _ (by simp [z])
          · exact List.mem_append_left _ (k1 i (by omega))
        · rename_i h
          by_cases z : i = k
          · rw [z]
            by_cases w : k ∈ (tStart T G.turn (P G.turn).length).keys
            · exact w
            · exact absurd ⟨t1.symm, w⟩ h
          · exact k1 i (by omega)
      have e2 : (pieces G.turn (P G.turn).length k (s :: r)).foldl tRecv T = (pieces G.turn (P G.turn).length (k + 1) r).foldl tRecv (tKeep (tStart T G.turn (P G.turn).length) G.turn k s) := by
        rw [← e1]
        rfl
      rw [e2]
      refine ih (k + 1) _ I2 (fun j s' hj => ?_) (fun _ => ⟨t2, k2⟩) (by simp at hl; omega) (.inl t2)
      have := hp (j + 1) s' (by simpa using hj)
      rw [show k + 1 + j = k + (j + 1) by omega]
      exact this
  have z := key (P G.turn) 0 T I (fun j s h => by rw [Nat.zero_add]; exact h) (fun h => ⟨h.resolve_left (Nat.lt_irrefl 0), fun i hi => absurd hi (Nat.not_lt_zero _)⟩) (by simp) (.inr (I.ne _))
  have e : gMsgs G = pieces G.turn (P G.turn).length 0 (P G.turn) := by
    unfold gMsgs
    rw [hf, g2]
  rw [e]
  obtain ⟨J, j1, j2⟩ := z
  refine ⟨?_, j1⟩
  unfold wholeB
  rw [j1, decide_eq_true (by omega), Bool.true_and]
  refine decide_eq_true ?_
  have J1 := J.tk (by rw [j1]; exact g1)
  rw [J1.1, j1]
  have nd : (List.range (P G.turn).length).Nodup := List.nodup_range
  have sub : ∀ i ∈ List.range (P G.turn).length, i ∈ ((pieces G.turn (P G.turn).length 0 (P G.turn)).foldl tRecv T).keys := fun i m => j2 i (List.mem_range.mp m)
  have := nodup_sub nd sub
  rw [List.length_range] at this
  have e2 : ((pieces G.turn (P G.turn).length 0 (P G.turn)).foldl tRecv T).keys.length = _ := List.length_map _
  omega
end
theorem foldT {P : Nat → List Str} {G : Gv} {L : List Msg} : ∀ {ms : List Msg} {T : Tk}, Iv P G T L → (∀ m ∈ ms, m ∈ L) → Iv P G (ms.foldl tRecv T) L
  | [], _, I, _ => I
  | m :: ms, T, I, h => foldT (ms := ms) (T := tRecv T m) (I.toT (h m List.mem_cons_self)) fun k hk => h k (List.mem_cons_of_mem _ hk)
theorem foldG {P : Nat → List Str} {T : Tk} {L : List Msg} : ∀ {ms : List Msg} {G : Gv}, Iv P G T L → (∀ m ∈ ms, m ∈ L) → Iv P (ms.foldl gRecv G) T L
  | [], _, I, _ => I
  | m :: ms, G, I, h => foldG (ms := ms) (G := gRecv G m) (I.toG (h m List.mem_cons_self)) fun k hk => h k (List.mem_cons_of_mem _ hk)
/-- one exchange of all messages -/
def swapG (G : Gv) (T : Tk) : Gv := (tMsgs ((gMsgs G).foldl tRecv T)).foldl gRecv G
def swapT (G : Gv) (T : Tk) : Tk := (gMsgs G).foldl tRecv T
section
variable {P : Nat → List Str} {G : Gv} {T : Tk} {L : List Msg}
theorem Iv.all (I : Iv P G T L) : Iv P G T (L ++ gMsgs G) := I.cat I.gm
theorem Iv.swap (I : Iv P G T L) : ∃ L', Iv P (swapG G T) (swapT G T) L' := by
  have I1 : Iv P G (swapT G T) (L ++ gMsgs G) := foldT (I.cat I.gm) fun m h => List.mem_append_right _ h
  exact ⟨_, foldG (I1.cat I1.tm) fun m h => List.mem_append_right _ h⟩
theorem swap_frozen (I : Iv P G T L) (h : G.ph = .frozen) : swapG G T = { G with ph := .given } := by
  obtain ⟨w, t⟩ := deliver I h
  have I1 : Iv P G (swapT G T) (L ++ gMsgs G) := foldT (I.cat I.gm) fun m h => List.mem_append_right _ h
  have run : (swapT G T).run = false := by
    cases z : (swapT G T).run with
    | false => rfl
    | true => have := I1.rn z; rw [h] at this; cases this
  unfold swapG tMsgs
  show (if (swapT G T).run = true then _ else if wholeB (swapT G T) = true then _ else _ : List Msg).foldl gRecv G = _
  have w' : wholeB (swapT G T) = true := w
  have t' : (swapT G T).turn = G.turn := t
  rw [if_neg (by rw [run]; decide), if_pos w']
  show gRecv G (.whole (swapT G T).turn) = _
  unfold gRecv
  dsimp only
  rw [if_pos ⟨t', h⟩]
theorem swap_given (I : Iv P G T L) (h : G.ph = .given) : swapG G T = (if G.known = true ∧ T.run = false then G else { G with known := true }) ∧ swapT G T = (if G.known = true then T else { T with run := true }) := by
  have gv := I.gv h
  have eT : swapT G T = (if G.known = true then T else { T with run := true }) := by
    unfold swapT gMsgs
    rw [h]
    dsimp only
    split
    · rfl
    · show tRecv T (.go G.turn) = _
      unfold tRecv
      split
      · rename_i hr
        cases T
        simp only at hr
        rw [hr]
      · show (if G.turn = T.turn ∧ wholeB T = true then { T with run := true } else T) = _
        rw [if_pos ⟨gv.1.symm, gv.2⟩]
  refine ⟨?_, eT⟩
  show (tMsgs (swapT G T)).foldl gRecv G = _
  rw [eT]
  by_cases hk : G.known = true
  · rw [if_pos hk]
    by_cases hr : T.run = true
    · rw [if_neg (fun z => by rw [hr] at z; cases z.2)]
      unfold tMsgs
      rw [if_pos hr]
      show gRecv G (.going T.turn) = _
      unfold gRecv
      dsimp only
      rw [if_pos ⟨gv.1, h⟩]
    · have hr : T.run = false := by simpa using hr
      rw [if_pos ⟨hk, hr⟩]
      unfold tMsgs
      rw [if_neg (by rw [hr]; decide), if_pos gv.2]
      show gRecv G (.whole T.turn) = _
      unfold gRecv
      dsimp only
      rw [if_neg (fun z => by rw [h] at z; cases z.2)]
  · rw [if_neg hk, if_neg (fun z => hk z.1)]
    show (tMsgs { T with run := true }).foldl gRecv G = _
    unfold tMsgs
    rw [if_pos rfl]
    show gRecv G (.going T.turn) = _
    unfold gRecv
    dsimp only
    rw [if_pos ⟨gv.1, h⟩]
/-- what three exchanges come to -/
def Good (j : Nat) (G : Gv) : Prop := G.ph ≠ .runs ∧ (1 ≤ j → G.ph = .given) ∧ (2 ≤ j → G.known = true)
theorem good_step {j : Nat} (I : Iv P G T L) (h : Good j G) : Good (j + 1) (swapG G T) ∧ (swapG G T).pcs = G.pcs := by
  cases z : G.ph with
  | runs => exact absurd z h.1
  | frozen =>
    have e := swap_frozen I z
    rw [e]
    have j0 : j = 0 := by
      by_cases w : 1 ≤ j
      · have := h.2.1 w; rw [z] at this; cases this
      · omega
    exact ⟨⟨(fun w => by cases w), fun _ => rfl, fun w => absurd w (by omega)⟩, rfl⟩
  | given =>
    obtain ⟨e, _⟩ := swap_given I z
    rw [e]
    have nk : ¬(G.known = true ∧ T.run = false) := fun w => by
      have := I.kn w.1
      rw [w.2] at this
      cases this
    rw [if_neg nk]
    exact ⟨⟨(fun w => by rw [z] at w; cases w), fun _ => z, fun _ => rfl⟩, rfl⟩
end
end KM
set_option Elab.async false
set_option linter.all false
set_option maxRecDepth 100000
set_option maxHeartbeats 4000000
namespace KM
open PySem PySem.Spec PyProof.Rows L2 Evl KB
def Ph.w : Ph → Str
  | .runs => "runs"
  | .frozen => "frozen"
  | .given => "given"
structure GT (K : PySem.W.Frag) (C : Addr) : Prop where
  cls : Cls K C
  n1 : NoAttr K C "word"
  n2 : NoAttr K C "turn"
  n3 : NoAttr K C "pieces"
  n4 : NoAttr K C "known"
structure TT (K : PySem.W.Frag) (C : Addr) : Prop where
  cls : Cls K C
  n1 : NoAttr K C "turn"
  n2 : NoAttr K C "many"
  n3 : NoAttr K C "pieces"
  n4 : NoAttr K C "begun"
def gFs (G : Gv) (p : Addr) : List (Str × V) := [("word", .str G.ph.w), ("turn", .int (G.turn : Int)), ("pieces", .ref p), ("known", .bl G.known)]
structure GvAt (H : Hp) (C g p : Addr) (G : Gv) : Prop where
  is : ∃ dx, H g = some (.ins C dx (gFs G p)) ∧ H p = some (.lst (G.pcs.map V.str))
theorem GvAt.mono {H H' : Hp} {C g p : Addr} {G : Gv} (e : Ex H H') (h : GvAt H C g p G) : GvAt H' C g p G := by
  obtain ⟨dx, h1, h2⟩ := h.is
  exact ⟨⟨dx, e _ _ h1, e _ _ h2⟩⟩
def msgV : Msg → List V
  | .piece t i n s => [.str "piece", .int (t : Int), .int (i : Int), .int (n : Int), .str s]
  | .go t => [.str "go", .int (t : Int)]
  | .whole t => [.str "whole", .int (t : Int)]
  | .going t => [.str "going", .int (t : Int)]
/-- a message, a tuple or a list -/
def MsgAt (H : Hp) (v : V) (m : Msg) : Prop := ∃ a, v = .ref a ∧ (H a = some (.lst (msgV m)) ∨ H a = some (.tup (msgV m)))
theorem MsgAt.mono {H H' : Hp} {v : V} {m : Msg} (e : Ex H H') (h : MsgAt H v m) : MsgAt H' v m := by
  obtain ⟨a, rfl, h⟩ := h
  exact ⟨a, rfl, h.imp (e _ _) (e _ _)⟩
theorem ph_ne (a b : Ph) : decide (V.str a.w = V.str b.w) = decide (a = b) := by cases a <;> cases b <;> decide +kernel
theorem said_ph (a : Ph) : Said (.str a.w) := .inr ⟨_, rfl, by cases a <;> decide +kernel⟩
/-! ### NotNow -/
abbrev sNotNow : Stmt := inClass (topS 2) 0
theorem scNotNow : FnScope ["self", "word"] ["self", "word"] (defScope sNotNow) := ⟨rfl, rfl, rfl, by decide +kernel, rfl, by decide +kernel, by decide +kernel⟩
section
variable {P : Program} {w : World} {K : PySem.W.Frag} {mg : Str → Option Value} {base : Heap} {C fI f CN : Addr} {fd : FuncData}
theorem ok_NotNow (F : Fun K "__init__" "NotNow.__init__" sNotNow fI fd) (T : ExK K C fI mroR "RuntimeError.__new__") (hno : PySem.W.findIn K (.ref C) "word" = some none) (mB : mg "RuntimeError" = none)
    (fc : PySem.W.findCls K (.type "RuntimeError") (.type "type") "__init__" = some (.val (.builtin "RuntimeError.__init__"))) : FnOk P w K mg base CX0 1 fI fd ["self", "word"] (spInit C "word") := by
  refine F.ok scNotNow (fun vs H Q E h => ?_) (fun cdv A outer s H vs Q E hr h => ?_)
  · obtain ⟨a, y, rfl, _⟩ := h
    rfl
  · obtain ⟨a, y, rfl, ea, sy, q⟩ := h
    obtain ⟨m, hm, fm⟩ := said_fmt sy
    refine ⟨_, pss_cons (ps_expr (pe_xin PySem.F.excBase_RuntimeError T (by rfl) mB (by decide +kernel) ty_R (by decide +kernel) fc (pa_cons (pv 0) (pa_cons (pe_joined (PJ.cons pe_str (PJ.cons (pe_fmt (pv 1)) PJ.nil))) pa_nil))))
      (pss_one (ps_xst PySem.F.store_RuntimeError T hno (pv 0) (pv 1))), ?_⟩
    refine ⟨_, rfl, _, rfl, small_line (len_add sz0 (by decide +kernel : _ ≤ 100) (by decide : 0 + 100 ≤ 100000)), ?_⟩
    show tFmt (tVar 1) _ _ _
    refine fm _ 1 _ _ rfl ?_
    have l2 := len_add (k := 10000) (len_add (k := 100) (b := (("the giver is in the phase " : String) : Str)) sz0 (by decide +kernel : _ ≤ 100) (Nat.le_refl _)) hm (by decide)
    refine ⟨_, rfl, small_line (Nat.le_trans l2 (by decide)), ?_⟩
    refine ⟨a, _, rfl, (show 1 ≤ 1000 by decide), ea, ?_⟩
    exact ⟨_, rfl, _, rfl, a, rfl, ea, q⟩
/-! ### Giver -/
abbrev sGInit : Stmt := inClass (topS 5) 0
theorem scGInit : FnScope ["self"] ["self"] (defScope sGInit) := ⟨rfl, rfl, rfl, by decide +kernel, rfl, by decide +kernel, by decide +kernel⟩
abbrev sGPhase : Stmt := inClass (topS 5) 1
theorem scGPhase : FnScope ["self"] ["self"] (defScope sGPhase) := ⟨rfl, rfl, rfl, by decide +kernel, rfl, by decide +kernel, by decide +kernel⟩
abbrev sGFreeze : Stmt := inClass (topS 5) 2
theorem scGFreeze : FnScope ["self", "pieces"] ["self", "pieces"] (defScope sGFreeze) := ⟨rfl, rfl, rfl, by decide +kernel, rfl, by decide +kernel, by decide +kernel⟩
abbrev sGResume : Stmt := inClass (topS 5) 3
theorem scGResume : FnScope ["self"] ["self"] (defScope sGResume) := ⟨rfl, rfl, rfl, by decide +kernel, rfl, by decide +kernel, by decide +kernel⟩
abbrev sGRecv : Stmt := inClass (topS 5) 4
theorem scGRecv : FnScope ["self", "message"] ["self", "message"] (defScope sGRecv) := ⟨rfl, rfl, rfl, by decide +kernel, rfl, by decide +kernel, by decide +kernel⟩
abbrev sGMsgs : Stmt := inClass (topS 5) 5
abbrev nGMsgs : List Str := ["self", "many", "at", "text"]
theorem scGMsgs : FnScope nGMsgs ["self"] (defScope sGMsgs) := ⟨rfl, rfl, rfl, by decide +kernel, rfl, by decide +kernel, by decide +kernel⟩
def spGInit (C : Addr) : Sp := fun vs H Q _ => ∃ x dx, vs = [.ref x] ∧ H x = some (.ins C dx []) ∧ ∀ H' p, Xc [x] H H' → H p = none → GvAt H' C x p ⟨.runs, 0, [], false⟩ → Q .non H'
def spGPhase (C : Addr) : Sp := fun vs H Q _ => ∃ g p G, vs = [.ref g] ∧ GvAt H C g p G ∧ RetV (.str G.ph.w) H Q
def spGFreeze (C CN : Addr) : Sp := fun vs H Q E => ∃ g p l G ps, vs = [.ref g, .ref l] ∧ GvAt H C g p G ∧ H l = some (.lst (ps.map V.str)) ∧ ps.length ≤ 1000 ∧
  (G.ph = .runs → ∀ H' p', Xc [g] H H' → H p' = none → GvAt H' C g p' { G with ph := .frozen, turn := G.turn + 1, pcs := ps } → Q (.int ((G.turn + 1 : Nat) : Int)) H') ∧
  (G.ph ≠ .runs → ∀ d H', H d = none → Ex H H' → H' d = some (.xd [("word", .str G.ph.w)]) → E (.ref CN) (some d) H')
def spGResume (C CN : Addr) : Sp := fun vs H Q E => ∃ g p G, vs = [.ref g] ∧ GvAt H C g p G ∧
  (G.ph = .frozen → ∀ H', Xc [g] H H' → GvAt H' C g p { G with ph := .runs } → Q .non H') ∧
  (G.ph ≠ .frozen → ∀ d H', H d = none → Ex H H' → H' d = some (.xd [("word", .str G.ph.w)]) → E (.ref CN) (some d) H')
def spGRecv (C : Addr) : Sp := fun vs H Q _ => ∃ g p v G m, vs = [.ref g, v] ∧ GvAt H C g p G ∧ MsgAt H v m ∧ ∀ H', Xc [g] H H' → GvAt H' C g p (gRecv G m) → Q .non H'
theorem ok_GInit (F : Fun K "__init__" "Giver.__init__" sGInit f fd) (T : GT K C) : FnOk P w K mg base CX0 1 f fd ["self"] (spGInit C) := by
  refine F.ok scGInit (fun vs H Q E h => ?_) (fun cdv A outer s H vs Q E hr h => ?_)
  · obtain ⟨x, dx, rfl, _⟩ := h
    rfl
  · obtain ⟨x, dx, rfl, ex, q⟩ := h
    refine ⟨_, (pss_cons (ps_fld (pv 0) pe_str rfl)
      (pss_cons (ps_fld (pv 0) pe_int rfl)
      (pss_cons (ps_fld (pv 0) (pe_lst pa_nil) rfl)
      (pss_one (ps_fld (pv 0) pe_bl rfl))))), ?_⟩
    refine q_fld ev_c (ev_var rfl) ex T.cls T.n1 (by show 0 < 1000; omega) fun H1 e1 => ?_
    refine q_fld ev_c (ev_var rfl) upd_same T.cls T.n2 (by show 1 < 1000; omega) fun H2 e2 => ?_
    refine q_fldL (el_lst ea_nil (by show 0 ≤ 100000; omega)) (ev_var rfl) upd_same T.cls T.n3 (by show 2 < 1000; omega) fun p H3 np e3 gp => ?_
    refine s_fld ev_c (ev_var rfl) upd_same T.cls T.n4 (by show 3 < 1000; omega) fun H4 e4 => ?_
    have nx : p ≠ x := fun z => by rw [z, upd_same] at np; cases np
    have np0 : H p = none := by
      rw [upd_ne nx] at np
      have z := fresh_back e2 np
      rw [upd_ne nx] at z
      exact fresh_back e1 z
    refine q _ p (Xc.put (((Xc.of e1).put List.mem_cons_self).trans (((Xc.of e2).put List.mem_cons_self).trans (((Xc.of e3).put List.mem_cons_self).trans (Xc.of e4)))) List.mem_cons_self) np0 ⟨⟨dx, upd_same, ?_⟩⟩
    rw [upd_ne nx]
    exact e4 _ _ (by rw [upd_ne nx]; exact gp)
theorem gv_fld {ta : TE} {σ : L2.St} {H : Hp} {g dx p : Addr} {G : Gv} (T : GT K C) (ho : Ev ta σ H (.ref g)) (e : H g = some (.ins C dx (gFs G p))) :
    Ev (tFld K ta "word") σ H (.str G.ph.w) ∧ Ev (tFld K ta "turn") σ H (.int (G.turn : Int)) ∧ Ev (tFld K ta "pieces") σ H (.ref p) ∧ Ev (tFld K ta "known") σ H (.bl G.known) :=
  ⟨ev_fld ho e T.cls T.n1 rfl, ev_fld ho e T.cls T.n2 rfl, ev_fld ho e T.cls T.n3 rfl, ev_fld ho e T.cls T.n4 rfl⟩
theorem ok_GPhase (F : Fun K "phase" "Giver.phase" sGPhase f fd) (T : GT K C) : FnOk P w K mg base CX0 1 f fd ["self"] (spGPhase C) := by
  refine F.ok scGPhase (fun vs H Q E h => ?_) (fun cdv A outer s H vs Q E hr h => ?_)
  · obtain ⟨g, p, G, rfl, _⟩ := h
    rfl
  · obtain ⟨g, p, G, rfl, N, q⟩ := h
    obtain ⟨dx, h1, h2⟩ := N.is
    refine ⟨_, (pss_one (ps_ret (pe_fld (pv 0) rfl))), ?_⟩
    exact s_ret (gv_fld T (ev_var rfl) h1).1 q
theorem ok_GFreeze (F : Fun K "freeze" "Giver.freeze" sGFreeze f fd) (T : GT K C) (X_NotNow : Ke P w K mg base 2 CN "NotNow" (spInit CN "word")) (m_list : mg "list" = none) : FnOk P w K mg base (L2.CX P w) 3 f fd ["self", "pieces"] (spGFreeze C CN) := by
  refine F.okX scGFreeze (fun vs H Q E h => ?_) (fun cdv A outer s H vs Q E hr h => ?_)
  · obtain ⟨g, p, l, G, ps, rfl, _⟩ := h
    rfl
  · obtain ⟨g, p, l, G, ps, rfl, N, hl, hz, q, qe⟩ := h
    obtain ⟨dx, h1, h2⟩ := N.is
    refine ⟨_, (pss_cons (ps_if (pt_cmpR op_ne (pe_fld (pv 0) rfl) pe_str (nomark _)) (pss_one (ps_raise rfl (takes_of rfl rfl rfl rfl) (pmk_C X_NotNow (hr.mono (by decide)) (pa_cons (pe_fld (pv 0) rfl) pa_nil)))) pss_nil)
      (pss_cons (ps_fld (pv 0) pe_str rfl)
      (pss_cons (ps_fldaug (pv 0) pe_int in_add)
      (pss_cons (ps_fld (pv 0) (pe_callTy call_list_of (by rfl) m_list (by decide +kernel) (pa_cons (pv 1) pa_nil)) rfl)
      (pss_one (ps_ret (pe_fld (pv 0) rfl))))))), ?_⟩
    refine q_when (et_is (et_test (ev_op (gv_fld T (ev_var rfl) h1).1 ev_c (rv_ne rfl))) (congrArg not (ph_ne G.ph .runs))) (fun hb H1 e1 => ?_) (fun hb H1 e1 => ?_)
    · have hb' : G.ph ≠ .runs := fun z => by rw [z] at hb; cases hb
      exact s_raise ((gv_fld T (ev_var rfl) (e1 _ _ h1)).1) (said_ph _) fun d H2 nd e2 gd => qe hb' d H2 (fresh_back e1 nd) (e1.trans e2) gd
    · have hb' : G.ph = .runs := of_decide_eq_true (by simpa using hb)
      refine q_fld ev_c (ev_var rfl) (e1 _ _ h1) T.cls T.n1 (by show 4 < 1000; omega) fun H2 e2 => ?_
      refine ⟨_, rfl, g, C, dx, _, .int (G.turn : Int), rfl, upd_same, T.cls, T.n2, rfl, _, _, rfl, rfl, dx, _, upd_same, by show 4 < 1000; omega, ?_⟩
      have nl : l ≠ g := fun z => by rw [z, h1] at hl; cases hl
      refine q_fldL (xs := ps.map V.str) (el_list (K := K) (ev_var rfl) (sq_of (by rw [upd_ne nl, upd_ne nl]; exact e2 _ _ (e1 _ _ hl)))) (ev_var rfl) upd_same T.cls T.n3 (by show 4 < 1000; omega) fun p' H3 np e3 gp => ?_
      have nx : p' ≠ g := fun z => by rw [z, upd_same] at np; cases np
      refine s_ret (ev_fld (ev_var rfl) upd_same T.cls T.n2 rfl) fun H4 e4 => q hb' H4 p' ?_ ?_ ⟨⟨dx, e4 _ _ upd_same, e4 _ _ ?_⟩⟩
      · exact (Xc.of e1).trans (((Xc.of e2).put List.mem_cons_self).trans ((((Xc.refl [g] _).put List.mem_cons_self).trans ((Xc.of e3).put List.mem_cons_self)).trans (Xc.of e4)))
      · rw [upd_ne nx, upd_ne nx] at np
        exact fresh_back (e1.trans e2) np
      · rw [upd_ne nx]
        exact gp
theorem ok_GResume (F : Fun K "resume" "Giver.resume" sGResume f fd) (T : GT K C) (X_NotNow : Ke P w K mg base 2 CN "NotNow" (spInit CN "word")) : FnOk P w K mg base (L2.CX P w) 3 f fd ["self"] (spGResume C CN) := by
  refine F.okX scGResume (fun vs H Q E h => ?_) (fun cdv A outer s H vs Q E hr h => ?_)
  · obtain ⟨g, p, G, rfl, _⟩ := h
    rfl
  · obtain ⟨g, p, G, rfl, N, q, qe⟩ := h
    obtain ⟨dx, h1, h2⟩ := N.is
    refine ⟨_, (pss_cons (ps_if (pt_cmpR op_ne (pe_fld (pv 0) rfl) pe_str (nomark _)) (pss_one (ps_raise rfl (takes_of rfl rfl rfl rfl) (pmk_C X_NotNow (hr.mono (by decide)) (pa_cons (pe_fld (pv 0) rfl) pa_nil)))) pss_nil)
      (pss_one (ps_fld (pv 0) pe_str rfl))), ?_⟩
    refine q_when (et_is (et_test (ev_op (gv_fld T (ev_var rfl) h1).1 ev_c (rv_ne rfl))) (congrArg not (ph_ne G.ph .frozen))) (fun hb H1 e1 => ?_) (fun hb H1 e1 => ?_)
    · have hb' : G.ph ≠ .frozen := fun z => by rw [z] at hb; cases hb
      exact s_raise ((gv_fld T (ev_var rfl) (e1 _ _ h1)).1) (said_ph _) fun d H2 nd e2 gd => qe hb' d H2 (fresh_back e1 nd) (e1.trans e2) gd
    · have hb' : G.ph = .frozen := of_decide_eq_true (by simpa using hb)
      refine s_fld ev_c (ev_var rfl) (e1 _ _ h1) T.cls T.n1 (by show 4 < 1000; omega) fun H2 e2 => ?_
      have nx : p ≠ g := fun z => by rw [z, h1] at h2; cases h2
      refine q hb' _ ((Xc.of (e1.trans e2)).put List.mem_cons_self) ⟨⟨dx, upd_same, ?_⟩⟩
      rw [upd_ne nx]
      exact e2 _ _ (e1 _ _ h2)
end
end KM
set_option Elab.async false
set_option linter.all false
set_option maxRecDepth 100000
set_option maxHeartbeats 4000000
namespace L2
open PySem PySem.Spec PyProof.Rows
/-- a, b, .. = a tuple or a list -/
def gSq (K : PySem.W.Frag) (n : Nat) (t : TGs) : TG := fun v σ H Q => gTup K n t v σ H Q ∨ gLst K n t v σ H Q
theorem pg_sq {X : Cx} {pos : Pos} {es : List Expr} {k : Nat} {t : TGs} {n : Nat} (hc : X.calm = true) (h : PGs X es t)
    (hn : (assignEach es X.env).length = n := by rfl) (hst : (assignEach es X.env).findIdx? (·.1) = none := by rfl) : PG X (.Tuple es k pos) (gSq X.K n t) :=
  ⟨fun pins s σ H v u Q I r hw => hw.elim ((pg_tup hc h hn hst).run pins s σ H v u Q I r) ((pg_lst hc h hn hst).run pins s σ H v u Q I r)⟩
end L2
namespace KM
open PySem PySem.Spec PyProof.Rows L2 Evl KB
def Msg.k : Msg → Str
  | .piece _ _ _ _ => "piece"
  | .go _ => "go"
  | .whole _ => "whole"
  | .going _ => "going"
def Msg.t : Msg → Nat
  | .piece t _ _ _ => t
  | .go t => t
  | .whole t => t
  | .going t => t
def msgD : Msg → PyData
  | .piece t i n s => .tuple [.str "piece", .int (t : Int), .int (i : Int), .int (n : Int), .str s]
  | .go t => .tuple [.str "go", .int (t : Int)]
  | .whole t => .tuple [.str "whole", .int (t : Int)]
  | .going t => .tuple [.str "going", .int (t : Int)]
theorem msg0 (m : Msg) : (msgV m)[0]? = some (.str m.k) := by cases m <;> rfl
theorem msg1 (m : Msg) : (msgV m)[1]? = some (.int (m.t : Int)) := by cases m <;> rfl
theorem gRecv_eq (G : Gv) (m : Msg) : gRecv G m = (if (decide (V.str m.k = V.str "whole") && (decide (V.int (m.t : Int) = V.int (G.turn : Int)) && decide (V.str G.ph.w = V.str "frozen"))) = true then { G with ph := .given }
    else if (decide (V.str m.k = V.str "going") && (decide (V.int (m.t : Int) = V.int (G.turn : Int)) && decide (V.str G.ph.w = V.str "given"))) = true then { G with known := true } else G) := by
  have e1 := ph_ne G.ph .frozen
  have e2 := ph_ne G.ph .given
  rw [show decide (V.str G.ph.w = V.str "frozen") = _ from e1, show decide (V.str G.ph.w = V.str "given") = _ from e2]
  have n : decide (V.int (m.t : Int) = V.int (G.turn : Int)) = decide (m.t = G.turn) := by
    rw [decide_eq_decide]
    constructor
    · intro h; injection h with h; omega
    · intro h; rw [h]
  rw [n]
  have b1 : ¬ (Str.ofString "piece" = Str.ofString "whole") := by decide +kernel
  have b2 : ¬ (Str.ofString "piece" = Str.ofString "going") := by decide +kernel
  have b3 : ¬ (Str.ofString "go" = Str.ofString "whole") := by decide +kernel
  have b4 : ¬ (Str.ofString "go" = Str.ofString "going") := by decide +kernel
  have b5 : ¬ (Str.ofString "whole" = Str.ofString "going") := by decide +kernel
  have b6 : ¬ (Str.ofString "going" = Str.ofString "whole") := by decide +kernel
  cases m with
  | piece t i n s => simp [Msg.k, Msg.t, gRecv, b1, b2]
  | go t => simp [Msg.k, Msg.t, gRecv, b3, b4]
  | whole t => by_cases h : t = G.turn <;> simp [Msg.k, Msg.t, gRecv, b5, h]
  | going t => by_cases h : t = G.turn <;> simp [Msg.k, Msg.t, gRecv, b6, h]
theorem pieces_data (t n : Nat) : ∀ (ps : List Str) (k : Nat), (pieces t n k ps).map msgD = (List.range ps.length).map fun i => msgD (.piece t (k + i) n (ps.getD i ""))
  | [], _ => rfl
  | s :: r, k => by
    show msgD (.piece t k n s) :: (pieces t n (k + 1) r).map msgD = _
    rw [pieces_data t n r (k + 1), List.length_cons, List.range_succ_eq_map, List.map_cons, List.map_map]
    congr 1
    refine List.map_congr_left fun i _ => ?_
    show msgD (.piece t (k + 1 + i) n (r.getD i "")) = msgD (.piece t (k + (i + 1)) n ((s :: r).getD (i + 1) ""))
    rw [show k + 1 + i = k + (i + 1) by omega, List.getD_cons_succ]
section
variable {P : Program} {w : World} {K : PySem.W.Frag} {mg : Str → Option Value} {base : Heap} {C fI f CN : Addr} {fd : FuncData}
theorem msg_ev {σ : L2.St} {H : Hp} {v : V} {m : Msg} {ta : TE} (ho : Ev ta σ H v) (h : MsgAt H v m) : Ev (tOp (rIx K) ta (tC (.int 0))) σ H (.str m.k) ∧ Ev (tOp (rIx K) ta (tC (.int 1))) σ H (.int (m.t : Int)) := by
  obtain ⟨a, rfl, h⟩ := h
  exact ⟨ev_op ho ev_c (rv_ixq (i := 0) h (msg0 m)), ev_op ho ev_c (rv_ixq (i := 1) h (msg1 m))⟩
theorem ok_GRecv (F : Fun K "receive" "Giver.receive" sGRecv f fd) (T : GT K C) : FnOk P w K mg base CX0 1 f fd ["self", "message"] (spGRecv C) := by
  refine F.ok scGRecv (fun vs H Q E h => ?_) (fun cdv A outer s H vs Q E hr h => ?_)
  · obtain ⟨g, p, v, G, m, rfl, _⟩ := h
    rfl
  · obtain ⟨g, p, v, G, m, rfl, N, hm, q⟩ := h
    obtain ⟨dx, h1, h2⟩ := N.is
    refine ⟨_, (pss_one (ps_if (PW.pt (pw_and (pt_cmpR op_eq (pe_ix ix_seq (pv 1) pe_int (fun _ _ => rfl)) pe_str (nomark _)) (pw_and (pt_cmpR op_eq (pe_ix ix_seq (pv 1) pe_int (fun _ _ => rfl)) (pe_fld (pv 0) rfl) (nomark _)) (pw_and1 (pt_cmpR op_eq (pe_fld (pv 0) rfl) pe_str (nomark _)))))) (pss_one (ps_fld (pv 0) pe_str rfl)) (pss_one (ps_if (PW.pt (pw_and (pt_cmpR op_eq (pe_ix ix_seq (pv 1) pe_int (fun _ _ => rfl)) pe_str (nomark _)) (pw_and (pt_cmpR op_eq (pe_ix ix_seq (pv 1) pe_int (fun _ _ => rfl)) (pe_fld (pv 0) rfl) (nomark _)) (pw_and1 (pt_cmpR op_eq (pe_fld (pv 0) rfl) pe_str (nomark _)))))) (pss_one (ps_fld (pv 0) pe_bl rfl)) pss_nil)))), ?_⟩
    have tst := fun (H1 : Hp) (e1 : Ex H H1) (a b : Str) =>
      (et_and (et_test (ev_op (msg_ev (K := K) (ev_var (i := 1) (σ := [some (.ref g), some v]) rfl) (hm.mono e1)).1 (ev_c (v := .str a)) (rv_eq rfl))) fun _ => et_and (et_test (ev_op (msg_ev (K := K) (ev_var (i := 1) (σ := [some (.ref g), some v]) rfl) (hm.mono e1)).2 (gv_fld T (ev_var (i := 0) rfl) (e1 _ _ h1)).2.1 (rv_eq rfl))) fun _ => et_test (ev_op (gv_fld T (ev_var (i := 0) rfl) (e1 _ _ h1)).1 (ev_c (v := .str b)) (rv_eq rfl)))
    have nx : p ≠ g := fun z => by rw [z, h1] at h2; cases h2
    have eq := gRecv_eq G m
    refine s_if (tst H (Ex.refl H) "whole" "frozen") (fun hb H1 e1 => ?_) (fun hb H1 e1 => ?_)
    · rw [if_pos hb] at eq
      refine s_fld ev_c (ev_var rfl) (e1 _ _ h1) T.cls T.n1 (by show 4 < 1000; omega) fun H2 e2 => ?_
      refine q _ ((Xc.of (e1.trans e2)).put List.mem_cons_self) ⟨⟨dx, ?_, ?_⟩⟩
      · rw [eq]; exact upd_same
      · rw [upd_ne nx, eq]; exact e2 _ _ (e1 _ _ h2)
    · rw [if_neg (by rw [hb]; decide)] at eq
      refine s_if (tst H1 e1 "going" "given") (fun hb2 H2 e2 => ?_) (fun hb2 H2 e2 => ?_)
      · rw [if_pos hb2] at eq
        refine s_fld ev_c (ev_var rfl) (e2 _ _ (e1 _ _ h1)) T.cls T.n4 (by show 4 < 1000; omega) fun H3 e3 => ?_
        refine q _ ((Xc.of ((e1.trans e2).trans e3)).put List.mem_cons_self) ⟨⟨dx, ?_, ?_⟩⟩
        · rw [eq]; exact upd_same
        · rw [upd_ne nx, eq]; exact e3 _ _ (e2 _ _ (e1 _ _ h2))
      · rw [if_neg (by rw [hb2]; decide)] at eq
        refine q _ (Xc.of (e1.trans e2)) ?_
        rw [eq]
        exact N.mono (e1.trans e2)
def RetMs (ms : List Msg) (H : Hp) (Q : VK) : Prop := RetD (.list (ms.map msgD)) H Q
def RetNs (ms : List Msg) (H : Hp) (Q : VK) : Prop := ∀ a H2, H a = none → Ex H H2 → Dx H2 (.ref a) (.list (ms.map msgD)) → Q (.ref a) H2
def spGMs (C : Addr) : Sp := fun vs H Q _ => ∃ g p G, vs = [.ref g] ∧ GvAt H C g p G ∧ G.pcs.length ≤ 1000 ∧ RetNs (gMsgs G) H Q
theorem ok_GMsgs (F : Fun K "messages" "Giver.messages" sGMsgs f fd) (T : GT K C) (m_enumerate : mg "enumerate" = none) (m_len : mg "len" = none) : FnOk P w K mg base CX0 1 f fd ["self"] (spGMs C) := by
  refine F.ok scGMsgs (fun vs H Q E h => ?_) (fun cdv A outer s H vs Q E hr h => ?_)
  · obtain ⟨g, p, G, rfl, _⟩ := h
    rfl
  · obtain ⟨g, p, G, rfl, N, hz, q⟩ := h
    obtain ⟨dx, h1, h2⟩ := N.is
    have nd := scGMsgs.nd
    refine ⟨_, (pss_cons (ps_if (pt_cmpR op_eq (pe_fld (pv 0) rfl) pe_str (nomark _)) (pss_cons (ps_set (i := 1) nd rfl (by first | exact .inl rfl | exact .inr rfl) (pe_callB call_len_seq (by rfl) m_len (by decide +kernel) (pa_cons (pe_fld (pv 0) rfl) pa_nil)))
      (pss_one (ps_ret (pe_lc (own := [("at", 2), ("text", 3)]) (g := gTup _ 2 (gCons (gName 2) (gCons (gName 3) gNil))) (tt := tYes) (te := tTup (tCons (tC (.str "piece")) (tCons (tFld K (tVar 0) "turn") (tCons (tVar 2) (tCons (tVar 1) (tCons (tVar 3) tNil)))))) rfl nd (pi_enum (by rfl) m_enumerate (pa_cons (pe_fld (pv 0) rfl) pa_nil)) (blkOk_by (N := nGMsgs) (sc := defScope sGMsgs) (by decide +kernel)) (fun _ _ _ _ _ => (pg_tup (by rfl) (pgs_cons (pg_name (i := 2) nd rfl (.inl rfl)) (pgs_cons (pg_name (i := 3) nd rfl (.inl rfl)) pgs_nil)))) (fun _ _ _ _ _ => pts_nil) (fun _ _ _ _ _ => (pe_tup (pa_cons pe_str (pa_cons (pe_fld (pv 0) rfl) (pa_cons (pv 2) (pa_cons (pv 1) (pa_cons (pv 3) pa_nil))))))))))) pss_nil)
      (pss_cons (ps_if (PW.pt (pw_and (pt_cmpR op_eq (pe_fld (pv 0) rfl) pe_str (nomark _)) (pw_and1 (pt_not (pt_val (pe_fld (pv 0) rfl)))))) (pss_one (ps_ret (pe_lst (pa_cons (pe_tup (pa_cons pe_str (pa_cons (pe_fld (pv 0) rfl) pa_nil))) pa_nil)))) pss_nil)
      (pss_one (ps_ret (pe_lst pa_nil))))), ?_⟩
    have e1 := ph_ne G.ph .frozen
    have e2 := ph_ne G.ph .given
    refine q_when (et_is (et_test (ev_op (gv_fld T (ev_var rfl) h1).1 ev_c (rv_eq rfl))) e1) (fun hb H1 x1 => ?_) (fun hb H1 x1 => ?_)
    · have hb' : G.ph = .frozen := of_decide_eq_true hb
      refine q_asg (ev_len (K := K) (gv_fld T (ev_var rfl) (x1 _ _ h1)).2.2.1 (sq_of (x1 _ _ h2))) fun H2 x2 => ?_
      refine s_retN (en_lcE (K := K) (fun i => msgD (.piece G.turn i G.pcs.length (G.pcs.getD i ""))) (gv_fld T (ev_var rfl) (x2 _ _ (x1 _ _ h1))).2.2.1 (sq_of (x2 _ _ (x1 _ _ h2))) (by rw [List.length_map]; omega) (fun _ _ => rfl) (fun i b hi H3 x3 => ?_)) fun v H3 nv x3 dv => q v H3 (fresh_back (x1.trans x2) nv) (x1.trans (x2.trans x3)) ?_
      · rw [List.getElem?_map] at hi
        obtain ⟨z, hz2, rfl⟩ := Option.map_eq_some_iff.mp hi
        have ez : G.pcs.getD i "" = z := by rw [List.getD_eq_getElem?_getD, hz2]; rfl
        rw [ez]
        refine em_tup (ea_cons ev_c (ea_cons (gv_fld T (ev_var rfl) (x3 _ _ (x2 _ _ (x1 _ _ h1)))).2.1 (ea_cons (ev_var rfl) (ea_cons (ev_var rfl) (ea_cons (ev_var rfl) ea_nil))))) ?_ (by show 5 ≤ 100000; omega)
        rw [List.length_map]
        exact .cons (.str _) (.cons (.int _) (.cons (.int _) (.cons (.int _) (.cons (.str _) .nil))))
      · have : (gMsgs G).map msgD = (List.range (G.pcs.map V.str).length).map fun i => msgD (.piece G.turn i G.pcs.length (G.pcs.getD i "")) := by
          unfold gMsgs
          rw [hb', List.length_map, pieces_data]
          simp only [Nat.zero_add]
        rw [this]
        exact dv
    · refine q_when (et_and (et_is (et_test (ev_op (gv_fld T (ev_var rfl) (x1 _ _ h1)).1 ev_c (rv_eq rfl))) e2) fun _ => et_not (et_test (gv_fld T (ev_var rfl) (x1 _ _ h1)).2.2.2)) (fun hb2 H2 x2 => ?_) (fun hb2 H2 x2 => ?_)
      · rw [Bool.and_eq_true] at hb2
        have g1 : G.ph = .given := of_decide_eq_true hb2.1
        have g2 : G.known = false := by simpa using hb2.2
        have : (gMsgs G).map msgD = [msgD (.go G.turn)] := by unfold gMsgs; rw [g1]; dsimp only; rw [if_neg (by rw [g2]; decide)]; rfl
        refine s_retN (en_lstA (xa_cons (ex_tupA (xa_cons (ev_x ev_c (.str _)) (xa_cons (ev_x (gv_fld T (ev_var rfl) (x2 _ _ (x1 _ _ h1))).2.1 (.int _)) xa_nil)) (by show 2 ≤ 100000; omega)) xa_nil) (by show 1 ≤ 100000; omega)) fun v H3 nv x3 dv => q v H3 (fresh_back (x1.trans x2) nv) (x1.trans (x2.trans x3)) ?_
        rw [this]
        exact dv
      · have : (gMsgs G).map msgD = [] := by
          unfold gMsgs
          have hb' : G.ph ≠ .frozen := fun z => by rw [z] at hb; cases hb
          cases z : G.ph with
          | runs => rfl
          | frozen => exact absurd z hb'
          | given =>
            rw [z] at hb2
            have : G.known = true := by simpa using hb2
            dsimp only
            rw [if_pos this]
            rfl
        refine s_retN (en_lstA xa_nil (by show 0 ≤ 100000; omega)) fun v H3 nv x3 dv => q v H3 (fresh_back (x1.trans x2) nv) (x1.trans (x2.trans x3)) ?_
        rw [this]
        exact dv
end
end KM
set_option Elab.async false
set_option linter.all false
set_option maxRecDepth 100000
set_option maxHeartbeats 4000000
namespace KM
open PySem PySem.Spec PyProof.Rows L2 Evl KB
/-! ### pieces by their places -/
def kvK (l : List (Nat × Str)) : List (Key × V) := l.map fun x => (Sum.inl (x.1 : Int), .str x.2)
theorem kv_val (i : Nat) : ∀ l : List (Nat × Str), valV (kvK l) (Sum.inl (i : Int)) = (find l i).map V.str
  | [] => rfl
  | x :: r => by
    have ih := kv_val i r
    unfold find at ih ⊢
    show valV ((Sum.inl (x.1 : Int), V.str x.2) :: kvK r) _ = _
    rw [List.find?_cons]
    by_cases e : x.1 = i
    · rw [valV_pos (by show Sum.inl _ = Sum.inl _; rw [e]), decide_eq_true e]
      rfl
    · rw [valV_neg (fun z => e (by have z' : (Sum.inl (x.1 : Int) : Key) = Sum.inl (i : Int) := z; injection z' with z'; omega)), decide_eq_false e]
      exact ih
theorem find_none {l : List (Nat × Str)} {i : Nat} : (find l i).isSome = decide (i ∈ l.map (·.1)) := by
  by_cases h : i ∈ l.map (·.1)
  · obtain ⟨s, e, _⟩ := find_in h
    rw [e, decide_eq_true h]
    rfl
  · rw [decide_eq_false h]
    cases z : find l i with
    | none => rfl
    | some s =>
      unfold find at z
      obtain ⟨x, e1, e2⟩ := Option.map_eq_some_iff.mp z
      have e3 : x.1 = i := of_decide_eq_true (List.find?_some (p := fun y : Nat × Str => decide (y.1 = i)) e1)
      exact absurd (List.mem_map.mpr ⟨x, List.mem_of_find?_eq_some e1, e3⟩) h
theorem kv_some (i : Nat) (l : List (Nat × Str)) : (valV (kvK l) (Sum.inl (i : Int))).isSome = decide (i ∈ l.map (·.1)) := by
  rw [kv_val, Option.isSome_map, find_none]
theorem kv_put {i : Nat} {s : Str} {l : List (Nat × Str)} (h : i ∉ l.map (·.1)) : putK (kvK l) (Sum.inl (i : Int)) (.str s) = kvK (l ++ [(i, s)]) := by
  have e : valV (kvK l) (Sum.inl (i : Int)) = none := by
    have := kv_some i l
    rw [decide_eq_false h] at this
    cases z : valV (kvK l) (Sum.inl (i : Int)) with
    | none => rfl
    | some v => rw [z] at this; cases this
  rw [putK_new _ e]
  unfold kvK
  rw [List.map_append]
  rfl
theorem kv_keys (l : List (Nat × Str)) : (kvK l).map (·.1) = ((l.map (·.1)).map Int.ofNat).map Sum.inl := by
  unfold kvK
  rw [List.map_map, List.map_map, List.map_map]
  rfl
theorem kv_len (l : List (Nat × Str)) : (kvK l).length = l.length := List.length_map _
/-- the pieces in order -/
def inOrder (l : List (Nat × Str)) : List Str := (asc ((l.map (·.1)).map Int.ofNat)).map fun i => (find l i.toNat).getD ""
def tTurn (T : Tk) : V := if T.turn = 0 then .non else .int (T.turn : Int)
def tFs (T : Tk) (d : Addr) : List (Str × V) := [("turn", tTurn T), ("many", .int (T.many : Int)), ("pieces", .ref d), ("begun", .bl T.run)]
structure TkAt (H : Hp) (C t d : Addr) (T : Tk) : Prop where
  is : ∃ dx, H t = some (.ins C dx (tFs T d))
  pcs : H d = some (.dK (kvK T.kept))
theorem TkAt.mono {H H' : Hp} {C t d : Addr} {T : Tk} (e : Ex H H') (h : TkAt H C t d T) : TkAt H' C t d T := by
  obtain ⟨dx, h1⟩ := h.is
  exact ⟨⟨dx, e _ _ h1⟩, e _ _ h.pcs⟩
abbrev sTInit : Stmt := inClass (topS 6) 0
theorem scTInit : FnScope ["self"] ["self"] (defScope sTInit) := ⟨rfl, rfl, rfl, by decide +kernel, rfl, by decide +kernel, by decide +kernel⟩
abbrev sTRecv : Stmt := inClass (topS 6) 1
theorem scTRecv : FnScope ["self", "message"] ["self", "message"] (defScope sTRecv) := ⟨rfl, rfl, rfl, by decide +kernel, rfl, by decide +kernel, by decide +kernel⟩
abbrev sTMsgs : Stmt := inClass (topS 6) 2
theorem scTMsgs : FnScope ["self"] ["self"] (defScope sTMsgs) := ⟨rfl, rfl, rfl, by decide +kernel, rfl, by decide +kernel, by decide +kernel⟩
abbrev sTRun : Stmt := inClass (topS 6) 3
abbrev nTRun : List Str := ["self", "at"]
theorem scTRun : FnScope nTRun ["self"] (defScope sTRun) := ⟨rfl, rfl, rfl, by decide +kernel, rfl, by decide +kernel, by decide +kernel⟩
abbrev sKeep : Stmt := topS 7
abbrev nKeep : List Str := ["taker", "message", "word", "turn", "index", "many", "text"]
theorem scKeep : FnScope nKeep ["taker", "message"] (defScope sKeep) := ⟨rfl, rfl, rfl, by decide +kernel, rfl, by decide +kernel, by decide +kernel⟩
abbrev sWhole : Stmt := topS 8
theorem scWhole : FnScope ["taker"] ["taker"] (defScope sWhole) := ⟨rfl, rfl, rfl, by decide +kernel, rfl, by decide +kernel, by decide +kernel⟩
def spTInit (C : Addr) : Sp := fun vs H Q _ => ∃ x dx, vs = [.ref x] ∧ H x = some (.ins C dx []) ∧ ∀ H' d, Xc [x] H H' → H d = none → TkAt H' C x d ⟨0, 0, [], false⟩ → Q .non H'
def spKeep (C : Addr) : Sp := fun vs H Q _ => ∃ t d v T tt i n s, vs = [.ref t, v] ∧ TkAt H C t d T ∧ MsgAt H v (.piece tt i n s) ∧ 1 ≤ tt ∧ T.kept.length < 1000 ∧ T.run = false ∧
  ∀ H' d', Xc [t, d] H H' → (d' = d ∨ H d' = none) → TkAt H' C t d' (tKeep (tStart T tt n) tt i s) → Q .non H'
def spWhole (C : Addr) : Sp := fun vs H Q _ => ∃ t d T, vs = [.ref t] ∧ TkAt H C t d T ∧ RetV (.bl (wholeB T)) H Q
def spTRecv (C : Addr) : Sp := fun vs H Q _ => ∃ t d v T m, vs = [.ref t, v] ∧ TkAt H C t d T ∧ MsgAt H v m ∧ 1 ≤ m.t ∧ T.kept.length < 1000 ∧
  ∀ H' d', Xc [t, d] H H' → (d' = d ∨ H d' = none) → TkAt H' C t d' (tRecv T m) → Q .non H'
def spTMs (C : Addr) : Sp := fun vs H Q _ => ∃ t d T, vs = [.ref t] ∧ TkAt H C t d T ∧ (T.run = true → T.turn ≠ 0) ∧ RetNs (tMsgs T) H Q
def KOk (l : List (Nat × Str)) : Prop := (l.map (·.1)).Nodup ∧ l.length < 64 ∧ ∀ x ∈ l, x.2.length ≤ 1000
def textV (T : Tk) : V := if T.run = true then .str (Txt.join "" (inOrder T.kept)) else .non
def spTRun (C : Addr) : Sp := fun vs H Q _ => ∃ t d T, vs = [.ref t] ∧ TkAt H C t d T ∧ KOk T.kept ∧ RetV (textV T) H Q
section
variable {P : Program} {w : World} {K : PySem.W.Frag} {mg : Str → Option Value} {base : Heap} {C fI f CN : Addr} {fd : FuncData}
theorem ev_dnin {tb ta : TE} {σ : L2.St} {H : Hp} {d : Addr} {kvs : List (Key × V)} {i : Int} (hk : Ev tb σ H (.int i)) (hd : Ev ta σ H (.ref d)) (e0 : H d = some (.dK kvs)) : Ev (tDNotIn tb ta) σ H (.bl (!(valV kvs (Sum.inl i)).isSome)) := fun H1 e Q q =>
  hk H1 e _ fun H2 e2 => hd H2 (e.trans e2) _ fun H3 e3 => ⟨d, _, rfl, DGet.k (k := Sum.inl i) (((e.trans e2).trans e3) _ _ e0), q H3 (e2.trans e3)⟩
theorem tk_fld {ta : TE} {σ : L2.St} {H : Hp} {t dx d : Addr} {T : Tk} (U : TT K C) (ho : Ev ta σ H (.ref t)) (e : H t = some (.ins C dx (tFs T d))) :
    Ev (tFld K ta "turn") σ H (tTurn T) ∧ Ev (tFld K ta "many") σ H (.int (T.many : Int)) ∧ Ev (tFld K ta "pieces") σ H (.ref d) ∧ Ev (tFld K ta "begun") σ H (.bl T.run) :=
  ⟨ev_fld ho e U.cls U.n1 rfl, ev_fld ho e U.cls U.n2 rfl, ev_fld ho e U.cls U.n3 rfl, ev_fld ho e U.cls U.n4 rfl⟩
theorem ok_TInit (F : Fun K "__init__" "Taker.__init__" sTInit f fd) (U : TT K C) : FnOk P w K mg base CX0 1 f fd ["self"] (spTInit C) := by
  refine F.ok scTInit (fun vs H Q E h => ?_) (fun cdv A outer s H vs Q E hr h => ?_)
  · obtain ⟨x, dx, rfl, _⟩ := h
    rfl
  · obtain ⟨x, dx, rfl, ex, q⟩ := h
    refine ⟨_, (pss_cons (ps_fld (pv 0) pe_non rfl)
      (pss_cons (ps_fld (pv 0) pe_int rfl)
      (pss_cons (ps_fld (pv 0) pe_dnewK rfl)
      (pss_one (ps_fld (pv 0) pe_bl rfl))))), ?_⟩
    refine q_fld ev_c (ev_var rfl) ex U.cls U.n1 (by show 0 < 1000; omega) fun H1 e1 => ?_
    refine q_fld ev_c (ev_var rfl) upd_same U.cls U.n2 (by show 1 < 1000; omega) fun H2 e2 => ?_
    refine fun d nd => ⟨_, rfl, x, C, dx, _, rfl, by rw [upd_ne (ne_of_none upd_same nd)]; exact upd_same, U.cls, U.n3, by show 2 < 1000; omega, ?_⟩
    refine s_fld ev_c (ev_var rfl) upd_same U.cls U.n4 (by show 3 < 1000; omega) fun H4 e4 => ?_
    have nx : d ≠ x := fun z => by rw [z, upd_same] at nd; cases nd
    rw [upd_ne nx] at nd
    have nd2 : H d = none := by
      have z := fresh_back e2 nd
      rw [upd_ne nx] at z
      exact fresh_back e1 z
    refine q _ d ?_ nd2 ⟨⟨dx, upd_same⟩, ?_⟩
    · intro a o na ha
      have ne : a ≠ x := fun z => na (by rw [z]; exact List.mem_cons_self)
      have nad : a ≠ d := ne_of_none ha nd2
      rw [upd_ne ne]
      refine e4 _ _ ?_
      rw [upd_ne ne, upd_ne nad, upd_ne ne]
      exact e2 _ _ (by rw [upd_ne ne]; exact e1 _ _ ha)
    · rw [upd_ne nx]
      refine e4 _ _ ?_
      rw [upd_ne nx]
      exact upd_same
theorem ok_Whole (F : Fun K "is_whole" "is_whole" sWhole f fd) (U : TT K C) (m_len : mg "len" = none) : FnOk P w K mg base CX0 1 f fd ["taker"] (spWhole C) := by
  refine F.ok scWhole (fun vs H Q E h => ?_) (fun cdv A outer s H vs Q E hr h => ?_)
  · obtain ⟨t, d, T, rfl, _⟩ := h
    rfl
  · obtain ⟨t, d, T, rfl, N, q⟩ := h
    obtain ⟨dx, h1⟩ := N.is
    refine ⟨_, (pss_one (ps_ret (pe_and (pe_cmp (pc_notN (pe_fld (pv 0) rfl)) rfl) (pe_one (pe_cmpR op_ge (pe_callB call_lenD (by rfl) m_len (by decide +kernel) (pa_cons (pe_fld (pv 0) rfl) pa_nil)) (pe_fld (pv 0) rfl) (nomark _)))))), ?_⟩
    refine s_ret (ev_is (ev_andV (ev_notN (tk_fld U (ev_var rfl) h1).1) fun _ => ev_op (ev_lenD (tk_fld U (ev_var rfl) h1).2.2.1 N.pcs) (tk_fld U (ev_var rfl) h1).2.1 rv_I0) (congrArg V.bl ?_)) q
    unfold wholeB tTurn
    rw [kv_len]
    by_cases z : T.turn = 0
    · rw [if_pos z, decide_eq_false (show ¬ 0 < T.turn by omega)]
      simp
    · rw [if_neg z, decide_eq_true (show 0 < T.turn by omega)]
      simp
theorem ok_Keep (F : Fun K "keep_piece" "keep_piece" sKeep f fd) (U : TT K C) : FnOk P w K mg base CX0 1 f fd ["taker", "message"] (spKeep C) := by
  refine F.ok scKeep (fun vs H Q E h => ?_) (fun cdv A outer s H vs Q E hr h => ?_)
  · obtain ⟨t, d, v, T, tt, i, n, s, rfl, _⟩ := h
    rfl
  · obtain ⟨t, d, v, T, tt, i, n, s, rfl, N, ⟨a, rfl, hm⟩, ht, hz, run, q⟩ := h
    obtain ⟨dx, h1⟩ := N.is
    have nd := scKeep.nd
    have hu := hu_of hr
    refine ⟨_, (pss_cons (ps_asg (pv 1) (pg_sq (by rfl) (pgs_cons (pg_name (i := 2) nd rfl (.inl rfl)) (pgs_cons (pg_name (i := 3) nd rfl (.inl rfl)) (pgs_cons (pg_name (i := 4) nd rfl (.inl rfl)) (pgs_cons (pg_name (i := 5) nd rfl (.inl rfl)) (pgs_cons (pg_name (i := 6) nd rfl (.inl rfl)) pgs_nil)))))))
      (pss_cut (ps_if (PW.pt (pw_or (pt_cmp (pc_isN (pe_fld (pv 0) rfl))) (pw_or1 (pt_cmpR op_gt (pv 3) (pe_fld (pv 0) rfl) (nomark _))))) (pss_cons (ps_fld (pv 0) (pv 3) rfl)
      (pss_cons (ps_fld (pv 0) (pv 5) rfl)
      (pss_one (ps_fld (pv 0) pe_dnewK rfl)))) pss_nil)
      (pss_one (ps_if (PW.pt (pw_and (pt_cmpR op_eq (pv 3) (pe_fld (pv 0) rfl) (nomark _)) (pw_and1 (pt_cmp (pc_dnotin hu (pv 4) (pe_fld (pv 0) rfl)))))) (pss_one (ps_dput hu (pe_fld (pv 0) rfl) (pv 4) (pv 6) rfl)) pss_nil)))), ?_⟩
    have go : ∀ X : L2.St → Hp → Prop, X [some (.ref t), some (.ref a), some (.str "piece"), some (.int (tt : Int)), some (.int (i : Int)), some (.int (n : Int)), some (.str s)] H → gSq K 5 (gCons (gName 2) (gCons (gName 3) (gCons (gName 4) (gCons (gName 5) (gCons (gName 6) gNil))))) (.ref a) [some (.ref t), some (.ref a), none, none, none, none, none] H X := fun X x => by
      rcases hm with hm | hm
      · exact .inr ⟨a, _, rfl, sq_of hm, rfl, _, _, rfl, _, _, rfl, _, _, rfl, _, _, rfl, _, _, rfl, rfl, x⟩
      · exact .inl ⟨a, _, rfl, st_of hm, rfl, _, _, rfl, _, _, rfl, _, _, rfl, _, _, rfl, _, _, rfl, rfl, x⟩
    refine ⟨_, rfl, go _ ?_⟩
    refine q_cut (M := fun σ G => σ = [some (.ref t), some (.ref a), some (.str "piece"), some (.int (tt : Int)), some (.int (i : Int)), some (.int (n : Int)), some (.str s)] ∧ ∃ d2, TkAt G C t d2 (tStart T tt n) ∧ Xc [t] H G ∧ (d2 = d ∨ H d2 = none)) ?_ ?_
    · -- a later try
      have tst : EvT (tOr (tB (tIsN (tFld K (tVar 0) "turn"))) (tTest (tOp (rI0 fun i j => .bl (decide (j < i))) (tVar 3) (tFld K (tVar 0) "turn")))) [some (.ref t), some (.ref a), some (.str "piece"), some (.int (tt : Int)), some (.int (i : Int)), some (.int (n : Int)), some (.str s)] H (decide (T.turn < tt)) := by
        have tu := (tk_fld U (ev_var (i := 0) (σ := [some (.ref t), some (.ref a), some (.str "piece"), some (.int (tt : Int)), some (.int (i : Int)), some (.int (n : Int)), some (.str s)]) rfl) h1).1
        unfold tTurn at tu
        by_cases z : T.turn = 0
        · rw [if_pos z] at tu
          exact et_is (et_or (b := true) (et_B (ev_isN tu)) fun h => by simp at h) (by simp; omega)
        · rw [if_neg z] at tu
          refine et_is (et_or (et_B (ev_isN tu)) fun _ => et_test (ev_op (ev_var rfl) tu rv_I0)) ?_
          simp
      refine s_when tst (fun hb H1 e1 => ?_) (fun hb H1 e1 => ?_)
      · have hlt := of_decide_eq_true hb
        refine q_fld (ev_var rfl) (ev_var rfl) (e1 _ _ h1) U.cls U.n1 (by show 4 < 1000; omega) fun H2 e2 => ?_
        refine q_fld (ev_var rfl) (ev_var rfl) upd_same U.cls U.n2 (by show 4 < 1000; omega) fun H3 e3 => ?_
        refine fun d2 nd2 => ⟨_, rfl, t, C, dx, _, rfl, by rw [upd_ne (ne_of_none upd_same nd2)]; exact upd_same, U.cls, U.n3, by show 4 < 1000; omega, rfl, d2, ?_, ?_, ?_⟩
        · have nx : d2 ≠ t := fun z => by rw [z, upd_same] at nd2; cases nd2
          refine ⟨⟨dx, ?_⟩, ?_⟩
          · rw [upd_same]
            unfold tStart
            rw [if_pos hlt]
            have e0 : tTurn ⟨tt, n, [], false⟩ = .int (tt : Int) := if_neg (by show ¬ tt = 0; omega)
            show some (HO.ins C dx [("turn", .int (tt : Int)), ("many", .int (n : Int)), ("pieces", .ref d2), ("begun", .bl T.run)]) = some (HO.ins C dx [("turn", tTurn ⟨tt, n, [], false⟩), ("many", .int (n : Int)), ("pieces", .ref d2), ("begun", .bl false)])
            rw [e0, run]
          · rw [upd_ne nx]
            unfold tStart
            rw [if_pos hlt]
            exact upd_same
        · have nx : d2 ≠ t := fun z => by rw [z, upd_same] at nd2; cases nd2
          rw [upd_ne nx] at nd2
          have z2 := fresh_back e3 nd2
          rw [upd_ne nx] at z2
          have z3 : H d2 = none := fresh_back (e1.trans e2) z2
          intro b o nb hb'
          have ne : b ≠ t := fun z => nb (by rw [z]; exact List.mem_cons_self)
          rw [upd_ne ne, upd_ne (ne_of_none hb' z3), upd_ne ne]
          exact e3 _ _ (by rw [upd_ne ne]; exact e2 _ _ (e1 _ _ hb'))
        · have nx : d2 ≠ t := fun z => by rw [z, upd_same] at nd2; cases nd2
          rw [upd_ne nx] at nd2
          have z2 := fresh_back e3 nd2
          rw [upd_ne nx] at z2
          exact .inr (fresh_back (e1.trans e2) z2)
      · have hlt := of_decide_eq_false hb
        refine ⟨rfl, d, ?_, Xc.of e1, .inl rfl⟩
        unfold tStart
        rw [if_neg hlt]
        exact N.mono e1
    · rintro σ G ⟨rfl, d2, N2, x2, hd2⟩
      obtain ⟨dx2, g1⟩ := N2.is
      have few : (tStart T tt n).kept.length < 1000 := by
        unfold tStart
        split
        · exact (by decide : 0 < 1000)
        · exact hz
      have eq : (decide (V.int (tt : Int) = tTurn (tStart T tt n)) && !(valV (kvK (tStart T tt n).kept) (Sum.inl (i : Int))).isSome) = decide (tt = (tStart T tt n).turn ∧ i ∉ (tStart T tt n).keys) := by
        rw [kv_some]
        unfold tTurn
        by_cases z : (tStart T tt n).turn = 0
        · rw [if_pos z]
          simp
          omega
        · rw [if_neg z]
          simp
          congr 1
          rw [decide_eq_decide]
          omega
      refine s_when (et_is (et_and (et_test (ev_op (ev_var rfl) (tk_fld U (ev_var rfl) g1).1 (rv_eq (by unfold tTurn; split <;> rfl)))) fun _ => et_B (ev_dnin (ev_var rfl) (tk_fld U (ev_var rfl) g1).2.2.1 N2.pcs)) eq) (fun hb H1 e1 => ?_) (fun hb H1 e1 => ?_)
      · have hb' := of_decide_eq_true hb
        refine s_dput (ky := Sum.inl (i : Int)) (by rw [kv_len]; omega) (ev_var rfl) (tk_fld U (ev_var rfl) (e1 _ _ g1)).2.2.1 (ev_var rfl) (e1 _ _ N2.pcs) fun H2 e2 => ?_
        rw [kv_put hb'.2]
        have nt : t ≠ d2 := fun z => by have := N2.pcs; rw [← z, g1] at this; cases this
        refine q _ d2 ?_ hd2 ⟨⟨dx2, ?_⟩, ?_⟩
        · intro b o nb hb3
          have nbt : b ≠ t := fun z => nb (by rw [z]; exact List.mem_cons_self)
          have nb2 : b ≠ d2 := fun z => by
            rcases hd2 with h | h
            · exact nb (by rw [z, h]; exact List.mem_cons_of_mem _ List.mem_cons_self)
            · rw [z, h] at hb3; cases hb3
          rw [upd_ne nb2]
          exact e2 _ _ (e1 _ _ (x2 _ _ (fun z => nbt (List.mem_singleton.mp z)) hb3))
        · rw [upd_ne nt]
          unfold tKeep
          rw [if_pos hb']
          exact e2 _ _ (e1 _ _ g1)
        · rw [upd_same]
          unfold tKeep
          rw [if_pos hb']
      · have hb' := of_decide_eq_false hb
        refine q _ d2 ?_ hd2 ?_
        · exact (x2.sub fun b m => by rw [List.mem_singleton.mp m]; exact List.mem_cons_self).trans (Xc.of e1)
        · unfold tKeep
          rw [if_neg hb']
          exact N2.mono e1
theorem ok_TRecv (F : Fun K "receive" "Taker.receive" sTRecv f fd) (U : TT K C) (G_keep_piece : Kf P w K mg base 1 "keep_piece" ["taker", "message"] (spKeep C)) (G_is_whole : Kf P w K mg base 1 "is_whole" ["taker"] (spWhole C)) : FnOk P w K mg base CX0 2 f fd ["self", "message"] (spTRecv C) := by
  refine F.ok scTRecv (fun vs H Q E h => ?_) (fun cdv A outer s H vs Q E hr h => ?_)
  · obtain ⟨t, d, v, T, m, rfl, _⟩ := h
    rfl
  · obtain ⟨t, d, v, T, m, rfl, N, hm, ht, hz, q⟩ := h
    obtain ⟨dx, h1⟩ := N.is
    refine ⟨_, (pss_cons (ps_if (pt_val (pe_fld (pv 0) rfl)) (pss_one ps_retN) pss_nil)
      (pss_one (ps_if (pt_cmpR op_eq (pe_ix ix_seq (pv 1) pe_int (fun _ _ => rfl)) pe_str (nomark _)) (pss_one (ps_expr (pe_fn G_keep_piece (hr.mono (by decide)) (pa_cons (pv 0) (pa_cons (pv 1) pa_nil))))) (pss_one (ps_if (PW.pt (pw_and (pt_cmpR op_eq (pe_ix ix_seq (pv 1) pe_int (fun _ _ => rfl)) pe_str (nomark _)) (pw_and (pt_cmpR op_eq (pe_ix ix_seq (pv 1) pe_int (fun _ _ => rfl)) (pe_fld (pv 0) rfl) (nomark _)) (pw_and1 (pt_val (pe_fn G_is_whole (hr.mono (by decide)) (pa_cons (pv 0) pa_nil))))))) (pss_one (ps_fld (pv 0) pe_bl rfl)) pss_nil))))), ?_⟩
    refine q_when (et_test (tk_fld U (ev_var rfl) h1).2.2.2) (fun hb H1 e1 => ?_) (fun hb H1 e1 => ?_)
    · refine q H1 d (Xc.of e1) (.inl rfl) ?_
      unfold tRecv
      rw [if_pos hb]
      exact N.mono e1
    · have run : ¬ T.run = true := by rw [hb]; decide
      have N1 := N.mono e1
      have hm1 := hm.mono e1
      refine s_if (et_test (ev_op (msg_ev (K := K) (ev_var rfl) hm1).1 ev_c (rv_eq rfl))) (fun hk H2 e2 => ?_) (fun hk H2 e2 => ?_)
      · have hk' := of_decide_eq_true hk
        cases m with
        | piece tt i n z =>
          refine ef_call (ea_cons (ev_var rfl) (ea_cons (ev_var rfl) ea_nil)) fun H3 e3 => ⟨t, d, v, T, tt, i, n, z, rfl, (N1.mono e2).mono e3, (hm1.mono e2).mono e3, ht, hz, hb, fun H' d' x hd N' => q H' d' ((Xc.of (e1.trans (e2.trans e3))).trans x) (hd.imp id fun z => fresh_back (e1.trans (e2.trans e3)) z) ?_⟩
          unfold tRecv
          rw [if_neg run]
          exact N'
        | go _ => exact absurd hk' (by show ¬ V.str (("go" : String) : Str) = V.str "piece"; decide +kernel)
        | whole _ => exact absurd hk' (by show ¬ V.str (("whole" : String) : Str) = V.str "piece"; decide +kernel)
        | going _ => exact absurd hk' (by show ¬ V.str (("going" : String) : Str) = V.str "piece"; decide +kernel)
      · have N2 := N1.mono e2
        have hm2 := hm1.mono e2
        have cW : SpV (spWhole C) ([.ref t] ++ []) H2 (.bl (wholeB T)) := fun H3 e3 Q q E => ⟨t, d, T, rfl, N2.mono e3, q⟩
        have g1 := e2 _ _ (e1 _ _ h1)
        refine s_when (et_and (et_test (ev_op (msg_ev (K := K) (ev_var rfl) hm2).1 ev_c (rv_eq rfl))) fun _ => et_and (et_test (ev_op (msg_ev (K := K) (ev_var rfl) hm2).2 (tk_fld U (ev_var rfl) g1).1 (rv_eq (by unfold tTurn; split <;> rfl)))) fun _ => et_test (ev_call (ea_cons (ev_var rfl) ea_nil) cW)) (fun hg H3 e3 => ?_) (fun hg H3 e3 => ?_)
        · rw [Bool.and_eq_true, Bool.and_eq_true] at hg
          obtain ⟨k1, k2, k3⟩ := hg
          have k1' := of_decide_eq_true k1
          have k2' := of_decide_eq_true k2
          cases m with
          | go tt =>
            have te : tt = T.turn := by
              unfold tTurn at k2'
              split at k2'
              · cases k2'
              · have k3 : V.int (tt : Int) = V.int (T.turn : Int) := k2'
                injection k3 with k3
                omega
            refine s_fld ev_c (ev_var rfl) (e3 _ _ g1) U.cls U.n4 (by show 4 < 1000; omega) fun H4 e4 => ?_
            have nd : d ≠ t := fun z => by have := N.pcs; rw [z, h1] at this; cases this
            refine q _ d ((Xc.of (e1.trans (e2.trans (e3.trans e4)))).put List.mem_cons_self) (.inl rfl) ?_
            unfold tRecv
            rw [if_neg run]
            show TkAt _ C t d (if tt = T.turn ∧ wholeB T = true then { T with run := true } else T)
            rw [if_pos ⟨te, k3⟩]
            exact ⟨⟨dx, upd_same⟩, by rw [upd_ne nd]; exact e4 _ _ (e3 _ _ N2.pcs)⟩
          | piece _ _ _ _ => exact absurd k1' (by show ¬ V.str (("piece" : String) : Str) = V.str "go"; decide +kernel)
          | whole _ => exact absurd k1' (by show ¬ V.str (("whole" : String) : Str) = V.str "go"; decide +kernel)
          | going _ => exact absurd k1' (by show ¬ V.str (("going" : String) : Str) = V.str "go"; decide +kernel)
        · refine q _ d (Xc.of (e1.trans (e2.trans e3))) (.inl rfl) ?_
          have same : tRecv T m = T := by
            unfold tRecv
            rw [if_neg run]
            cases m with
            | piece _ _ _ _ => exact absurd hk (by show ¬ decide (V.str (("piece" : String) : Str) = V.str "piece") = false; decide +kernel)
            | go tt =>
              show (if tt = T.turn ∧ wholeB T = true then { T with run := true } else T) = T
              rw [if_neg]
              rintro ⟨z1, z2⟩
              have tne : T.turn ≠ 0 := by
                have : 1 ≤ tt := ht
                omega
              have : (decide (V.str (Msg.go tt).k = V.str "go") && (decide (V.int ((Msg.go tt).t : Int) = tTurn T) && wholeB T)) = true := by
                rw [z2, Bool.and_true, Bool.and_eq_true]
                refine ⟨by show decide (V.str (("go" : String) : Str) = V.str "go") = true; decide +kernel, decide_eq_true ?_⟩
                unfold tTurn
                rw [if_neg tne, ← z1]
                rfl
              rw [this] at hg
              cases hg
            | whole _ => rfl
            | going _ => rfl
          rw [same]
          exact N2.mono e3
theorem ok_TMsgs (F : Fun K "messages" "Taker.messages" sTMsgs f fd) (U : TT K C) (G_is_whole : Kf P w K mg base 1 "is_whole" ["taker"] (spWhole C)) : FnOk P w K mg base CX0 2 f fd ["self"] (spTMs C) := by
  refine F.ok scTMsgs (fun vs H Q E h => ?_) (fun cdv A outer s H vs Q E hr h => ?_)
  · obtain ⟨t, d, T, rfl, _⟩ := h
    rfl
  · obtain ⟨t, d, T, rfl, N, ht, q⟩ := h
    obtain ⟨dx, h1⟩ := N.is
    refine ⟨_, (pss_cons (ps_if (pt_val (pe_fld (pv 0) rfl)) (pss_one (ps_ret (pe_lst (pa_cons (pe_tup (pa_cons pe_str (pa_cons (pe_fld (pv 0) rfl) pa_nil))) pa_nil)))) pss_nil)
      (pss_cons (ps_if (pt_val (pe_fn G_is_whole (hr.mono (by decide)) (pa_cons (pv 0) pa_nil))) (pss_one (ps_ret (pe_lst (pa_cons (pe_tup (pa_cons pe_str (pa_cons (pe_fld (pv 0) rfl) pa_nil))) pa_nil)))) pss_nil)
      (pss_one (ps_ret (pe_lst pa_nil))))), ?_⟩
    have one : ∀ (k : Str) (H1 : Hp) (e1 : Ex H H1), T.turn ≠ 0 → EvN (tLst (tCons (tTup (tCons (tC (.str k)) (tCons (tFld K (tVar 0) "turn") tNil))) tNil)) [some (.ref t)] H1 (.list [.tuple [.str k, .int (T.turn : Int)]]) := fun k H1 e1 tz => by
      have tu := (tk_fld U (ev_var (i := 0) (σ := [some (.ref t)]) rfl) (e1 _ _ h1)).1
      unfold tTurn at tu
      rw [if_neg tz] at tu
      exact en_lstA (xa_cons (ex_tupA (xa_cons (ev_x ev_c (.str _)) (xa_cons (ev_x tu (.int _)) xa_nil)) (by show 2 ≤ 100000; omega)) xa_nil) (by show 1 ≤ 100000; omega)
    refine q_when (et_test (tk_fld U (ev_var rfl) h1).2.2.2) (fun hb H1 e1 => ?_) (fun hb H1 e1 => ?_)
    · have e : (tMsgs T).map msgD = [msgD (.going T.turn)] := by unfold tMsgs; rw [if_pos hb]; rfl
      refine s_retN (one "going" H1 e1 (ht hb)) fun v H2 nv e2 dv => q v H2 (fresh_back e1 nv) (e1.trans e2) ?_
      rw [e]
      exact dv
    · have cW : SpV (spWhole C) ([.ref t] ++ []) H1 (.bl (wholeB T)) := fun H3 e3 Q q E => ⟨t, d, T, rfl, (N.mono e1).mono e3, q⟩
      refine q_when (et_test (ev_call (ea_cons (ev_var rfl) ea_nil) cW)) (fun hw H2 e2 => ?_) (fun hw H2 e2 => ?_)
      · have e : (tMsgs T).map msgD = [msgD (.whole T.turn)] := by unfold tMsgs; rw [if_neg (by rw [hb]; decide), if_pos hw]; rfl
        have tz : T.turn ≠ 0 := by
          unfold wholeB at hw
          rw [Bool.and_eq_true] at hw
          have := of_decide_eq_true hw.1
          omega
        refine s_retN (one "whole" H2 (e1.trans e2) tz) fun v H3 nv e3 dv => q v H3 (fresh_back (e1.trans e2) nv) (e1.trans (e2.trans e3)) ?_
        rw [e]
        exact dv
      · have e : (tMsgs T).map msgD = [] := by unfold tMsgs; rw [if_neg (by rw [hb]; decide), if_neg (by rw [hw]; decide)]; rfl
        refine s_retN (en_lstA xa_nil (by show 0 ≤ 100000; omega)) fun v H3 nv e3 dv => q v H3 (fresh_back (e1.trans e2) nv) (e1.trans (e2.trans e3)) ?_
        rw [e]
        exact dv
theorem sum_le {n : Nat} : ∀ (l : List Str), (∀ x ∈ l, x.length ≤ n) → (l.map (·.length)).sum ≤ l.length * n
  | [], _ => by simp
  | a :: l, h => by
    have h1 := h a List.mem_cons_self
    have h2 := sum_le l fun x m => h x (List.mem_cons_of_mem _ m)
    simp only [List.map_cons, List.sum_cons, List.length_cons, Nat.succ_mul]
    omega
theorem asc_len {l : List Int} (h : l.Nodup) : (asc l).length ≤ l.length := len_asc l
theorem ok_join {l : List (Nat × Str)} (h : KOk l) : ((inOrder l).map (·.length)).sum + (inOrder l).length * (("" : String) : Str).length ≤ 16777216 := by
  have h0 : (("" : String) : Str).length = 0 := by decide +kernel
  have h1 : (inOrder l).length ≤ 64 := by
    unfold inOrder
    rw [List.length_map]
    have := len_asc ((l.map (·.1)).map Int.ofNat)
    rw [List.length_map, List.length_map] at this
    have := h.2.1
    omega
  have h2 : ∀ x ∈ inOrder l, x.length ≤ 1000 := fun x m => by
    obtain ⟨i, mi, rfl⟩ := List.mem_map.mp m
    cases z : find l i.toNat with
    | none => decide +kernel
    | some s =>
      unfold find at z
      obtain ⟨y, e1, e2⟩ := Option.map_eq_some_iff.mp z
      rw [← e2]
      exact h.2.2 y (List.mem_of_find?_eq_some e1)
  have h3 := sum_le (inOrder l) h2
  rw [h0]
  have h4 : (inOrder l).length * 1000 ≤ 64 * 1000 := Nat.mul_le_mul_right _ h1
  omega
theorem nodup_int {l : List Nat} (h : l.Nodup) : (l.map Int.ofNat).Nodup := by
  refine List.Pairwise.map _ (fun a b hab z => hab ?_) h
  have z' : (a : Int) = (b : Int) := z
  omega
/-- the pieces of a dict in order: [d[i] for i in sorted(d)] -/
theorem ev_order {σ : L2.St} {H : Hp} {td : TE} {d : Addr} {l : List (Nat × Str)} {j : Nat} (hd : ∀ H1, Ex H H1 → Ev td (wipe σ [j]) H1 (.ref d)) (hd0 : Ev td σ H (.ref d)) (hx : ∀ x H1, Ex H H1 → Ev td ((wipe σ [j]).set j (some x)) H1 (.ref d)) (e0 : H d = some (.dK (kvK l))) (h : KOk l)
    (hw : ∀ x, wipe ((wipe σ [j]).set j (some x)) [j] = wipe σ [j]) (hj : ∀ x, ((wipe σ [j]).set j (some x))[j]? = some (some x)) :
    EvL (tLc (iList K (tCB rSrtD (tCons td tNil))) (gName j) tYes (tDGet td (tVar j)) [j]) σ H ((inOrder l).map V.str) := by
  have srt := el_srtD (ks := (l.map (·.1)).map Int.ofNat) hd0 (Or.inl e0) (kv_keys l) (nodup_int h.1) (by rw [List.length_map, List.length_map]; exact h.2.1)
  have lc := el_lcGN (K := K) (te := tDGet td (tVar j)) (t := tYes) (j := j) (vs := [j]) V.int (fun _ => true) (fun i => .str ((find l i.toNat).getD "")) srt (by have := len_asc ((l.map (·.1)).map Int.ofNat); rw [List.length_map, List.length_map] at this; have := h.2.1; omega) hw (fun b _ H1 _ => et_yes) (fun b mb _ H1 e1 => ?_)
  · rw [Evl.filter_all] at lc
    have e2 : (asc ((l.map (·.1)).map Int.ofNat)).map (fun i => V.str ((find l i.toNat).getD "")) = (inOrder l).map V.str := by
      unfold inOrder
      exact (List.map_map (l := asc ((l.map (·.1)).map Int.ofNat)) (g := V.str) (f := fun i => (find l i.toNat).getD "")).symm
    rw [e2] at lc
    exact lc
  · obtain ⟨n, mn, rfl⟩ := List.mem_map.mp (mem_asc.mp mb)
    obtain ⟨z, ez, _⟩ := find_in mn
    refine ev_dget (hx _ H1 e1) (ev_var (hj _)) (e1 _ _ e0) ?_
    show valV (kvK l) (Sum.inl ((n : Nat) : Int)) = _
    rw [kv_val, ez]
    show _ = some (V.str ((find l n).getD ""))
    rw [ez]
    rfl
theorem ev_join {σ : L2.St} {H : Hp} {ts te : TE} {l : List Str} (h1 : ∀ H1, Ex H H1 → Ev ts σ H1 (.str "")) (h2 : EvL te σ H (l.map V.str)) (hz : (l.map (·.length)).sum + l.length * (("" : String) : Str).length ≤ 16777216) :
    Ev (tM1 (fun x xs H Q => ∃ a p, ∃ ys : List Str, x = .str a ∧ xs = [.ref p] ∧ (SqL K H p (ys.map V.str) ∨ SqT K H p (ys.map V.str)) ∧ (ys.map (·.length)).sum + ys.length * a.length ≤ 16777216 ∧ Q (.str (Txt.join a ys)) H) ts te) σ H (.str (Txt.join "" l)) := fun H1 e Q q =>
  h1 H1 e H1 (Ex.refl H1) _ fun H2 e2 => ⟨⟨_, rfl⟩, h2 H2 (e.trans e2) _ fun p H3 np e3 gp => ⟨_, p, l, rfl, rfl, .inl (sq_of gp), hz, q H3 (e2.trans e3)⟩⟩
theorem ok_TRun (F : Fun K "running" "Taker.running" sTRun f fd) (U : TT K C) (m_sorted : mg "sorted" = none) : FnOk P w K mg base CX0 1 f fd ["self"] (spTRun C) := by
  refine F.ok scTRun (fun vs H Q E h => ?_) (fun cdv A outer s H vs Q E hr h => ?_)
  · obtain ⟨t, d, T, rfl, _⟩ := h
    rfl
  · obtain ⟨t, d, T, rfl, N, hk, q⟩ := h
    obtain ⟨dx, h1⟩ := N.is
    have nd := scTRun.nd
    have hu := hu_of hr
    refine ⟨_, (pss_cons (ps_if (pt_not (pt_val (pe_fld (pv 0) rfl))) (pss_one (ps_ret pe_non)) pss_nil)
      (pss_one (ps_ret (pe_join pe_str (pe_lc (own := [("at", 1)]) (g := gName 1) (tt := tYes) (te := tDGet (tFld K (tVar 0) "pieces") (tVar 1)) rfl nd (pi_list (pe_callB (cr_srtD rfl) (by rfl) m_sorted (by decide +kernel) (pa_cons (pe_fld (pv 0) rfl) pa_nil))) (blkOk_by (N := nTRun) (sc := defScope sTRun) (by decide +kernel)) (fun _ _ _ _ _ => (pg_name (i := 1) nd rfl (.inl rfl))) (fun _ _ _ _ _ => pts_nil) (fun _ _ _ _ _ => (pe_dget hu (pe_fld (pv 0) rfl) (pv 1) (fun _ _ => rfl)))))))), ?_⟩
    refine q_when (et_not (et_test (tk_fld U (ev_var rfl) h1).2.2.2)) (fun hb H1 e1 => ?_) (fun hb H1 e1 => ?_)
    · have run : T.run = false := by simpa using hb
      refine s_ret ev_c fun H2 e2 => ?_
      have := q H2 (e1.trans e2)
      unfold textV at this
      rw [if_neg (by rw [run]; decide)] at this
      exact this
    · have run : T.run = true := by simpa using hb
      have g1 := e1 _ _ h1
      refine s_ret (ev_join (fun _ _ => ev_c) (ev_order (fun H2 e2 => (tk_fld U (ev_var rfl) (e2 _ _ g1)).2.2.1) (tk_fld U (ev_var rfl) g1).2.2.1 (fun x H2 e2 => (tk_fld U (ev_var rfl) (e2 _ _ g1)).2.2.1) (e1 _ _ N.pcs) hk (fun _ => rfl) (fun _ => rfl)) (ok_join hk)) fun H2 e2 => ?_
      have := q H2 (e1.trans e2)
      unfold textV at this
      rw [if_pos run] at this
      exact this
end
end KM
set_option Elab.async false
set_option linter.all false
set_option maxRecDepth 100000
set_option maxHeartbeats 4000000
namespace KB
open PySem PySem.Spec PyProof.Rows L2 Evl
def cpOk (s : Str) : Prop := ∀ c ∈ s.cps.toList, c < 0x110000
theorem cp_of (s : String) : cpOk (s : Str) := fun c m => by
  have m : c ∈ (Str.ofString s).cps.toList := m
  rw [signs_ofString] at m
  obtain ⟨ch, _, rfl⟩ := List.mem_map.mp m
  have h := ch.valid
  have e : ch.val.toNat = ch.toNat := rfl
  simp only [UInt32.isValidChar, Nat.isValidChar] at h
  omega
theorem cp_app {a b : Str} (h : cpOk a) (h2 : cpOk b) : cpOk (a ++ b) := fun c m => (mem_cps_append.mp m).elim (h c) (h2 c)
theorem cp_join {sep : Str} {ts : List Str} (h : cpOk sep) (h2 : ∀ t ∈ ts, cpOk t) : cpOk (Str.join sep ts) := fun c m => by
  rcases (mem_join sep c ts).mp m with ⟨t, mt, mc⟩ | ⟨_, mc⟩
  · exact h2 t mt c mc
  · exact h c mc
theorem cp_lay {s : Str} (h : cpOk s) : PyData.canLay0 (.str s) = true := by
  simp only [PyData.canLay0]
  show s.cps.all (fun c => decide (c < 0x110000)) = true
  rw [Array.all_eq_true']
  exact fun c m => decide_eq_true (h c (Array.mem_toList_iff.mpr m))
theorem cp_cut {z : Str} (h : cpOk z) (lo hi : Option Int) : cpOk (cutS z lo hi) := fun c m => h c (List.mem_of_mem_drop (List.mem_of_mem_take (by simpa [cutS] using m)))
section
variable {K : PySem.W.Frag} {σ : L2.St} {H H' : Hp} {ta tb te : TE} {v : V}
mutual
theorem Dx.dp {H : Hp} : ∀ {v : V} {d : PyData}, Dx H v d → Dp K H v d
  | _, _, .non => .non
  | _, _, .bl b => .bl b
  | _, _, .int i => .int i
  | _, _, .str x => .str x
  | _, _, .lst e h => .lst (SqL.of e) (DxAll.dp h)
  | _, _, .tup e h => .tup (SqT.of e) (DxAll.dp h)
theorem DxAll.dp {H : Hp} : ∀ {vs : List V} {ds : List PyData}, DxAll H vs ds → DpAll K H vs ds
  | _, _, .nil => .nil
  | _, _, .cons h t => .cons (Dx.dp h) (DxAll.dp t)
end
/-- x == y of data -/
theorem ev_eqX {d e : PyData} (h : Ev ta σ H v) (g : Dx H v d) (h2 : EvX tb σ H e) (sd : SeqAt.shaped d = true) (se : SeqAt.shaped e = true) : Ev (tOp (rEqD K) ta tb) σ H (.bl (PyData.eqv d e)) := fun H1 e1 Q q =>
  h H1 e1 _ fun H2 e2 => h2 H2 (e1.trans e2) _ fun u H3 e3 du => ⟨d, e, (g.mono ((e1.trans e2).trans e3)).dp, du.dp, sd, se, q H3 (e2.trans e3)⟩
/-- d[k], a text's key -/
theorem ev_dgetS {d : Addr} {kvs : List (Key × V)} {k : Str} (hd : Ev ta σ H (.ref d)) (hk : Ev tb σ H (.str k)) (e0 : H d = some (.dK kvs)) (h : valV kvs (Sum.inr k) = some v) : Ev (tDGet ta tb) σ H v := fun H1 e Q q =>
  hd H1 e _ fun H2 e2 => hk H2 (e.trans e2) _ fun H3 e3 => ⟨d, v, rfl, by
    have g := DGet.k (k := Sum.inr k) (((e.trans e2).trans e3) _ _ e0)
    rw [h] at g
    exact g, q H3 (e2.trans e3)⟩
end
end KB
namespace KM
open PySem PySem.Spec PyProof.Rows L2 Evl KB
/-! ### the law's records -/
def mFs (G : Gv) (p : Addr) : List (Key × V) := [(Sum.inr "phase", .str G.ph.w), (Sum.inr "many", .int (G.turn : Int)), (Sum.inr "pieces", .ref p), (Sum.inr "known", .bl G.known)]
structure MineAt (H : Hp) (m p : Addr) (G : Gv) : Prop where
  is : H m = some (.dK (mFs G p))
  pcs : H p = some (.lst (G.pcs.map V.str))
theorem MineAt.mono {H H' : Hp} {m p : Addr} {G : Gv} (e : Ex H H') (h : MineAt H m p G) : MineAt H' m p G := ⟨e _ _ h.is, e _ _ h.pcs⟩
def iFs (T : Tk) (d : Addr) : List (Key × V) := [(Sum.inr "turn", .int (T.turn : Int)), (Sum.inr "many", .int (T.many : Int)), (Sum.inr "kept", .ref d), (Sum.inr "runs", .bl T.run)]
structure ItsAt (H : Hp) (i d : Addr) (T : Tk) : Prop where
  is : H i = some (.dK (iFs T d))
  pcs : H d = some (.dK (kvK T.kept))
theorem ItsAt.mono {H H' : Hp} {m p : Addr} {T : Tk} (e : Ex H H') (h : ItsAt H m p T) : ItsAt H' m p T := ⟨e _ _ h.is, e _ _ h.pcs⟩
section
variable {K : PySem.W.Frag} {σ : L2.St} {H : Hp} {ta : TE} {m p d : Addr} {G : Gv} {T : Tk}
theorem mine_ev (ho : Ev ta σ H (.ref m)) (h : MineAt H m p G) : Ev (tDGet ta (tC (.str "phase"))) σ H (.str G.ph.w) ∧ Ev (tDGet ta (tC (.str "many"))) σ H (.int (G.turn : Int)) ∧ Ev (tDGet ta (tC (.str "pieces"))) σ H (.ref p) ∧ Ev (tDGet ta (tC (.str "known"))) σ H (.bl G.known) :=
  ⟨ev_dgetS ho ev_c h.is rfl, ev_dgetS ho ev_c h.is rfl, ev_dgetS ho ev_c h.is rfl, ev_dgetS ho ev_c h.is rfl⟩
theorem its_ev (ho : Ev ta σ H (.ref m)) (h : ItsAt H m d T) : Ev (tDGet ta (tC (.str "turn"))) σ H (.int (T.turn : Int)) ∧ Ev (tDGet ta (tC (.str "many"))) σ H (.int (T.many : Int)) ∧ Ev (tDGet ta (tC (.str "kept"))) σ H (.ref d) ∧ Ev (tDGet ta (tC (.str "runs"))) σ H (.bl T.run) :=
  ⟨ev_dgetS ho ev_c h.is rfl, ev_dgetS ho ev_c h.is rfl, ev_dgetS ho ev_c h.is rfl, ev_dgetS ho ev_c h.is rfl⟩
end
/-- a message, a tuple, its text right -/
def okS (s : Str) : Prop := cpOk s ∧ s.length ≤ 100
def Msg.ok : Msg → Prop
  | .piece _ _ _ s => okS s
  | _ => True
def TupM (H : Hp) (v : V) (m : Msg) : Prop := ∃ a, v = .ref a ∧ H a = some (.tup (msgV m))
theorem TupM.mono {H H' : Hp} {v : V} {m : Msg} (e : Ex H H') (h : TupM H v m) : TupM H' v m := by
  obtain ⟨a, rfl, h⟩ := h
  exact ⟨a, rfl, e _ _ h⟩
theorem TupM.at {H : Hp} {v : V} {m : Msg} (h : TupM H v m) : MsgAt H v m := by
  obtain ⟨a, rfl, h⟩ := h
  exact ⟨a, rfl, .inr h⟩
theorem dx_msgV (H : Hp) (m : Msg) : ∃ ds, msgD m = .tuple ds ∧ DxAll H (msgV m) ds := by
  cases m with
  | piece t i n s => exact ⟨_, rfl, .cons (.str _) (.cons (.int _) (.cons (.int _) (.cons (.int _) (.cons (.str _) .nil))))⟩
  | go t => exact ⟨_, rfl, .cons (.str _) (.cons (.int _) .nil)⟩
  | whole t => exact ⟨_, rfl, .cons (.str _) (.cons (.int _) .nil)⟩
  | going t => exact ⟨_, rfl, .cons (.str _) (.cons (.int _) .nil)⟩
theorem TupM.dx {H : Hp} {v : V} {m : Msg} (h : TupM H v m) : Dx H v (msgD m) := by
  obtain ⟨a, rfl, h⟩ := h
  obtain ⟨ds, e, g⟩ := dx_msgV H m
  rw [e]
  exact .tup h g
theorem lay_w (s : String) : PyData.canLay0 (.str s) = true := cp_lay (cp_of s)
theorem shaped_m {m : Msg} (h : m.ok) : SeqAt.shaped (msgD m) = true := by
  have aux : ∀ d : PyData, d.canLay0 = true → d.depth ≤ 64 → SeqAt.shaped d = true := fun d h1 h2 => by
    show (d.canLay0 && decide (d.depth ≤ 64)) = true
    rw [h1, decide_eq_true h2]
    rfl
  cases m with
  | piece t i n s =>
    have hs := cp_lay h.1
    refine aux _ ?_ (by simp [msgD, PyData.depth, PyData.depthAll])
    simp only [msgD, PyData.canLay0, PyData.canLayAll0] at hs ⊢
    have := lay_w "piece"
    simp only [PyData.canLay0] at this
    simp [hs, this]
  | go t =>
    refine aux _ ?_ (by simp [msgD, PyData.depth, PyData.depthAll])
    have := lay_w "go"
    simp only [msgD, PyData.canLay0, PyData.canLayAll0] at this ⊢
    simp [this]
  | whole t =>
    refine aux _ ?_ (by simp [msgD, PyData.depth, PyData.depthAll])
    have := lay_w "whole"
    simp only [msgD, PyData.canLay0, PyData.canLayAll0] at this ⊢
    simp [this]
  | going t =>
    refine aux _ ?_ (by simp [msgD, PyData.depth, PyData.depthAll])
    have := lay_w "going"
    simp only [msgD, PyData.canLay0, PyData.canLayAll0] at this ⊢
    simp [this]
/-- m == (k, n), for the three short kinds -/
def Msg.is (m m' : Msg) : Bool := decide (m.k = m'.k) && decide (m.t = m'.t)
theorem eqv_msg {m m' : Msg} (h : m'.k ≠ "piece") : PyData.eqv (msgD m) (msgD m') = m.is m' := by
  have n : ∀ a b : Nat, ((a : Int) == (b : Int)) = decide (a = b) := fun a b => by
    by_cases z : a = b
    · simp [z]
    · have z2 : ¬ (a : Int) = (b : Int) := by omega
      simp [z, z2]
  have s : ∀ a b : Str, (a == b) = decide (a = b) := fun a b => by
    by_cases z : a = b
    · simp [z]
    · simp [z]
  unfold Msg.is
  cases m' with
  | piece t i k z => exact absurd rfl h
  | go t' => cases m <;> simp only [msgD, PyData.eqv, PyData.eqvAll, Msg.k, Msg.t, n, s, Bool.and_true, Bool.and_false] <;> first | rfl | (rw [decide_eq_false (by decide +kernel)]; rfl)
  | whole t' => cases m <;> simp only [msgD, PyData.eqv, PyData.eqvAll, Msg.k, Msg.t, n, s, Bool.and_true, Bool.and_false] <;> first | rfl | (rw [decide_eq_false (by decide +kernel)]; rfl)
  | going t' => cases m <;> simp only [msgD, PyData.eqv, PyData.eqvAll, Msg.k, Msg.t, n, s, Bool.and_true, Bool.and_false] <;> first | rfl | (rw [decide_eq_false (by decide +kernel)]; rfl)
theorem ev_msgIs {K : PySem.W.Frag} {σ : L2.St} {H : Hp} {ta tb : TE} {v : V} {m m' : Msg} (h : Ev ta σ H v) (g : TupM H v m) (ok : m.ok) (h2 : EvX tb σ H (msgD m')) (ok' : m'.ok) (hk : m'.k ≠ "piece") : Ev (tOp (rEqD K) ta tb) σ H (.bl (m.is m')) := by
  rw [← eqv_msg hk]
  exact ev_eqX h g.dx h2 (shaped_m ok) (shaped_m ok')
theorem ne_wh {t : Nat} : (Msg.whole t).k ≠ "piece" := by show (("whole" : String) : Str) ≠ "piece"; decide +kernel
theorem ne_gg {t : Nat} : (Msg.going t).k ≠ "piece" := by show (("going" : String) : Str) ≠ "piece"; decide +kernel
theorem ne_go {t : Nat} : (Msg.go t).k ≠ "piece" := by show (("go" : String) : Str) ≠ "piece"; decide +kernel
/-! ### given -/
abbrev sGiven : Stmt := topS 18
theorem scGiven : FnScope ["_law_mine", "_law_message"] ["_law_mine", "_law_message"] (defScope sGiven) := ⟨rfl, rfl, rfl, by decide +kernel, rfl, by decide +kernel, by decide +kernel⟩
def spGiven : Sp := fun vs H Q _ => ∃ m p v G ms, vs = [.ref m, v] ∧ MineAt H m p G ∧ TupM H v ms ∧ ms.ok ∧ ∀ H', Xc [m] H H' → MineAt H' m p (gRecv G ms) → Q .non H'
def g1 (G : Gv) (m : Msg) : Gv := if (m.is (.whole G.turn) && decide (G.ph = .frozen)) = true then { G with ph := .given } else G
def g2 (G : Gv) (m : Msg) : Gv := if (m.is (.going G.turn) && decide (G.ph = .given)) = true then { G with known := true } else G
theorem g12 (G : Gv) (m : Msg) : g2 (g1 G m) m = gRecv G m := by
  have b1 : ¬ (Str.ofString "piece" = Str.ofString "whole") := by decide +kernel
  have b2 : ¬ (Str.ofString "piece" = Str.ofString "going") := by decide +kernel
  have b3 : ¬ (Str.ofString "go" = Str.ofString "whole") := by decide +kernel
  have b4 : ¬ (Str.ofString "go" = Str.ofString "going") := by decide +kernel
  have b5 : ¬ (Str.ofString "whole" = Str.ofString "going") := by decide +kernel
  have b6 : ¬ (Str.ofString "going" = Str.ofString "whole") := by decide +kernel
  cases m with
  | piece t i n s => simp [g1, g2, Msg.is, Msg.k, Msg.t, gRecv, b1, b2]
  | go t => simp [g1, g2, Msg.is, Msg.k, Msg.t, gRecv, b3, b4]
  | whole t => by_cases h : t = G.turn <;> simp [g1, g2, Msg.is, Msg.k, Msg.t, gRecv, b5, h]
  | going t => by_cases h : t = G.turn <;> simp [g1, g2, Msg.is, Msg.k, Msg.t, gRecv, b6, h]
section
variable {P : Program} {w : World} {K : PySem.W.Frag} {mg : Str → Option Value} {base : Heap} {C f : Addr} {fd : FuncData}
theorem ex_pair {σ : L2.St} {H : Hp} {tb : TE} {k : Str} {n : Nat} (h : Ev tb σ H (.int (n : Int))) : EvX (tTup (tCons (tC (.str k)) (tCons tb tNil))) σ H (.tuple [.str k, .int (n : Int)]) :=
  ex_tupA (xa_cons (ev_x ev_c (.str _)) (xa_cons (ev_x h (.int _)) xa_nil)) (by show 2 ≤ 100000; omega)
theorem ok_Given (F : Fun K "_law_given" "_law_given" sGiven f fd) : FnOk P w K mg base CX0 1 f fd ["_law_mine", "_law_message"] spGiven := by
  refine F.ok scGiven (fun vs H Q E h => ?_) (fun cdv A outer s H vs Q E hr h => ?_)
  · obtain ⟨m, p, v, G, ms, rfl, _⟩ := h
    rfl
  · obtain ⟨m, p, v, G, ms, rfl, N, hm, ok, q⟩ := h
    have hu := hu_of hr
    refine ⟨_, (pss_cut (ps_if (PW.pt (pw_and (pt_cmpR (op_eqD hr.units) (pv 1) (pe_tup (pa_cons pe_str (pa_cons (pe_dget hu (pv 0) pe_str (fun _ _ => rfl)) pa_nil))) (nomark _)) (pw_and1 (pt_cmpR op_eq (pe_dget hu (pv 0) pe_str (fun _ _ => rfl)) pe_str (nomark _))))) (pss_one (ps_dput hu (pv 0) pe_str pe_str rfl)) pss_nil)
      (pss_one (ps_if (PW.pt (pw_and (pt_cmpR (op_eqD hr.units) (pv 1) (pe_tup (pa_cons pe_str (pa_cons (pe_dget hu (pv 0) pe_str (fun _ _ => rfl)) pa_nil))) (nomark _)) (pw_and1 (pt_cmpR op_eq (pe_dget hu (pv 0) pe_str (fun _ _ => rfl)) pe_str (nomark _))))) (pss_one (ps_dput hu (pv 0) pe_str pe_bl rfl)) pss_nil))), ?_⟩
    have np : p ≠ m := fun z => by have := N.pcs; rw [z, N.is] at this; cases this
    refine q_cut (M := fun σ G2 => σ = [some (.ref m), some v] ∧ MineAt G2 m p (g1 G ms) ∧ TupM G2 v ms ∧ Xc [m] H G2) ?_ ?_
    · refine s_when (et_and (et_test (ev_msgIs (m' := .whole G.turn) (ev_var rfl) hm ok (ex_pair (mine_ev (ev_var rfl) N).2.1) trivial ne_wh)) fun _ => et_is (et_test (ev_op (mine_ev (ev_var rfl) N).1 ev_c (rv_eq rfl))) (ph_ne G.ph .frozen)) (fun hb H1 e1 => ?_) (fun hb H1 e1 => ?_)
      · refine s_dput (ky := Sum.inr "phase") (by show 4 < 100000; omega) ev_c (ev_var rfl) ev_c (e1 _ _ N.is) fun H2 e2 => ⟨rfl, ?_, ?_, (Xc.of (e1.trans e2)).put List.mem_cons_self⟩
        · unfold g1
          rw [if_pos hb]
          exact ⟨upd_same, by rw [upd_ne np]; exact e2 _ _ (e1 _ _ N.pcs)⟩
        · obtain ⟨a, rfl, ha⟩ := hm
          have na : a ≠ m := fun z => by rw [z, N.is] at ha; cases ha
          exact ⟨a, rfl, by rw [upd_ne na]; exact e2 _ _ (e1 _ _ ha)⟩
      · refine ⟨rfl, ?_, hm.mono e1, Xc.of e1⟩
        unfold g1
        rw [if_neg (by rw [hb]; decide)]
        exact N.mono e1
    · rintro σ H1 ⟨rfl, N1, hm1, x1⟩
      rw [← g12] at q
      have tn : (g1 G ms).turn = G.turn := by unfold g1; split <;> rfl
      refine s_when (et_and (et_test (ev_msgIs (m' := .going (g1 G ms).turn) (ev_var rfl) hm1 ok (ex_pair (mine_ev (ev_var rfl) N1).2.1) trivial ne_gg)) fun _ => et_is (et_test (ev_op (mine_ev (ev_var rfl) N1).1 ev_c (rv_eq rfl))) (ph_ne (g1 G ms).ph .given)) (fun hb H2 e2 => ?_) (fun hb H2 e2 => ?_)
      · refine s_dput (ky := Sum.inr "known") (by show 4 < 100000; omega) ev_c (ev_var rfl) ev_c (e2 _ _ N1.is) fun H3 e3 => q _ ((x1.trans (Xc.of (e2.trans e3))).put List.mem_cons_self) ?_
        unfold g2
        rw [if_pos hb]
        exact ⟨upd_same, by rw [upd_ne np]; exact e3 _ _ (e2 _ _ N1.pcs)⟩
      · refine q _ (x1.trans (Xc.of e2)) ?_
        unfold g2
        rw [if_neg (by rw [hb]; decide)]
        exact N1.mono e2
end
end KM
set_option Elab.async false
set_option linter.all false
set_option maxRecDepth 100000
set_option maxHeartbeats 4000000
namespace KM
open PySem PySem.Spec PyProof.Rows L2 Evl KB
abbrev sLWhole : Stmt := topS 20
theorem scLWhole : FnScope ["_law_its"] ["_law_its"] (defScope sLWhole) := ⟨rfl, rfl, rfl, by decide +kernel, rfl, by decide +kernel, by decide +kernel⟩
abbrev sLText : Stmt := topS 21
abbrev nLText : List Str := ["_law_its", "_law_at"]
theorem scLText : FnScope nLText ["_law_its"] (defScope sLText) := ⟨rfl, rfl, rfl, by decide +kernel, rfl, by decide +kernel, by decide +kernel⟩
abbrev sTaken : Stmt := topS 19
theorem scTaken : FnScope ["_law_its", "_law_message"] ["_law_its", "_law_message"] (defScope sTaken) := ⟨rfl, rfl, rfl, by decide +kernel, rfl, by decide +kernel, by decide +kernel⟩
abbrev sGSends : Stmt := topS 22
abbrev nGSends : List Str := ["_law_mine", "_law_turn", "_law_at", "_law_words"]
theorem scGSends : FnScope nGSends ["_law_mine"] (defScope sGSends) := ⟨rfl, rfl, rfl, by decide +kernel, rfl, by decide +kernel, by decide +kernel⟩
abbrev sTSends : Stmt := topS 23
theorem scTSends : FnScope ["_law_its"] ["_law_its"] (defScope sTSends) := ⟨rfl, rfl, rfl, by decide +kernel, rfl, by decide +kernel, by decide +kernel⟩
/-- whole, as the law counts -/
def lw (T : Tk) : Bool := decide (0 < T.turn) && decide (T.kept.length = T.many)
def spLWhole : Sp := fun vs H Q _ => ∃ i d T, vs = [.ref i] ∧ ItsAt H i d T ∧ RetV (.bl (lw T)) H Q
def spLText : Sp := fun vs H Q _ => ∃ i d T, vs = [.ref i] ∧ ItsAt H i d T ∧ KOk T.kept ∧ RetV (.str (Txt.join "" (inOrder T.kept))) H Q
def spTaken : Sp := fun vs H Q _ => ∃ i d v T ms, vs = [.ref i, v] ∧ ItsAt H i d T ∧ TupM H v ms ∧ ms.ok ∧ 1 ≤ ms.t ∧ T.kept.length < 1000 ∧ lw T = wholeB T ∧
  ∀ H' d', Xc [i, d] H H' → (d' = d ∨ H d' = none) → ItsAt H' i d' (tRecv T ms) → Q .non H'
def spGSends : Sp := fun vs H Q _ => ∃ m p G, vs = [.ref m] ∧ MineAt H m p G ∧ G.pcs.length ≤ 1000 ∧ RetMs (gMsgs G) H Q
def spTSends : Sp := fun vs H Q _ => ∃ i d T, vs = [.ref i] ∧ ItsAt H i d T ∧ lw T = wholeB T ∧ RetMs (tMsgs T) H Q
theorem not_go {t i n : Nat} {s : Str} {k : Nat} : (Msg.piece t i n s).is (.go k) = false := by
  have h : ¬ Str.ofString "piece" = Str.ofString "go" := by decide +kernel
  simp [Msg.is, Msg.k, h]
theorem is_go {t k : Nat} : (Msg.go t).is (.go k) = decide (t = k) := by
  by_cases h : t = k <;> simp [Msg.is, Msg.k, Msg.t, h]
theorem is_wh {t k : Nat} : (Msg.whole t).is (.go k) = false := by
  have h : ¬ Str.ofString "whole" = Str.ofString "go" := by decide +kernel
  simp [Msg.is, Msg.k, h]
theorem is_gg {t k : Nat} : (Msg.going t).is (.go k) = false := by
  have h : ¬ Str.ofString "going" = Str.ofString "go" := by decide +kernel
  simp [Msg.is, Msg.k, h]
theorem s_dputD {σ : L2.St} {H : Hp} {D : Ends} {te td tk : TE} {d : Addr} {kvs kv0 : List (Key × V)} {ky : Key} (hz : kvs.length < 100000) (hv : EvD te σ H kv0) (hd : Ev td σ H (.ref d)) (hk : Ev tk σ H (kV ky)) (e : H d = some (.dK kvs))
    (k : ∀ p H1, H p = none → Ex H H1 → H1 p = some (.dK kv0) → D.nx σ (upd H1 d (.dK (putK kvs ky (.ref p))))) : sDPut td tk te D σ H :=
  hv H (Ex.refl H) _ fun p H1 np e1 gp => hd H1 e1 _ fun H2 e2 => hk H2 (e1.trans e2) _ fun H3 e3 => ⟨d, _, rfl, DPut.k (((e1.trans e2).trans e3) _ _ e) (sz_lt hz), k p H3 np ((e1.trans e2).trans e3) (e3 _ _ (e2 _ _ gp))⟩
theorem ed_new {σ : L2.St} {H : Hp} : EvD (fun _ H Q => ∀ d, H d = none → Q (.ref d) (upd H d (.dK []))) σ H [] := fun H1 _ Q q d nd => q d _ nd (Ex.new nd) upd_same
/-- behind the pieces -/
def tPiece (T : Tk) : Msg → Tk
  | .piece t i n s => tKeep (tStart T t n) t i s
  | _ => T
def tFirst (T : Tk) : Msg → Tk
  | .piece t _ n _ => tStart T t n
  | _ => T
section
variable {P : Program} {w : World} {K : PySem.W.Frag} {mg : Str → Option Value} {base : Heap} {C f : Addr} {fd : FuncData}
theorem ok_LWhole (F : Fun K "_law_whole" "_law_whole" sLWhole f fd) (m_len : mg "len" = none) : FnOk P w K mg base CX0 1 f fd ["_law_its"] spLWhole := by
  refine F.ok scLWhole (fun vs H Q E h => ?_) (fun cdv A outer s H vs Q E hr h => ?_)
  · obtain ⟨i, d, T, rfl, _⟩ := h
    rfl
  · obtain ⟨i, d, T, rfl, N, q⟩ := h
    have hu := hu_of hr
    refine ⟨_, (pss_one (ps_ret (pe_and (pe_cmpR op_gt (pe_dget hu (pv 0) pe_str (fun _ _ => rfl)) pe_int (nomark _)) (pe_one (pe_cmpR op_eq (pe_callB call_lenD (by rfl) m_len (by decide +kernel) (pa_cons (pe_dget hu (pv 0) pe_str (fun _ _ => rfl)) pa_nil)) (pe_dget hu (pv 0) pe_str (fun _ _ => rfl)) (nomark _)))))), ?_⟩
    refine s_ret (ev_is (ev_andV (ev_op (its_ev (ev_var rfl) N).1 ev_c rv_I0) fun _ => ev_op (ev_lenD (its_ev (ev_var rfl) N).2.2.1 N.pcs) (its_ev (ev_var rfl) N).2.1 (rv_eq rfl)) (congrArg V.bl ?_)) q
    unfold lw
    rw [kv_len]
    congr 1
    · rw [decide_eq_decide]; omega
    · rw [decide_eq_decide]
      constructor
      · intro h; injection h with h; omega
      · intro h; rw [h]
theorem ok_LText (F : Fun K "_law_text" "_law_text" sLText f fd) (m_sorted : mg "sorted" = none) : FnOk P w K mg base CX0 1 f fd ["_law_its"] spLText := by
  refine F.ok scLText (fun vs H Q E h => ?_) (fun cdv A outer s H vs Q E hr h => ?_)
  · obtain ⟨i, d, T, rfl, _⟩ := h
    rfl
  · obtain ⟨i, d, T, rfl, N, hk, q⟩ := h
    have nd := scLText.nd
    have hu := hu_of hr
    refine ⟨_, (pss_one (ps_ret (pe_join pe_str (pe_lc (own := [("_law_at", 1)]) (g := gName 1) (tt := tYes) (te := tDGet (tDGet (tVar 0) (tC (.str "kept"))) (tVar 1)) rfl nd (pi_list (pe_callB (cr_srtD rfl) (by rfl) m_sorted (by decide +kernel) (pa_cons (pe_dget hu (pv 0) pe_str (fun _ _ => rfl)) pa_nil))) (blkOk_by (N := nLText) (sc := defScope sLText) (by decide +kernel)) (fun _ _ _ _ _ => (pg_name (i := 1) nd rfl (.inl rfl))) (fun _ _ _ _ _ => pts_nil) (fun _ _ _ _ _ => (pe_dget hu (pe_dget hu (pv 0) pe_str (fun _ _ => rfl)) (pv 1) (fun _ _ => rfl))))))), ?_⟩
    exact s_ret (ev_join (fun _ _ => ev_c) (ev_order (fun H2 e2 => (its_ev (ev_var rfl) (N.mono e2)).2.2.1) (its_ev (ev_var rfl) N).2.2.1 (fun x H2 e2 => (its_ev (ev_var rfl) (N.mono e2)).2.2.1) N.pcs hk (fun _ => rfl) (fun _ => rfl)) (ok_join hk)) q
theorem ok_TSends (F : Fun K "_law_taker_sends" "_law_taker_sends" sTSends f fd) (G__law_whole : Kf P w K mg base 1 "_law_whole" ["_law_its"] spLWhole) : FnOk P w K mg base CX0 2 f fd ["_law_its"] spTSends := by
  refine F.ok scTSends (fun vs H Q E h => ?_) (fun cdv A outer s H vs Q E hr h => ?_)
  · obtain ⟨i, d, T, rfl, _⟩ := h
    rfl
  · obtain ⟨i, d, T, rfl, N, hl, q⟩ := h
    have hu := hu_of hr
    refine ⟨_, (pss_cons (ps_if (pt_val (pe_dget hu (pv 0) pe_str (fun _ _ => rfl))) (pss_one (ps_ret (pe_lst (pa_cons (pe_tup (pa_cons pe_str (pa_cons (pe_dget hu (pv 0) pe_str (fun _ _ => rfl)) pa_nil))) pa_nil)))) pss_nil)
      (pss_one (ps_ret (pe_ifExp (pt_val (pe_fn G__law_whole (hr.mono (by decide)) (pa_cons (pv 0) pa_nil))) (pe_lst (pa_cons (pe_tup (pa_cons pe_str (pa_cons (pe_dget hu (pv 0) pe_str (fun _ _ => rfl)) pa_nil))) pa_nil)) (pe_lst pa_nil))))), ?_⟩
    refine q_when (et_test (its_ev (ev_var rfl) N).2.2.2) (fun hb H1 e1 => ?_) (fun hb H1 e1 => ?_)
    · have e : (tMsgs T).map msgD = [msgD (.going T.turn)] := by unfold tMsgs; rw [if_pos hb]; rfl
      refine s_retX (ex_lstA (xa_cons (ex_pair (its_ev (ev_var rfl) (N.mono e1)).1) xa_nil) (by show 1 ≤ 100000; omega)) fun v H2 e2 dv => q v H2 (e1.trans e2) ?_
      rw [e]
      exact dv
    · have cW : SpV spLWhole ([.ref i] ++ []) H1 (.bl (lw T)) := fun H3 e3 Q q E => ⟨i, d, T, rfl, (N.mono e1).mono e3, q⟩
      have fin : EvX (tIf (tTest (tCall spLWhole [] E0 (tCons (tVar 0) tNil))) (tLst (tCons (tTup (tCons (tC (.str "whole")) (tCons (tDGet (tVar 0) (tC (.str "turn"))) tNil))) tNil)) (tLst tNil)) [some (.ref i)] H1 (.list ((tMsgs T).map msgD)) := by
        refine ex_if (et_test (ev_call (ea_cons (ev_var rfl) ea_nil) cW)) (fun hw => ?_) (fun hw => ?_)
        · have e : (tMsgs T).map msgD = [msgD (.whole T.turn)] := by unfold tMsgs; rw [if_neg (by rw [hb]; decide), if_pos (by rw [← hl]; exact hw)]; rfl
          rw [e]
          exact ex_lstA (xa_cons (ex_pair (its_ev (ev_var rfl) (N.mono e1)).1) xa_nil) (by show 1 ≤ 100000; omega)
        · have e : (tMsgs T).map msgD = [] := by unfold tMsgs; rw [if_neg (by rw [hb]; decide), if_neg (by rw [← hl, hw]; decide)]; rfl
          rw [e]
          exact ex_lstA xa_nil (by show 0 ≤ 100000; omega)
      exact s_retX fin fun v H2 e2 dv => q v H2 (e1.trans e2) dv
theorem ok_GSends (F : Fun K "_law_giver_sends" "_law_giver_sends" sGSends f fd) (m_enumerate : mg "enumerate" = none) (m_len : mg "len" = none) : FnOk P w K mg base CX0 1 f fd ["_law_mine"] spGSends := by
  refine F.ok scGSends (fun vs H Q E h => ?_) (fun cdv A outer s H vs Q E hr h => ?_)
  · obtain ⟨m, p, G, rfl, _⟩ := h
    rfl
  · obtain ⟨m, p, G, rfl, N, hz, q⟩ := h
    have nd := scGSends.nd
    have hu := hu_of hr
    refine ⟨_, (pss_cons (ps_set (i := 1) nd rfl (by first | exact .inl rfl | exact .inr rfl) (pe_dget hu (pv 0) pe_str (fun _ _ => rfl)))
      (pss_cons (ps_if (pt_cmpR op_eq (pe_dget hu (pv 0) pe_str (fun _ _ => rfl)) pe_str (nomark _)) (pss_one (ps_ret (pe_lc (own := [("_law_at", 2), ("_law_words", 3)]) (g := gTup _ 2 (gCons (gName 2) (gCons (gName 3) gNil))) (tt := tYes) (te := tTup (tCons (tC (.str "piece")) (tCons (tVar 1) (tCons (tVar 2) (tCons (tCB (rLenS K) (tCons (tDGet (tVar 0) (tC (.str "pieces"))) tNil)) (tCons (tVar 3) tNil)))))) rfl nd (pi_enum (by rfl) m_enumerate (pa_cons (pe_dget hu (pv 0) pe_str (fun _ _ => rfl)) pa_nil)) (blkOk_by (N := nGSends) (sc := defScope sGSends) (by decide +kernel)) (fun _ _ _ _ _ => (pg_tup (by rfl) (pgs_cons (pg_name (i := 2) nd rfl (.inl rfl)) (pgs_cons (pg_name (i := 3) nd rfl (.inl rfl)) pgs_nil)))) (fun _ _ _ _ _ => pts_nil) (fun _ _ _ _ _ => (pe_tup (pa_cons pe_str (pa_cons (pv 1) (pa_cons (pv 2) (pa_cons (pe_callB call_len_seq (by rfl) m_len (by decide +kernel) (pa_cons (pe_dget hu (pv 0) pe_str (fun _ _ => rfl)) pa_nil)) (pa_cons (pv 3) pa_nil)))))))))) pss_nil)
      (pss_one (ps_ret (pe_ifExp (PW.pt (pw_and (pt_cmpR op_eq (pe_dget hu (pv 0) pe_str (fun _ _ => rfl)) pe_str (nomark _)) (pw_and1 (pt_not (pt_val (pe_dget hu (pv 0) pe_str (fun _ _ => rfl))))))) (pe_lst (pa_cons (pe_tup (pa_cons pe_str (pa_cons (pv 1) pa_nil))) pa_nil)) (pe_lst pa_nil)))))), ?_⟩
    have e1 := ph_ne G.ph .frozen
    have e2 := ph_ne G.ph .given
    refine q_asg (mine_ev (ev_var rfl) N).2.1 fun H1 x1 => ?_
    have N1 := N.mono x1
    refine q_when (et_is (et_test (ev_op (mine_ev (ev_var rfl) N1).1 ev_c (rv_eq rfl))) e1) (fun hb H2 x2 => ?_) (fun hb H2 x2 => ?_)
    · have hb' : G.ph = .frozen := of_decide_eq_true hb
      have N2 := N1.mono x2
      refine s_retX (ex_lcE (K := K) (fun i => msgD (.piece G.turn i G.pcs.length (G.pcs.getD i ""))) (mine_ev (ev_var rfl) N2).2.2.1 (sq_of N2.pcs) (by rw [List.length_map]; omega) (fun _ _ => rfl) (fun i b hi H3 x3 => ?_)) fun v H3 x3 dv => q v H3 (x1.trans (x2.trans x3)) ?_
      · rw [List.getElem?_map] at hi
        obtain ⟨z, hz2, rfl⟩ := Option.map_eq_some_iff.mp hi
        have ez : G.pcs.getD i "" = z := by rw [List.getD_eq_getElem?_getD, hz2]; rfl
        have N3 := N2.mono x3
        rw [ez]
        refine em_tup (ea_cons ev_c (ea_cons (ev_var rfl) (ea_cons (ev_var rfl) (ea_cons (ev_len (K := K) (mine_ev (ev_var rfl) N3).2.2.1 (sq_of N3.pcs)) (ea_cons (ev_var rfl) ea_nil))))) ?_ (by show 5 ≤ 100000; omega)
        rw [List.length_map]
        exact .cons (.str _) (.cons (.int _) (.cons (.int _) (.cons (.int _) (.cons (.str _) .nil))))
      · have : (gMsgs G).map msgD = (List.range (G.pcs.map V.str).length).map fun i => msgD (.piece G.turn i G.pcs.length (G.pcs.getD i "")) := by
          unfold gMsgs
          rw [hb', List.length_map, pieces_data]
          simp only [Nat.zero_add]
        rw [this]
        exact dv
    · have N2 := N1.mono x2
      have hb' : G.ph ≠ .frozen := fun z => by rw [z] at hb; cases hb
      have fin : EvX (tIf (tAnd (tTest (tOp rEq (tDGet (tVar 0) (tC (.str "phase"))) (tC (.str "given")))) (tNot (tTest (tDGet (tVar 0) (tC (.str "known")))))) (tLst (tCons (tTup (tCons (tC (.str "go")) (tCons (tVar 1) tNil))) tNil)) (tLst tNil)) [some (.ref m), some (.int (G.turn : Int)), none, none] H2 (.list ((gMsgs G).map msgD)) := by
        refine ex_if (et_and (et_is (et_test (ev_op (mine_ev (ev_var rfl) N2).1 ev_c (rv_eq rfl))) e2) fun _ => et_not (et_test (mine_ev (ev_var rfl) N2).2.2.2)) (fun hb2 => ?_) (fun hb2 => ?_)
        · rw [Bool.and_eq_true] at hb2
          have g1 : G.ph = .given := of_decide_eq_true hb2.1
          have g2 : G.known = false := by simpa using hb2.2
          have : (gMsgs G).map msgD = [msgD (.go G.turn)] := by unfold gMsgs; rw [g1]; dsimp only; rw [if_neg (by rw [g2]; decide)]; rfl
          rw [this]
          exact ex_lstA (xa_cons (ex_pair (ev_var rfl)) xa_nil) (by show 1 ≤ 100000; omega)
        · have : (gMsgs G).map msgD = [] := by
            unfold gMsgs
            cases z : G.ph with
            | runs => rfl
            | frozen => exact absurd z hb'
            | given =>
              rw [z] at hb2
              have : G.known = true := by simpa using hb2
              dsimp only
              rw [if_pos this]
              rfl
          rw [this]
          exact ex_lstA xa_nil (by show 0 ≤ 100000; omega)
      exact s_retX fin fun v H3 x3 dv => q v H3 (x1.trans (x2.trans x3)) dv
theorem k_piece {m : Msg} (h : decide (V.str m.k = V.str "piece") = true) : ∃ t i n s, m = .piece t i n s := by
  have h' := of_decide_eq_true h
  cases m with
  | piece t i n s => exact ⟨t, i, n, s, rfl⟩
  | go _ => exact absurd h' (by show ¬ V.str (("go" : String) : Str) = V.str "piece"; decide +kernel)
  | whole _ => exact absurd h' (by show ¬ V.str (("whole" : String) : Str) = V.str "piece"; decide +kernel)
  | going _ => exact absurd h' (by show ¬ V.str (("going" : String) : Str) = V.str "piece"; decide +kernel)
theorem piece_ev {σ : L2.St} {H : Hp} {v : V} {t i n : Nat} {s : Str} {ta : TE} (ho : Ev ta σ H v) (h : TupM H v (.piece t i n s)) :
    Ev (tOp (rIx K) ta (tC (.int 2))) σ H (.int (i : Int)) ∧ Ev (tOp (rIx K) ta (tC (.int 3))) σ H (.int (n : Int)) ∧ Ev (tOp (rIx K) ta (tC (.int 4))) σ H (.str s) := by
  obtain ⟨a, rfl, h⟩ := h
  exact ⟨ev_op ho ev_c (rv_ixq (i := 2) (.inr h) rfl), ev_op ho ev_c (rv_ixq (i := 3) (.inr h) rfl), ev_op ho ev_c (rv_ixq (i := 4) (.inr h) rfl)⟩
theorem TupM.xc {H H' : Hp} {v : V} {m : Msg} {M : List Addr} (x : Xc M H H') (hM : ∀ b ∈ M, ∃ kvs, H b = some (.dK kvs)) (h : TupM H v m) : TupM H' v m := by
  obtain ⟨a, rfl, h⟩ := h
  exact ⟨a, rfl, x _ _ (fun z => by obtain ⟨kvs, e⟩ := hM a z; rw [h] at e; cases e) h⟩
theorem ok_Taken (F : Fun K "_law_taken" "_law_taken" sTaken f fd) (G__law_whole : Kf P w K mg base 1 "_law_whole" ["_law_its"] spLWhole) : FnOk P w K mg base CX0 2 f fd ["_law_its", "_law_message"] spTaken := by
  refine F.ok scTaken (fun vs H Q E h => ?_) (fun cdv A outer s H vs Q E hr h => ?_)
  · obtain ⟨i, d, v, T, ms, rfl, _⟩ := h
    rfl
  · obtain ⟨i, d, v, T, ms, rfl, N, hm, ok, ht, hz, hl, q⟩ := h
    have nd := scTaken.nd
    have hu := hu_of hr
    refine ⟨_, (pss_cons (ps_if (pt_val (pe_dget hu (pv 0) pe_str (fun _ _ => rfl))) (pss_one ps_retN) pss_nil)
      (pss_cut (ps_if (PW.pt (pw_and (pt_cmpR op_eq (pe_ix ix_seq (pv 1) pe_int (fun _ _ => rfl)) pe_str (nomark _)) (pw_and1 (pt_cmpR op_gt (pe_ix ix_seq (pv 1) pe_int (fun _ _ => rfl)) (pe_dget hu (pv 0) pe_str (fun _ _ => rfl)) (nomark _))))) (pss_cons (ps_dput hu (pv 0) pe_str (pe_ix ix_seq (pv 1) pe_int (fun _ _ => rfl)) rfl)
      (pss_cons (ps_dput hu (pv 0) pe_str (pe_ix ix_seq (pv 1) pe_int (fun _ _ => rfl)) rfl)
      (pss_one (ps_dput hu (pv 0) pe_str pe_dnewK rfl)))) pss_nil)
      (pss_cut (ps_if (PW.pt (pw_and (pt_cmpR op_eq (pe_ix ix_seq (pv 1) pe_int (fun _ _ => rfl)) pe_str (nomark _)) (pw_and (pt_cmpR op_eq (pe_ix ix_seq (pv 1) pe_int (fun _ _ => rfl)) (pe_dget hu (pv 0) pe_str (fun _ _ => rfl)) (nomark _)) (pw_and1 (pt_cmp (pc_dnotin hu (pe_ix ix_seq (pv 1) pe_int (fun _ _ => rfl)) (pe_dget hu (pv 0) pe_str (fun _ _ => rfl)))))))) (pss_one (ps_dput hu (pe_dget hu (pv 0) pe_str (fun _ _ => rfl)) (pe_ix ix_seq (pv 1) pe_int (fun _ _ => rfl)) (pe_ix ix_seq (pv 1) pe_int (fun _ _ => rfl)) rfl)) pss_nil)
      (pss_one (ps_if (PW.pt (pw_and (pt_cmpR (op_eqD hr.units) (pv 1) (pe_tup (pa_cons pe_str (pa_cons (pe_dget hu (pv 0) pe_str (fun _ _ => rfl)) pa_nil))) (nomark _)) (pw_and1 (pt_val (pe_fn G__law_whole (hr.mono (by decide)) (pa_cons (pv 0) pa_nil)))))) (pss_one (ps_dput hu (pv 0) pe_str pe_bl rfl)) pss_nil))))), ?_⟩
    have nid : d ≠ i := fun z => by
      have := N.pcs
      rw [z, N.is] at this
      injection this with this
      injection this with this
      have z2 := congrArg List.head? this
      cases hk : T.kept with
      | nil => rw [hk] at z2; cases z2
      | cons x r => rw [hk] at z2; cases z2
    refine q_when (et_test (its_ev (ev_var rfl) N).2.2.2) (fun hb H1 e1 => ?_) (fun hb H1 e1 => ?_)
    · refine q H1 d (Xc.of e1) (.inl rfl) ?_
      unfold tRecv
      rw [if_pos hb]
      exact N.mono e1
    have run : ¬ T.run = true := by rw [hb]; decide
    have N1 := N.mono e1
    have hm1 := hm.mono e1
    have dK : ∀ b ∈ [i, d], ∃ kvs, H1 b = some (.dK kvs) := fun b mb => by
      rcases List.mem_cons.mp mb with z | z
      · exact ⟨_, z ▸ N1.is⟩
      · exact ⟨_, (List.mem_singleton.mp z) ▸ N1.pcs⟩
    refine q_cut (M := fun σ G => σ = [some (.ref i), some v] ∧ ∃ d2, ItsAt G i d2 (tFirst T ms) ∧ TupM G v ms ∧ Xc [i] H1 G ∧ (d2 = d ∨ H1 d2 = none) ∧ d2 ≠ i) ?_ ?_
    · refine s_when (et_and (b := decide (T.turn < ms.t)) (et_test (ev_op (msg_ev (K := K) (ev_var rfl) hm1.at).1 ev_c (rv_eq rfl))) fun _ => et_is (et_test (ev_op (msg_ev (K := K) (ev_var rfl) hm1.at).2 (its_ev (ev_var rfl) N1).1 rv_I0)) (by rw [decide_eq_decide]; omega)) (fun hp H2 e2 => ?_) (fun hp H2 e2 => ?_)
      · rw [Bool.and_eq_true] at hp
        obtain ⟨tt, j, n, z, rfl⟩ := k_piece hp.1
        have hlt : T.turn < tt := of_decide_eq_true hp.2
        have N2 := N1.mono e2
        have hm2 := hm1.mono e2
        refine q_dput (ky := Sum.inr "turn") (by show 4 < 100000; omega) (msg_ev (K := K) (ev_var rfl) hm2.at).2 (ev_var rfl) ev_c N2.is fun H3 e3 => ?_
        obtain ⟨a, rfl, ha⟩ := hm2
        have na : a ≠ i := fun w => by rw [w, N2.is] at ha; cases ha
        have ha3 : upd H3 i (HO.dK (putK (iFs T d) (Sum.inr "turn") (V.int ((Msg.piece tt j n z).t : Int)))) a = some (.tup (msgV (.piece tt j n z))) := by rw [upd_ne na]; exact e3 _ _ ha
        refine q_dput (ky := Sum.inr "many") (by show 4 < 100000; omega) (piece_ev (K := K) (ev_var rfl) ⟨a, rfl, ha3⟩).2.1 (ev_var rfl) ev_c upd_same fun H4 e4 => ?_
        refine s_dputD (ky := Sum.inr "kept") (by show 4 < 100000; omega) ed_new (ev_var rfl) ev_c upd_same fun d2 H5 nd2 e5 gd2 => ?_
        have n2 : d2 ≠ i := fun w => by rw [w, upd_same] at nd2; cases nd2
        rw [upd_ne n2] at nd2
        have f3 := fresh_back e4 nd2
        rw [upd_ne n2] at f3
        have f2 : H1 d2 = none := fresh_back (e2.trans e3) f3
        refine ⟨rfl, d2, ⟨?_, ?_⟩, ⟨a, rfl, ?_⟩, ?_, .inr f2, n2⟩
        · rw [upd_same]
          show some (HO.dK [(Sum.inr "turn", .int (tt : Int)), (Sum.inr "many", .int (n : Int)), (Sum.inr "kept", .ref d2), (Sum.inr "runs", .bl T.run)]) = some (HO.dK (iFs (tStart T tt n) d2))
          unfold tStart
          rw [if_pos hlt, hb]
          rfl
        · rw [upd_ne n2]
          show _ = some (HO.dK (kvK (tStart T tt n).kept))
          unfold tStart
          rw [if_pos hlt]
          exact gd2
        · rw [upd_ne na]
          exact e5 _ _ (by rw [upd_ne na]; exact e4 _ _ ha3)
        · intro b o nb hbo
          have ne : b ≠ i := fun w => nb (by rw [w]; exact List.mem_cons_self)
          rw [upd_ne ne]
          exact e5 _ _ (by rw [upd_ne ne]; exact e4 _ _ (by rw [upd_ne ne]; exact e3 _ _ (e2 _ _ hbo)))
      · refine ⟨rfl, d, ?_, hm1.mono e2, Xc.of e2, .inl rfl, nid⟩
        have : tFirst T ms = T := by
          cases ms with
          | piece tt j n z =>
            show tStart T tt n = T
            unfold tStart
            rw [if_neg]
            intro z2
            have : (decide (V.str (Msg.piece tt j n z).k = V.str "piece") && decide (T.turn < (Msg.piece tt j n z).t)) = true := by
              rw [Bool.and_eq_true]
              exact ⟨by show decide (V.str (("piece" : String) : Str) = V.str "piece") = true; decide +kernel, decide_eq_true z2⟩
            rw [this] at hp
            cases hp
          | go _ => rfl
          | whole _ => rfl
          | going _ => rfl
        rw [this]
        exact N1.mono e2
    · rintro σ G ⟨rfl, d2, N2, hm2, x2, hd2, nd2⟩
      have few : (tFirst T ms).kept.length < 1000 := by
        cases ms with
        | piece tt j n z =>
          show (tStart T tt n).kept.length < 1000
          unfold tStart
          split
          · exact (by decide : 0 < 1000)
          · exact hz
        | go _ => exact hz
        | whole _ => exact hz
        | going _ => exact hz
      refine q_cut (M := fun σ G2 => σ = [some (.ref i), some v] ∧ ItsAt G2 i d2 (tPiece T ms) ∧ TupM G2 v ms ∧ Xc [i, d2] H1 G2) ?_ ?_
      · refine s_when (et_and (b := (decide (ms.t = (tFirst T ms).turn) && (match ms with | .piece _ j _ _ => !decide (j ∈ (tFirst T ms).keys) | _ => true))) (et_test (ev_op (msg_ev (K := K) (ev_var rfl) hm2.at).1 ev_c (rv_eq rfl))) fun hk => ?_) (fun hp H2 e2 => ?_) (fun hp H2 e2 => ?_)
        · obtain ⟨tt, j, n, z, rfl⟩ := k_piece hk
          refine et_and (et_is (et_test (ev_op (msg_ev (K := K) (ev_var rfl) hm2.at).2 (its_ev (ev_var rfl) N2).1 (rv_eq rfl))) ?_) fun _ => et_is (et_B (ev_dnin (piece_ev (K := K) (ev_var rfl) hm2).1 (its_ev (ev_var rfl) N2).2.2.1 N2.pcs)) ?_
          · rw [decide_eq_decide]
            constructor
            · intro h; injection h with h; omega
            · intro h; rw [h]
          · rw [kv_some]
            rfl
        · rw [Bool.and_eq_true] at hp
          obtain ⟨hk, hp⟩ := hp
          obtain ⟨tt, j, n, z, rfl⟩ := k_piece hk
          rw [Bool.and_eq_true] at hp
          have p1 : tt = (tStart T tt n).turn := of_decide_eq_true hp.1
          have p2 : j ∉ (tStart T tt n).keys := by
            have t : (!decide (j ∈ (tStart T tt n).keys)) = true := hp.2
            rw [Bool.not_eq_true'] at t
            exact of_decide_eq_false t
          have N3 := N2.mono e2
          have hm3 := hm2.mono e2
          refine s_dput (ky := Sum.inl (j : Int)) (by rw [kv_len]; omega) (piece_ev (K := K) (ev_var rfl) hm3).2.2 (its_ev (ev_var rfl) N3).2.2.1 (piece_ev (K := K) (ev_var rfl) hm3).1 N3.pcs fun H3 e3 => ⟨rfl, ⟨?_, ?_⟩, ?_, ?_⟩
          · rw [upd_ne nd2.symm]
            show _ = some (HO.dK (iFs (tKeep (tStart T tt n) tt j z) d2))
            unfold tKeep
            rw [if_pos ⟨p1, p2⟩]
            exact e3 _ _ N3.is
          · rw [upd_same, show putK (kvK (tFirst T (.piece tt j n z)).kept) (Sum.inl (j : Int)) (V.str z) = _ from kv_put p2]
            show _ = some (HO.dK (kvK (tKeep (tStart T tt n) tt j z).kept))
            unfold tKeep
            rw [if_pos ⟨p1, p2⟩]
            rfl
          · obtain ⟨a, rfl, ha⟩ := hm3
            have na : a ≠ d2 := fun w => by have := N3.pcs; rw [← w, ha] at this; cases this
            exact ⟨a, rfl, by rw [upd_ne na]; exact e3 _ _ ha⟩
          · intro b o nb hbo
            have ne : b ≠ d2 := fun w => nb (by rw [w]; exact List.mem_cons_of_mem _ List.mem_cons_self)
            rw [upd_ne ne]
            exact e3 _ _ (e2 _ _ (x2 _ _ (fun w => nb (by rw [List.mem_singleton.mp w]; exact List.mem_cons_self)) hbo))
        · refine ⟨rfl, ?_, hm2.mono e2, (x2.sub fun b m => by rw [List.mem_singleton.mp m]; exact List.mem_cons_self).trans (Xc.of e2)⟩
          have : tPiece T ms = tFirst T ms := by
            cases ms with
            | piece tt j n z =>
              show tKeep (tStart T tt n) tt j z = tStart T tt n
              unfold tKeep
              rw [if_neg]
              rintro ⟨z1, z2⟩
              have : (decide (V.str (Msg.piece tt j n z).k = V.str "piece") && (decide ((Msg.piece tt j n z).t = (tFirst T (.piece tt j n z)).turn) && !decide (j ∈ (tFirst T (.piece tt j n z)).keys))) = true := by
                rw [Bool.and_eq_true, Bool.and_eq_true]
                refine ⟨by show decide (V.str (("piece" : String) : Str) = V.str "piece") = true; decide +kernel, decide_eq_true z1, ?_⟩
                show (!decide (j ∈ (tStart T tt n).keys)) = true
                rw [decide_eq_false z2]
                rfl
              rw [this] at hp
              cases hp
            | go _ => rfl
            | whole _ => rfl
            | going _ => rfl
          rw [this]
          exact N2.mono e2
      · rintro σ G3 ⟨rfl, N3, hm3, x3⟩
        have hd3 : d2 = d ∨ H d2 = none := hd2.imp id fun z => fresh_back e1 z
        have x4 : Xc [i, d] H G3 := by
          intro b o nb hbo
          refine x3 _ _ ?_ (e1 _ _ hbo)
          intro w
          rcases List.mem_cons.mp w with w | w
          · exact nb (by rw [w]; exact List.mem_cons_self)
          · have w := List.mem_singleton.mp w
            rcases hd3 with z | z
            · exact nb (by rw [w, z]; exact List.mem_cons_of_mem _ List.mem_cons_self)
            · rw [w, z] at hbo; cases hbo
        have cW : SpV spLWhole ([.ref i] ++ []) G3 (.bl (lw (tPiece T ms))) := fun H3 e3 Q q E => ⟨i, d2, _, rfl, N3.mono e3, q⟩
        refine s_when (et_and (et_test (ev_msgIs (m' := .go (tPiece T ms).turn) (ev_var rfl) hm3 ok (ex_pair (its_ev (ev_var rfl) N3).1) trivial ne_go)) fun _ => et_test (ev_call (ea_cons (ev_var rfl) ea_nil) cW)) (fun hp H2 e2 => ?_) (fun hp H2 e2 => ?_)
        · rw [Bool.and_eq_true] at hp
          cases ms with
          | piece _ _ _ _ => rw [not_go] at hp; cases hp.1
          | whole _ => rw [is_wh] at hp; cases hp.1
          | going _ => rw [is_gg] at hp; cases hp.1
          | go tt =>
            rw [is_go] at hp
            have p1 : tt = T.turn := of_decide_eq_true hp.1
            have p2 : lw T = true := hp.2
            rw [hl] at p2
            refine s_dput (ky := Sum.inr "runs") (by show 4 < 100000; omega) ev_c (ev_var rfl) ev_c (e2 _ _ N3.is) fun H3 e3 => q _ d2 ((x4.trans (Xc.of (e2.trans e3))).put List.mem_cons_self) hd3 ?_
            unfold tRecv
            rw [if_neg run]
            show ItsAt _ i d2 (if tt = T.turn ∧ wholeB T = true then { T with run := true } else T)
            rw [if_pos ⟨p1, p2⟩]
            exact ⟨upd_same, by rw [upd_ne nd2]; exact e3 _ _ (e2 _ _ N3.pcs)⟩
        · refine q _ d2 (x4.trans (Xc.of e2)) hd3 ?_
          have same : tRecv T ms = tPiece T ms := by
            unfold tRecv
            rw [if_neg run]
            cases ms with
            | piece _ _ _ _ => rfl
            | whole _ => rfl
            | going _ => rfl
            | go tt =>
              show (if tt = T.turn ∧ wholeB T = true then { T with run := true } else T) = T
              rw [if_neg]
              rintro ⟨z1, z2⟩
              rw [is_go] at hp
              have : (decide (tt = (tPiece T (.go tt)).turn) && lw (tPiece T (.go tt))) = true := by
                rw [Bool.and_eq_true]
                exact ⟨decide_eq_true z1, by show lw T = true; rw [hl]; exact z2⟩
              rw [this] at hp
              cases hp
          rw [same]
          exact N3.mono e2
end
end KM
set_option Elab.async false
set_option linter.all false
set_option maxRecDepth 100000
set_option maxHeartbeats 4000000
namespace L2
open PySem PySem.Spec PyProof.Rows
section
variable {X : Cx}
def rInT (K : PySem.W.Frag) : R2 := fun x y H Q => ∃ d ds, Dp K H x d ∧ Dp K H y (.tuple ds) ∧ SeqAt.shaped d = true ∧ SeqAt.shaped (.tuple ds) = true ∧ Q (.bl (ds.any fun z => PyData.eqv z d)) H
def rNotInT (K : PySem.W.Frag) : R2 := fun x y H Q => ∃ d ds, Dp K H x d ∧ Dp K H y (.tuple ds) ∧ SeqAt.shaped d = true ∧ SeqAt.shaped (.tuple ds) = true ∧ Q (.bl (!ds.any fun z => PyData.eqv z d)) H
theorem op_inT (hu : X.A.units + 65 < cLine) : OpR X (compareOp .In) (rInT X.K) := by
  intro pins s σ H x y v u Q I rx ry h
  obtain ⟨d, ds, hd, he, sd, se, q⟩ := h
  obtain ⟨as, r1⟩ := Dp.reads I d x v hd rx
  obtain ⟨bs, r2⟩ := Dp.reads I (.tuple ds) y u he ry
  exact SeqAt.in_tuple_reads r2 r1 (SeqAt.canLay_of_shaped se) (SeqAt.canLay_of_shaped sd) (room_in_shaped sd hu) ⟨.bl _, H, I, rfl, q⟩
theorem op_notInT (hu : X.A.units + 65 < cLine) : OpR X (compareOp .NotIn) (rNotInT X.K) := by
  intro pins s σ H x y v u Q I rx ry h
  obtain ⟨d, ds, hd, he, sd, se, q⟩ := h
  obtain ⟨as, r1⟩ := Dp.reads I d x v hd rx
  obtain ⟨bs, r2⟩ := Dp.reads I (.tuple ds) y u he ry
  exact SeqAt.notIn_tuple_reads r2 r1 (SeqAt.canLay_of_shaped se) (SeqAt.canLay_of_shaped sd) (room_in_shaped sd hu) ⟨.bl _, H, I, rfl, q⟩
end
end L2
namespace KM
open PySem PySem.Spec PyProof.Rows L2 Evl KB
abbrev sRefused : Stmt := topS 16
abbrev nRefused : List Str := ["_law_giver", "_law_word", "_law_pieces", "_law_found", "_law_caught", "error"]
theorem scRefused : FnScope nRefused ["_law_giver", "_law_word", "_law_pieces"] (defScope sRefused) := ⟨rfl, rfl, rfl, by decide +kernel, rfl, by decide +kernel, by decide +kernel⟩
abbrev sBegin : Stmt := topS 17
abbrev nBegin : List Str := ["_law_mine", "_law_giver", "_law_word", "_law_pieces", "_law_due", "_law_wanted"]
theorem scBegin : FnScope nBegin ["_law_mine", "_law_giver", "_law_word", "_law_pieces"] (defScope sBegin) := ⟨rfl, rfl, rfl, by decide +kernel, rfl, by decide +kernel, by decide +kernel⟩
/-- what begins: a try, or that it runs again; what is told then, what the giver is then -/
def wordB (b : Bool) : Str := if b = true then "freeze" else "resume"
def wants (b : Bool) : Ph := if b = true then .runs else .frozen
def gDo (b : Bool) (G : Gv) (ps : List Str) : Gv := if G.ph = wants b then (if b = true then { G with ph := .frozen, turn := G.turn + 1, pcs := ps } else { G with ph := .runs }) else G
def gTold (b : Bool) (G : Gv) : PyData := if G.ph = wants b then (if b = true then .int ((G.turn + 1 : Nat) : Int) else .none) else .tuple [.str "refused", .str G.ph.w]
def spRefused (C : Addr) : Sp := fun vs H Q _ => ∃ g pg l b G ps, vs = [.ref g, .str (wordB b), .ref l] ∧ GvAt H C g pg G ∧ H l = some (.lst (ps.map V.str)) ∧ ps.length ≤ 1000 ∧
  ∀ v H' pg', Xc [g] H H' → (pg' = pg ∨ H pg' = none) → GvAt H' C g pg' (gDo b G ps) → Dx H' v (gTold b G) → Q v H'
def spBegin (C : Addr) : Sp := fun vs H Q _ => ∃ m g pg l p b G ps, vs = [.ref m, .ref g, .str (wordB b), .ref l] ∧ MineAt H m p G ∧ GvAt H C g pg G ∧ H l = some (.lst (ps.map V.str)) ∧ ps.length ≤ 1000 ∧
  ∀ H' p' pg', Xc [m, g] H H' → (p' = p ∨ H p' = none) → (pg' = pg ∨ H pg' = none) → MineAt H' m p' (gDo b G ps) → GvAt H' C g pg' (gDo b G ps) → Q (.bl true) H'
theorem wordB_eq (b : Bool) : decide (V.str (wordB b) = V.str "freeze") = b := by cases b <;> decide +kernel
def tailR (K : PySem.W.Frag) (CN : Addr) : TS := tSeq (tIfS (tB (tIsN (tVar 4))) (tRet (tVar 3)) tNext) (tRet (tIf (tAnd (tB (tCB (rKis K) (tCons (tVar 4) (tCons (tC (.ref CN)) tNil)))) (tB (tCB (rKis K) (tCons (tVar 4) (tCons (tC (.ty "RuntimeError")) tNil))))) (tTup (tCons (tC (.str "refused")) (tCons (tKget CN "word" (tVar 4)) tNil))) (tC (.str "other"))))
section
variable {P : Program} {w : World} {K : PySem.W.Frag} {mg : Str → Option Value} {base : Heap} {C CN CR f : Addr} {fd : FuncData}
theorem ok_Refused (F : Fun K "_law_refused" "_law_refused" sRefused f fd) (G_Giver_freeze : KmX P w K mg base 3 C "freeze" ["self", "pieces"] (spGFreeze C CN)) (G_Giver_resume : KmX P w K mg base 3 C "resume" ["self"] (spGResume C CN))
    (XN : ExcC K CN) (hno : PySem.W.findIn K (.ref CN) "word" = some none) (qN : mg "NotNow" = some (.ref CN)) (qR : mg "NotRunning" = some (.ref CR)) (exm : PySem.W.exmAny K (.ref CN) [.ref CN, .ref CR] = some true)
    (kit1 : PySem.W.kitOne K (.ref CN) (.ref CN) = some true) (kit2 : PySem.W.kitOne K (.ref CN) (.type "RuntimeError") = some true) (m_isinstance : mg "isinstance" = none) (m_RuntimeError : mg "RuntimeError" = none) :
    FnOk P w K mg base CX0 4 f fd ["_law_giver", "_law_word", "_law_pieces"] (spRefused C) := by
  refine F.ok scRefused (fun vs H Q E h => ?_) (fun cdv A outer s H vs Q E hr h => ?_)
  · obtain ⟨g, pg, l, b, G, ps, rfl, _⟩ := h
    rfl
  · obtain ⟨g, pg, l, b, G, ps, rfl, N, hl, hz, q⟩ := h
    have nd := scRefused.nd
    refine ⟨_, (pss_cons (ps_asg (pe_tup (pa_cons pe_non (pa_cons pe_non pa_nil))) (pg_tup (by rfl) (pgs_cons (pg_name (i := 3) nd rfl (.inl rfl)) (pgs_cons (pg_name (i := 4) nd rfl (.inl rfl)) pgs_nil))))
      (pss_cons (ps_try_keep (i := 5) (tb := fun W => tAsg (tIf (tTest (tOp rEq (tVar 1) (tC (.str "freeze")))) (tMethX C "freeze" (spGFreeze C CN) (WE W) (tVar 0) (tCons (tVar 2) tNil)) (tMethX C "resume" (spGResume C CN) (WE W) (tVar 0) tNil)) (gName 3)) (ts := fun _ _ _ => tAsg (tVar 5) (gName 4)) rfl rfl nd rfl rfl rfl (tst_two ⟨rfl, by decide, .inl qN⟩ ⟨rfl, by decide, .inl qR⟩)
          (fun W pn xe tk _ => pss_one (ps_set (i := 3) nd rfl (.inl rfl) (pe_ifExp (pt_cmpR op_eq (pv 1) pe_str (nomark _)) (pe_mtS (pv 0) G_Giver_freeze hr (fun σ => passAt tk σ) (pa_cons (pv 2) pa_nil)) (pe_mtS0 (pv 0) G_Giver_resume hr (fun σ => passAt tk σ)))))
          (fun a oe cls d pn hz hf => pss_one (ps_set (i := 4) nd rfl (.inl rfl) (pv 5))))
      (pss_cons (ps_if (pt_cmp (pc_isN (pv 4))) (pss_one (ps_ret (pv 3))) pss_nil)
      (pss_one (ps_ret (pe_ifExp (PW.pt (pw_and (pt_val (pe_callB call_kis (by rfl) m_isinstance (by decide +kernel) (pa_cons (pv 4) (pa_cons (pe_glob (v := .ref CN) rfl qN rfl) pa_nil)))) (pw_and1 (pt_val (pe_callB call_kis (by rfl) m_isinstance (by decide +kernel) (pa_cons (pv 4) (pa_cons (pe_bltn (v := .ty "RuntimeError") (by rfl) m_RuntimeError (by decide +kernel) rfl) pa_nil))))))) (pe_tup (pa_cons pe_str (pa_cons (pe_kget XN hno (pv 4)) pa_nil))) pe_str)))))), ?_⟩
    obtain ⟨dx, h1, h2⟩ := N.is
    refine ⟨by show 2 ≤ sizeLine; decide, fun t0 nt0 => ⟨t0, _, rfl, .inl (.inl upd_same), rfl, _, _, rfl, _, _, rfl, rfl, ?_⟩⟩
    have e00 : Ex H (upd H t0 (.tup [.non, .non])) := Ex.new nt0
    -- behind the try, nothing caught
    have told : ∀ (v : V) (H' : Hp) (pg' : Addr), Xc [g] H H' → (pg' = pg ∨ H pg' = none) → GvAt H' C g pg' (gDo b G ps) → Dx H' v (gTold b G) → tailR K CN { nx := fun _ H' => Q .non H', rt := Q } [some (.ref g), some (.str (wordB b)), some (.ref l), some v, some .non, none] H' := fun v H' pg' x hpg N' d' =>
      q_when (et_B (ev_isN (ev_var rfl))) (fun _ H1 e1 => s_ret (ev_var rfl) fun H2 e2 => q v H2 pg' (x.trans (Xc.of (e1.trans e2))) hpg (N'.mono (e1.trans e2)) (d'.mono (e1.trans e2))) (fun hb => by simp at hb)
    -- behind the try, a NotNow caught
    have refused : ∀ (d : Addr) (H' : Hp), G.ph ≠ wants b → H d = none → Ex H H' → H' d = some (.xd [("word", .str G.ph.w)]) → wKeep (fun cls => PySem.W.exmAny K cls [.ref CN, .ref CR]) 5 (fun _ _ _ => tAsg (tVar 5) (gName 4)) { nx := tailR K CN { nx := fun _ H' => Q .non H', rt := Q }, rt := Q } (.ref CN) (some d) [some (.ref g), some (.str (wordB b)), some (.ref l), some .non, some .non, none] H' := fun d H' ne nd e gd => by
      refine ⟨exm, fun a na => ⟨_, rfl, ?_⟩⟩
      have nad : d ≠ a := fun z => by rw [z, na] at gd; cases gd
      show tailR K CN _ [some (.ref g), some (.str (wordB b)), some (.ref l), some .non, some (.ref a), none] (upd H' a (exk a (.ref CN) (some d)))
      have ea : upd H' a (exk a (.ref CN) (some d)) a = some (exk a (.ref CN) (some d)) := upd_same
      have ed : upd H' a (exk a (.ref CN) (some d)) d = some (.xd [("word", .str G.ph.w)]) := by rw [upd_ne nad]; exact gd
      have isk : ∀ (c : V) (u : Value) (H1 : Hp), Ex (upd H' a (exk a (.ref CN) (some d))) H1 → ClsV c u → PySem.W.kitOne K (.ref CN) u = some true → Ev (tCB (rKis K) (tCons (tVar 4) (tCons (tC c) tNil))) [some (.ref g), some (.str (wordB b)), some (.ref l), some .non, some (.ref a), none] H1 (.bl true) := fun c u H1 e1 hc hk H2 e2 Q2 q2 =>
        ⟨.ref a, rfl, a, CN, some d, c, u, true, rfl, hc, e2 _ _ (e1 _ _ ea), fun dx hdx => ⟨_, by cases hdx; exact e2 _ _ (e1 _ _ ed)⟩, XN, hk, q2 H2 (Ex.refl H2)⟩
      refine q_when (et_B (ev_isN (ev_var rfl))) (fun hb => by simp at hb) (fun _ H1 e1 => ?_)
      have fin : EvX (tIf (tAnd (tB (tCB (rKis K) (tCons (tVar 4) (tCons (tC (.ref CN)) tNil)))) (tB (tCB (rKis K) (tCons (tVar 4) (tCons (tC (.ty "RuntimeError")) tNil))))) (tTup (tCons (tC (.str "refused")) (tCons (tKget CN "word" (tVar 4)) tNil))) (tC (.str "other"))) [some (.ref g), some (.str (wordB b)), some (.ref l), some .non, some (.ref a), none] H1 (.tuple [.str "refused", .str G.ph.w]) := by
        refine ex_if (et_and (et_B (isk _ _ H1 e1 (.own CN) kit1)) fun _ => et_B (isk _ _ H1 e1 (.ty _) kit2)) (fun _ => ?_) (fun hb => by simp at hb)
        refine ex_tupA (xa_cons (ev_x ev_c (.str _)) (xa_cons (ev_x (v := .str G.ph.w) (fun H2 e2 Q2 q2 => ⟨⟨.ref a, rfl, a, d, _, _, rfl, e2 _ _ (e1 _ _ ea), e2 _ _ (e1 _ _ ed), rfl, q2 H2 (Ex.refl H2)⟩⟩) (.str _)) xa_nil)) (by show 2 ≤ 100000; omega)
      refine s_retX fin fun v H2 e2 dv => q v H2 pg (Xc.of (e.trans ((Ex.new na).trans (e1.trans e2)))) (.inl rfl) ?_ ?_
      · unfold gDo
        rw [if_neg ne]
        exact N.mono (e.trans ((Ex.new na).trans (e1.trans e2)))
      · unfold gTold
        rw [if_neg ne]
        exact dv
    refine et_is (et_test (ev_op (ev_var rfl) ev_c (rv_eq rfl))) (wordB_eq b) _ (Ex.refl _) _ fun H1 e1' => ?_
    have e1 := e00.trans e1'
    have N1 := N.mono e1
    cases b with
    | true =>
      refine iteT ?_
      refine ef_methX (ev_var rfl) (e1 _ _ h1) rfl (ea_cons (ev_var rfl) ea_nil) fun H2 e2 => ⟨g, pg, l, G, ps, rfl, N1.mono e2, e2 _ _ (e1 _ _ hl), hz, fun hr' H' pg' x hpg N' => ?_, fun hr' d H' nd' e' gd => ?_⟩
      · refine told _ H' pg' ((Xc.of (e1.trans e2)).trans x) (.inr (fresh_back (e1.trans e2) hpg)) ?_ ?_
        · unfold gDo
          rw [if_pos (show G.ph = wants true from hr'), if_pos rfl]
          exact N'
        · unfold gTold
          rw [if_pos (show G.ph = wants true from hr'), if_pos rfl]
          exact .int _
      · exact refused d H' hr' (fresh_back (e1.trans e2) nd') ((e1.trans e2).trans e') gd
    | false =>
      refine iteF ?_
      refine ef_methX (ev_var rfl) (e1 _ _ h1) rfl ea_nil fun H2 e2 => ⟨g, pg, G, rfl, N1.mono e2, fun hr' H' x N' => ?_, fun hr' d H' nd' e' gd => ?_⟩
      · refine told _ H' pg ((Xc.of (e1.trans e2)).trans x) (.inl rfl) ?_ ?_
        · unfold gDo
          rw [if_pos (show G.ph = wants false from hr'), if_neg (by decide)]
          exact N'
        · unfold gTold
          rw [if_pos (show G.ph = wants false from hr'), if_neg (by decide)]
          exact .non
      · exact refused d H' hr' (fresh_back (e1.trans e2) nd') ((e1.trans e2).trans e') gd
theorem ex_pairS {σ : L2.St} {H : Hp} {tb : TE} {k z : Str} (h : Ev tb σ H (.str z)) : EvX (tTup (tCons (tC (.str k)) (tCons tb tNil))) σ H (.tuple [.str k, .str z]) :=
  ex_tupA (xa_cons (ev_x ev_c (.str _)) (xa_cons (ev_x h (.str _)) xa_nil)) (by show 2 ≤ 100000; omega)
theorem q_dputL {σ : L2.St} {H : Hp} {D : Ends} {tz : TS} {te td tk : TE} {d : Addr} {kvs : List (Key × V)} {xs : List V} {ky : Key} (hz : kvs.length < 100000) (hv : EvL te σ H xs) (hd : Ev td σ H (.ref d)) (hk : Ev tk σ H (kV ky)) (e : H d = some (.dK kvs))
    (k : ∀ p H1, H p = none → Ex H H1 → H1 p = some (.lst xs) → tz D σ (upd H1 d (.dK (putK kvs ky (.ref p))))) : tSeq (sDPut td tk te) tz D σ H :=
  hv H (Ex.refl H) _ fun p H1 np e1 gp => hd H1 e1 _ fun H2 e2 => hk H2 (e1.trans e2) _ fun H3 e3 => ⟨d, _, rfl, DPut.k (((e1.trans e2).trans e3) _ _ e) (sz_lt hz), k p H3 np ((e1.trans e2).trans e3) (e3 _ _ (e2 _ _ gp))⟩
theorem q_parXV {σ : L2.St} {H : Hp} {D : Ends} {tz : TS} {ta tb : TE} {i j : Nat} {d : PyData} {v : V} (h1 : EvX ta σ H d) (h2 : ∀ H1, Ex H H1 → Ev tb σ H1 v) (k : ∀ u H1, Ex H H1 → Dx H1 u d → tz D ((σ.set i (some u)).set j (some v)) H1) : tSeq (tPar i j (tCons ta (tCons tb tNil))) tz D σ H :=
  h1 H (Ex.refl H) _ fun u H1 e1 du => h2 H1 e1 H1 (Ex.refl H1) _ fun H2 e2 => ⟨u, v, rfl, k u H2 (e1.trans e2) (du.mono e2)⟩
theorem ph_w (a b : Ph) : decide (V.str a.w = V.str b.w) = decide (a = b) := ph_ne a b
theorem wants_w (b : Bool) : V.str (wants b).w = if b = true then V.str "runs" else V.str "frozen" := by cases b <;> rfl
theorem Dx.xc {M : List Addr} {H H' : Hp} (x : Xc M H H') {v : V} : ∀ {d : PyData}, (∀ a ∈ M, ∀ o, H a = some o → (∀ xs, o ≠ .tup xs) ∧ ∀ xs, o ≠ .lst xs) → Dx H v d → Dx H' v d := by
  intro d hM h
  have s1 : ∀ b xs, H b = some (.lst xs) → H' b = some (.lst xs) := fun b xs e => x b _ (fun m => (hM b m _ e).2 xs rfl) e
  have s2 : ∀ b xs, H b = some (.tup xs) → H' b = some (.tup xs) := fun b xs e => x b _ (fun m => (hM b m _ e).1 xs rfl) e
  have go : ∀ {v : V} {d : PyData}, Dx H v d → Dx H' v d := by
    intro v d h
    refine Dx.rec (motive_1 := fun v d _ => Dx H' v d) (motive_2 := fun vs ds _ => DxAll H' vs ds) .non (fun b => .bl b) (fun i => .int i) (fun s => .str s) (fun e _ ih => .lst (s1 _ _ e) ih) (fun e _ ih => .tup (s2 _ _ e) ih) .nil (fun _ _ i1 i2 => .cons i1 i2) h
  exact go h
theorem ok_Begin (F : Fun K "_law_begin" "_law_begin" sBegin f fd) (G__law_refused : Kf P w K mg base 4 "_law_refused" ["_law_giver", "_law_word", "_law_pieces"] (spRefused C)) (G__law_same : Kf P w K mg base 5 "_law_same" ["_law_found", "_law_due"] (spSame 5)) (m_list : mg "list" = none) :
    FnOk P w K mg base CX0 6 f fd ["_law_mine", "_law_giver", "_law_word", "_law_pieces"] (spBegin C) := by
  refine F.ok scBegin (fun vs H Q E h => ?_) (fun cdv A outer s H vs Q E hr h => ?_)
  · obtain ⟨m, g, pg, l, p, b, G, ps, rfl, _⟩ := h
    rfl
  · obtain ⟨m, g, pg, l, p, b, G, ps, rfl, N, NG, hl, hz, q⟩ := h
    have nd := scBegin.nd
    have hu := hu_of hr
    refine ⟨_, (pss_cons (ps_par (i := 4) (j := 5) (by rfl) nd rfl rfl (by decide) rfl rfl (pa_cons (pe_tup (pa_cons pe_str (pa_cons (pe_dget hu (pv 0) pe_str (fun _ _ => rfl)) pa_nil))) (pa_cons (pe_ifExp (pt_cmpR op_eq (pv 2) pe_str (nomark _)) pe_str pe_str) pa_nil)) (by rfl))
      (pss_cut (ps_if (pt_cmpR op_eq (pe_dget hu (pv 0) pe_str (fun _ _ => rfl)) (pv 5) (nomark _)) (pss_cons (ps_set (i := 4) nd rfl (by first | exact .inl rfl | exact .inr rfl) pe_non)
      (pss_cons (ps_dput hu (pv 0) pe_str (pe_ifExp (pt_cmpR op_eq (pv 2) pe_str (nomark _)) pe_str pe_str) rfl)
      (pss_one (ps_if (pt_cmpR op_eq (pv 2) pe_str (nomark _)) (pss_cons (ps_dput hu (pv 0) pe_str (pe_callTy call_list_of (by rfl) m_list (by decide +kernel) (pa_cons (pv 3) pa_nil)) rfl)
      (pss_cons (ps_dput hu (pv 0) pe_str (pe_op op_add (pe_dget hu (pv 0) pe_str (fun _ _ => rfl)) pe_int) rfl)
      (pss_one (ps_set (i := 4) nd rfl (by first | exact .inl rfl | exact .inr rfl) (pe_dget hu (pv 0) pe_str (fun _ _ => rfl)))))) pss_nil)))) pss_nil)
      (pss_one (ps_ret (pe_fn G__law_same (hr.mono (by decide)) (pa_cons (pe_fn G__law_refused (hr.mono (by decide)) (pa_cons (pv 1) (pa_cons (pv 2) (pa_cons (pv 3) pa_nil)))) (pa_cons (pv 4) pa_nil))))))), ?_⟩
    have nm : m ≠ g := fun z => by obtain ⟨dx, h1, h2⟩ := NG.is; have := N.is; rw [z, h1] at this; cases this
    have nl : l ≠ m := fun z => by rw [z, N.is] at hl; cases hl
    have np : p ≠ m := fun z => by have := N.pcs; rw [z, N.is] at this; cases this
    have wd : ∀ H1 : Hp, Ev (tIf (tTest (tOp rEq (tVar 2) (tC (.str "freeze")))) (tC (.str "runs")) (tC (.str "frozen"))) [some (.ref m), some (.ref g), some (.str (wordB b)), some (.ref l), none, none] H1 (.str (wants b).w) := fun H1 =>
      ev_if (et_is (et_test (ev_op (ev_var rfl) ev_c (rv_eq rfl))) (wordB_eq b)) (fun hb => by subst hb; exact ev_c) (fun hb => by subst hb; exact ev_c)
    refine q_parXV (ex_pairS (mine_ev (ev_var rfl) N).1) (fun H1 _ => wd H1) fun v H2 e2 dv => ?_
    have e1 := Ex.refl H
    have N2 := N.mono (e1.trans e2)
    refine q_cut (M := fun σ G2 => ∃ u p', σ = [some (.ref m), some (.ref g), some (.str (wordB b)), some (.ref l), some u, some (.str (wants b).w)] ∧ MineAt G2 m p' (gDo b G ps) ∧ Xc [m] H2 G2 ∧ Dx G2 u (gTold b G) ∧ (p' = p ∨ H p' = none)) ?_ ?_
    · refine s_when (et_is (et_test (ev_op (mine_ev (ev_var rfl) N2).1 (ev_var rfl) (rv_eq rfl))) (ph_ne G.ph (wants b))) (fun hb H3 e3 => ?_) (fun hb H3 e3 => ?_)
      · have hb' : G.ph = wants b := of_decide_eq_true hb
        have N3 := N2.mono e3
        refine q_asg ev_c fun H4 e4 => ?_
        have N4 := N3.mono e4
        have fz : Ev (tIf (tTest (tOp rEq (tVar 2) (tC (.str "freeze")))) (tC (.str "frozen")) (tC (.str "runs"))) [some (.ref m), some (.ref g), some (.str (wordB b)), some (.ref l), some .non, some (.str (wants b).w)] H4 (.str (if b = true then Ph.frozen else Ph.runs).w) :=
          ev_if (et_is (et_test (ev_op (ev_var rfl) ev_c (rv_eq rfl))) (wordB_eq b)) (fun hb => by subst hb; exact ev_c) (fun hb => by subst hb; exact ev_c)
        refine q_dput (ky := Sum.inr "phase") (by show 4 < 100000; omega) fz (ev_var rfl) ev_c N4.is fun H5 e5 => ?_
        have x5 : Xc [m] H2 (upd H5 m (HO.dK (putK (mFs G p) (Sum.inr "phase") (V.str (if b = true then Ph.frozen else Ph.runs).w)))) := (Xc.of (e3.trans (e4.trans e5))).put List.mem_cons_self
        cases b with
        | false =>
          refine s_when (et_is (et_test (ev_op (ev_var rfl) ev_c (rv_eq rfl))) (wordB_eq false)) (fun hb => by cases hb) (fun _ H6 e6 => ⟨.non, p, rfl, ?_, x5.trans (Xc.of e6), ?_, .inl rfl⟩)
          · unfold gDo
            rw [if_pos hb', if_neg (by decide)]
            exact ⟨e6 _ _ upd_same, e6 _ _ (by rw [upd_ne np]; exact e5 _ _ N4.pcs)⟩
          · unfold gTold
            rw [if_pos hb', if_neg (by decide)]
            exact .non
        | true =>
          refine s_when (et_is (et_test (ev_op (ev_var rfl) ev_c (rv_eq rfl))) (wordB_eq true)) (fun _ H6 e6 => ?_) (fun hb => by cases hb)
          have hl6 : H6 l = some (.lst (ps.map V.str)) := e6 _ _ (by rw [upd_ne nl]; exact e5 _ _ (e4 _ _ (e3 _ _ (e2 _ _ (e1 _ _ hl)))))
          refine q_dputL (ky := Sum.inr "pieces") (by show 4 < 100000; omega) (el_list (K := K) (ev_var rfl) (sq_of hl6)) (ev_var rfl) ev_c (e6 _ _ upd_same) fun p' H7 np' e7 gp' => ?_
          have np2 : p' ≠ m := fun z => by rw [z] at np'; have := e6 _ _ (upd_same (H := H5) (a := m) (o := HO.dK (putK (mFs G p) (Sum.inr "phase") (V.str (if true = true then Ph.frozen else Ph.runs).w)))); rw [np'] at this; cases this
          refine q_dput (ky := Sum.inr "many") (v := .int ((G.turn + 1 : Nat) : Int)) (by show 4 < 100000; omega) (ev_op (ev_dgetS (v := .int (G.turn : Int)) (ev_var rfl) ev_c upd_same rfl) ev_c rv_I0) (ev_var rfl) ev_c upd_same fun H8 e8 => ?_
          refine s_asg (ev_dgetS (v := .int ((G.turn + 1 : Nat) : Int)) (ev_var rfl) ev_c upd_same rfl) fun H9 e9 => ⟨_, p', rfl, ?_, ?_, ?_, .inr ?_⟩
          · unfold gDo
            rw [if_pos hb', if_pos rfl]
            refine ⟨e9 _ _ upd_same, e9 _ _ ?_⟩
            rw [upd_ne np2]
            exact e8 _ _ (by rw [upd_ne np2]; exact gp')
          · exact (x5.trans (Xc.of e6)).trans ((((Xc.of e7).put List.mem_cons_self).trans ((Xc.of e8).put List.mem_cons_self)).trans (Xc.of e9))
          · unfold gTold
            rw [if_pos hb', if_pos rfl]
            exact .int _
          · have z := fresh_back e6 np'
            rw [upd_ne np2] at z
            exact fresh_back (e2.trans (e3.trans (e4.trans e5))) z
      · have hb' : G.ph ≠ wants b := of_decide_eq_false hb
        refine ⟨v, p, rfl, ?_, Xc.of e3, ?_, .inl rfl⟩
        · unfold gDo
          rw [if_neg hb']
          exact N2.mono e3
        · unfold gTold
          rw [if_neg hb']
          exact dv.mono e3
    · rintro σ G3 ⟨u, p', rfl, N3, x3, du, hp'⟩
      have xm : Xc [m] H G3 := (Xc.of (e1.trans e2)).trans x3
      obtain ⟨dx, h1, h2⟩ := NG.is
      have npg : pg ≠ m := fun z => by rw [z, N.is] at h2; cases h2
      have NG3 : GvAt G3 C g pg G := ⟨⟨dx, xm _ _ (fun z => nm (List.mem_singleton.mp z).symm) h1, xm _ _ (fun z => npg (List.mem_singleton.mp z)) h2⟩⟩
      have hl3 : G3 l = some (.lst (ps.map V.str)) := xm _ _ (fun z => nl (List.mem_singleton.mp z)) hl
      show tCall (spRefused C) [] E0 _ _ G3 _
      refine ef_call (ea_cons (ev_var rfl) (ea_cons (ev_var rfl) (ea_cons (ev_var rfl) ea_nil))) fun H4 e4 => ⟨g, pg, l, b, G, ps, rfl, NG3.mono e4, e4 _ _ hl3, hz, fun v5 H5 pg5 x5 hpg5 NG5 d5 => ?_⟩
      refine ⟨_, rfl, v5, u, gTold b G, rfl, d5, ?_, ?_, fun H6 s6 => ?_⟩
      · refine Dx.xc x5 (fun a ma o ho => ?_) (du.mono e4)
        rw [List.mem_singleton.mp ma] at ho
        have ho' := e4 _ _ (NG3.is.choose_spec.1)
        rw [ho'] at ho
        cases ho
        exact ⟨fun xs z => (by cases z), fun xs z => (by cases z)⟩
      · unfold gTold
        split
        · split <;> simp [Sh]
        · simp [Sh]
      · have ng : m ≠ g := nm
        have ngp : p' ≠ g := fun z => by
          have a1 := N3.pcs
          have a2 := NG3.is.choose_spec.1
          rw [z, a2] at a1
          cases a1
        have hpg6 : pg5 = pg ∨ H pg5 = none := hpg5.imp id fun z => by
          have z1 := fresh_back e4 z
          by_cases zm : pg5 = m
          · rw [zm, N3.is] at z1; cases z1
          · cases w : H pg5 with
            | none => rfl
            | some o => rw [xm _ _ (fun y => zm (List.mem_singleton.mp y)) w] at z1; cases z1
        refine q H6 p' pg5 ?_ hp' hpg6 ⟨?_, ?_⟩ (NG5.mono s6)
        · intro a o na ha
          have na1 : a ∉ [m] := fun z => na (by rw [List.mem_singleton.mp z]; exact List.mem_cons_self)
          have na2 : a ∉ [g] := fun z => na (by rw [List.mem_singleton.mp z]; exact List.mem_cons_of_mem _ List.mem_cons_self)
          exact s6 _ _ (x5 _ _ na2 (e4 _ _ (xm _ _ na1 ha)))
        · exact s6 _ _ (x5 _ _ (fun z => ng (List.mem_singleton.mp z)) (e4 _ _ N3.is))
        · exact s6 _ _ (x5 _ _ (fun z => ngp (List.mem_singleton.mp z)) (e4 _ _ N3.pcs))
end
end KM
set_option Elab.async false
set_option linter.all false
set_option maxRecDepth 100000
set_option maxHeartbeats 4000000
namespace Evl
open PySem L2
/-- how many turns range(0, n, k) has -/
def turns (n k : Nat) : Nat := (n + k - 1) / k
theorem rg3 {n k : Nat} (hk : 1 ≤ k) (hk2 : k ≤ 1000) (hn : n ≤ 100000) : RgC 0 (n : Int) (k : Int) (turns n k) := by
  have e : Builtin.Range.rangeSize 0 (n : Int) (k : Int) = ((turns n k : Nat) : Int) := by
    rw [PyProof.Rows.rangeSize_pos (by omega) (by omega)]
    unfold turns
    rw [Int.natCast_ediv]
    congr 1
    omega
  have le : turns n k ≤ n + k := by
    unfold turns
    exact Nat.le_trans (Nat.div_le_self _ _) (by omega)
  refine ⟨by omega, by omega, ?_, e⟩
  unfold Builtin.Range.small
  rw [e]
  have kp : (k : Int) > 0 := by omega
  simp only [Builtin.Range.rangeFitsLong, Bool.and_eq_true, Bool.or_eq_true, decide_eq_true_eq, beq_iff_eq, kp, if_true]
  omega
section
variable {K : PySem.W.Frag} {σ : L2.St} {H H' : Hp} {ta : TA} {te : TE}
theorem el_lcR3 {j : Nat} {vs : List Nat} {n k : Nat} (v : Nat → V) (h : EvA ta σ H [.int 0, .int (n : Int), .int (k : Int)]) (hk : 1 ≤ k) (hk2 : k ≤ 1000) (hn : n ≤ 20000) (hw : ∀ x, wipe ((wipe σ vs).set j (some x)) vs = wipe σ vs)
    (he : ∀ (i : Nat) H1, Ex H H1 → i < turns n k → Ev te ((wipe σ vs).set j (some (.int ((i * k : Nat) : Int)))) H1 (v i)) :
    EvL (tLc (iRng3 ta) (gName j) tYes te vs) σ H ((List.range (turns n k)).map v) := fun H0 e Q q => h H0 e _ fun H1 e1 => ⟨0, n, k, turns n k, rfl, rg3 hk hk2 (by omega), fun Dl hD => by
  have le : turns n k ≤ n + k := by
    unfold turns
    exact Nat.le_trans (Nat.div_le_self _ _) (by omega)
  have all : given (turns n k) (fun _ => true) v = (List.range (turns n k)).map v := by unfold given; rw [filter_all]
  refine lc_it (walk_rangeC (lo := 0) (c := (k : Int)) (n := turns n k)) (Cw H1 (fun _ => true) v Dl) ⟨hD, Ex.new hD, upd_same⟩ (fun _ _ _ _ => trivial) ?_ fun G p => ?_
  · rintro i x G _ hi p ⟨rfl, rfl⟩
    have e2 : (0 : Int) + (i : Nat) * (k : Int) = ((i * k : Nat) : Int) := by rw [Int.zero_add]; exact (Int.natCast_mul i k).symm
    refine ⟨hw _, ?_⟩
    have z := he i H1 (e.trans e1) hi
    rw [← e2] at z
    exact cw_turn (f := fun _ => true) p (by omega) et_yes (fun _ => z)
  · rw [← all] at q
    exact q Dl G (fresh_back e1 p.1) (e1.trans p.2.1) p.2.2⟩
theorem ev_slS {tz tl th : TE} {z : Str} {lo hi : Int} (h : Ev tz σ H (.str z)) (h1 : Ev tl σ H (.int lo)) (h2 : Ev th σ H (.int hi)) (hz : z.length ≤ 100000) : Ev (tSl rSlS tz (tPart tl) (tPart th)) σ H (.str (cutS z (some lo) (some hi))) := fun H1 e Q q =>
  h H1 e _ fun H2 e2 => h1 H2 (e.trans e2) _ fun H3 e3 => ⟨lo, rfl, h2 H3 ((e.trans e2).trans e3) _ fun H4 e4 => ⟨hi, rfl, z, rfl, sz_of hz, q H4 (e2.trans (e3.trans e4))⟩⟩
theorem ev_lenS {tz : TE} {z : Str} (h : Ev tz σ H (.str z)) (hz : z.length ≤ 100000) : Ev (tCB (fun xs H Q => ∃ z, xs = [.str z] ∧ z.length ≤ sizeLine ∧ Q (.int z.length) H) (tCons tz tNil)) σ H (.int (z.length : Int)) := fun H1 e Q q =>
  h H1 e _ fun H2 e2 => ⟨z, rfl, sz_of hz, q H2 e2⟩
end
end Evl
namespace KM
open PySem PySem.Spec PyProof.Rows L2 Evl KB
/-- the pieces of a text -/
def cutP (z : Str) (k n : Nat) : List Str := (List.range n).map fun i => cutS z (some ((i * k : Nat) : Int)) (some (((i * k : Nat) : Int) + (k : Int)))
def cutOf (z : Str) (k : Nat) : List Str := cutP z k (turns (max 1 z.length) k)
theorem cut_empty (lo hi : Option Int) : cutS (("" : String) : Str) lo hi = "" := by
  have h := cutS_length (("" : String) : Str) lo hi
  have h0 : (("" : String) : Str).length = 0 := by decide +kernel
  rw [h0] at h
  have e : ∀ a : Str, a.length ≤ 0 → a = ("" : String) := fun a ha => by
    obtain ⟨c⟩ := a
    have : c.size = 0 := Nat.le_zero.mp ha
    have z := Array.eq_empty_of_size_eq_zero this
    subst z
    decide +kernel
  exact e _ h
theorem turns_pos {n k : Nat} (hn : 1 ≤ n) (hk : 1 ≤ k) : 1 ≤ turns n k := by
  unfold turns
  exact (Nat.le_div_iff_mul_le (by omega)).mpr (by omega)
theorem turns_le {n k : Nat} (hn : 1 ≤ n) (hk : 1 ≤ k) : turns n k ≤ n := by
  unfold turns
  exact (Nat.div_le_iff_le_mul_add_pred (by omega)).mpr (by
    have : n * 1 ≤ k * n := by rw [Nat.mul_comm k n]; exact Nat.mul_le_mul_left n hk
    omega)
theorem cutOf_empty {k : Nat} (hk : 1 ≤ k) : cutOf (("" : String) : Str) k = [(("" : String) : Str)] := by
  have h0 : (("" : String) : Str).length = 0 := by decide +kernel
  have t1 : turns (max 1 (("" : String) : Str).length) k = 1 := by
    rw [h0]
    have a := turns_pos (n := 1) (k := k) (Nat.le_refl 1) hk
    have b := turns_le (n := 1) (k := k) (Nat.le_refl 1) hk
    show turns 1 k = 1
    omega
  unfold cutOf cutP
  rw [t1]
  show [cutS _ _ _] = _
  rw [cut_empty]
theorem cutOf_ok {z : Str} {k : Nat} (hk : 1 ≤ k) (hz : z.length ≤ 20) (cp : cpOk z) : cutOf z k ≠ [] ∧ (cutOf z k).length ≤ 20 ∧ ∀ s ∈ cutOf z k, okS s := by
  have a := turns_pos (n := max 1 z.length) (k := k) (by omega) hk
  have b := turns_le (n := max 1 z.length) (k := k) (by omega) hk
  have len : (cutOf z k).length = turns (max 1 z.length) k := by unfold cutOf cutP; rw [List.length_map, List.length_range]
  refine ⟨fun e => ?_, by omega, fun s m => ?_⟩
  · rw [e] at len
    simp at len
    omega
  · obtain ⟨i, _, rfl⟩ := List.mem_map.mp m
    exact ⟨cp_cut cp _ _, Nat.le_trans (cutS_length z _ _) (by omega)⟩
abbrev sCut : Stmt := topS 4
abbrev nCut : List Str := ["text", "size", "at"]
theorem scCut : FnScope nCut ["text", "size"] (defScope sCut) := ⟨rfl, rfl, rfl, by decide +kernel, rfl, by decide +kernel, by decide +kernel⟩
abbrev sLCut : Stmt := topS 15
abbrev nLCut : List Str := ["_law_words", "_law_size", "_law_at"]
theorem scLCut : FnScope nLCut ["_law_words", "_law_size"] (defScope sLCut) := ⟨rfl, rfl, rfl, by decide +kernel, rfl, by decide +kernel, by decide +kernel⟩
def spCut : Sp := fun vs H Q _ => ∃ z k, vs = [.str z, .int ((k : Nat) : Int)] ∧ 1 ≤ k ∧ k ≤ 1000 ∧ z.length ≤ 1000 ∧ RetL ((cutOf z k).map V.str) H Q
section
variable {P : Program} {w : World} {K : PySem.W.Frag} {mg : Str → Option Value} {base : Heap} {C CN CR f : Addr} {fd : FuncData}
theorem cut_map (z : Str) (k n : Nat) : (List.range n).map (fun i => V.str (cutS z (some ((i * k : Nat) : Int)) (some (((i * k : Nat) : Int) + (k : Int))))) = (cutP z k n).map V.str := by
  unfold cutP
  rw [List.map_map]
  rfl
theorem ok_Cut (F : Fun K "cut" "cut" sCut f fd) (m_range : mg "range" = none) (m_len : mg "len" = none) : FnOk P w K mg base CX0 1 f fd ["text", "size"] spCut := by
  refine F.ok scCut (fun vs H Q E h => ?_) (fun cdv A outer s H vs Q E hr h => ?_)
  · obtain ⟨z, k, rfl, _⟩ := h
    rfl
  · obtain ⟨z, k, rfl, hk, hk2, hz, q⟩ := h
    have nd := scCut.nd
    refine ⟨_, (pss_cons (ps_if (pt_cmpR op_eq (pv 0) pe_str (nomark _)) (pss_one (ps_ret (pe_lst (pa_cons pe_str pa_nil)))) pss_nil)
      (pss_one (ps_ret (pe_lc (own := [("at", 2)]) (g := gName 2) (tt := tYes) (te := tSl rSlS (tVar 0) (tPart (tVar 2)) (tPart (tOp (rI0 fun i j => .int (i + j)) (tVar 2) (tVar 1)))) rfl nd (pi_range3 (by rfl) m_range (pa_cons pe_int (pa_cons (pe_callB call_len_str (by rfl) m_len (by decide +kernel) (pa_cons (pv 0) pa_nil)) (pa_cons (pv 1) pa_nil)))) (blkOk_by (N := nCut) (sc := defScope sCut) (by decide +kernel)) (fun _ _ _ _ _ => (pg_name (i := 2) nd rfl (.inl rfl))) (fun _ _ _ _ _ => pts_nil) (fun _ _ _ _ _ => (pe_slice sl_str (pv 0) (po_some (pv 2)) (po_some (pe_op op_add (pv 2) (pv 1))))))))), ?_⟩
    refine q_when (et_test (ev_op (ev_var rfl) ev_c (rv_eq rfl))) (fun hb H1 e1 => ?_) (fun hb H1 e1 => ?_)
    · have ez : z = ("" : String) := by have := of_decide_eq_true hb; injection this
      subst ez
      refine s_retL (el_lst (ea_cons ev_c ea_nil) (by show 1 ≤ 100000; omega)) fun p H2 np e2 gp => q p H2 (fresh_back e1 np) (e1.trans e2) ?_
      rw [cutOf_empty hk]
      exact gp
    · have ne : z.length ≠ 0 := fun e0 => by
        have : z = ("" : String) := by
          obtain ⟨c⟩ := z
          have e1 : c.size = 0 := e0
          have z := Array.eq_empty_of_size_eq_zero e1
          subst z
          decide +kernel
        rw [this] at hb
        exact absurd hb (by decide +kernel)
      refine s_retL (el_lcR3 (n := z.length) (k := k) (fun i => V.str (cutS z (some ((i * k : Nat) : Int)) (some (((i * k : Nat) : Int) + (k : Int))))) (ea_cons ev_c (ea_cons (ev_lenS (ev_var rfl) (by omega)) (ea_cons (ev_var rfl) ea_nil))) hk hk2 (by omega) (fun _ => rfl) (fun i H2 e2 hi => ev_slS (ev_var rfl) (ev_var rfl) (ev_op (ev_var rfl) (ev_var rfl) rv_I0) (by omega))) fun p H2 np e2 gp => q p H2 (fresh_back e1 np) (e1.trans e2) ?_
      rw [cut_map] at gp
      unfold cutOf
      rw [show max 1 z.length = z.length by omega]
      exact gp
theorem ok_LCut (F : Fun K "_law_cut" "_law_cut" sLCut f fd) (m_range : mg "range" = none) (m_max : mg "max" = none) (m_len : mg "len" = none) : FnOk P w K mg base CX0 1 f fd ["_law_words", "_law_size"] spCut := by
  refine F.ok scLCut (fun vs H Q E h => ?_) (fun cdv A outer s H vs Q E hr h => ?_)
  · obtain ⟨z, k, rfl, _⟩ := h
    rfl
  · obtain ⟨z, k, rfl, hk, hk2, hz, q⟩ := h
    have nd := scLCut.nd
    refine ⟨_, (pss_one (ps_ret (pe_lc (own := [("_law_at", 2)]) (g := gName 2) (tt := tYes) (te := tSl rSlS (tVar 0) (tPart (tVar 2)) (tPart (tOp (rI0 fun i j => .int (i + j)) (tVar 2) (tVar 1)))) rfl nd (pi_range3 (by rfl) m_range (pa_cons pe_int (pa_cons (pe_callB (call_max2 rfl) (by rfl) m_max (by decide +kernel) (pa_cons pe_int (pa_cons (pe_callB call_len_str (by rfl) m_len (by decide +kernel) (pa_cons (pv 0) pa_nil)) pa_nil))) (pa_cons (pv 1) pa_nil)))) (blkOk_by (N := nLCut) (sc := defScope sLCut) (by decide +kernel)) (fun _ _ _ _ _ => (pg_name (i := 2) nd rfl (.inl rfl))) (fun _ _ _ _ _ => pts_nil) (fun _ _ _ _ _ => (pe_slice sl_str (pv 0) (po_some (pv 2)) (po_some (pe_op op_add (pv 2) (pv 1)))))))), ?_⟩
    have mx : (if ((z.length : Nat) : Int) > 1 then ((z.length : Nat) : Int) else 1) = ((max 1 z.length : Nat) : Int) := by split <;> omega
    refine s_retL (el_lcR3 (n := max 1 z.length) (k := k) (fun i => V.str (cutS z (some ((i * k : Nat) : Int)) (some (((i * k : Nat) : Int) + (k : Int))))) (ea_cons ev_c (ea_cons (ev_is (ev_max2 ev_c (ev_lenS (ev_var rfl) (by omega))) (congrArg V.int mx)) (ea_cons (ev_var rfl) ea_nil))) hk hk2 (by omega) (fun _ => rfl) (fun i H2 e2 hi => ev_slS (ev_var rfl) (ev_var rfl) (ev_op (ev_var rfl) (ev_var rfl) rv_I0) (by omega))) fun p H2 np e2 gp => q p H2 np e2 ?_
    rw [cut_map] at gp
    exact gp
end
end KM
set_option Elab.async false
set_option linter.all false
set_option maxRecDepth 100000
set_option maxHeartbeats 4000000
namespace KB
open PySem PySem.Spec PyProof.Rows L2 Evl
section
variable {K : PySem.W.Frag} {σ : L2.St} {H H' : Hp} {ta tb te : TE} {v : V} {C a dx : Addr} {m : Str} {fs : List (Str × V)} {sp : Sp} {E : XK} {d : PyData}
theorem ev_meth0 (ho : Ev ta σ H (.ref a)) (he : H a = some (.ins C dx fs)) (hl : fs.lookup m = none) (hs : SpV sp [.ref a] H v) : Ev (tMeth C m sp [] E ta tNil) σ H v := fun H1 e Q q =>
  ho H1 e _ fun H2 e2 => ⟨a, dx, fs, rfl, (e.trans e2) _ _ he, hl, hs H2 (e.trans e2) Q (fun H3 e3 => q H3 (e2.trans e3)) E⟩
theorem ex_meth0 (ho : Ev ta σ H (.ref a)) (he : H a = some (.ins C dx fs)) (hl : fs.lookup m = none) (hs : SpX sp [.ref a] H d) : EvX (tMeth C m sp [] E ta tNil) σ H d := fun H1 e Q q =>
  ho H1 e _ fun H2 e2 => ⟨a, dx, fs, rfl, (e.trans e2) _ _ he, hl, hs H2 (e.trans e2) Q (fun v H3 e3 g => q v H3 (e2.trans e3) g) E⟩
theorem ev_notInT {ds : List PyData} (h1 : EvX ta σ H d) (h2 : ∀ H1, Ex H H1 → EvX tb σ H1 (.tuple ds)) (sd : SeqAt.shaped d = true) (se : SeqAt.shaped (.tuple ds) = true) : Ev (tOp (rNotInT K) ta tb) σ H (.bl (!ds.any fun z => PyData.eqv z d)) := fun H1 e Q q =>
  h1 H1 e _ fun v H2 e2 dv => h2 H2 (e.trans e2) H2 (Ex.refl H2) _ fun u H3 e3 du => ⟨d, ds, (dv.mono e3).dp, du.dp, sd, se, q H3 (e2.trans e3)⟩
end
end KB
namespace KM
open PySem PySem.Spec PyProof.Rows L2 Evl KB
structure At (H : Hp) (CG CT g pg t dt m pm i di : Addr) (P : Nat → List Str) (G : Gv) (T : Tk) (L : List Msg) : Prop where
  gv : GvAt H CG g pg G
  tk : TkAt H CT t dt T
  mi : MineAt H m pm G
  it : ItsAt H i di T
  iv : Iv P G T L
  ok : ∀ t, ∀ s ∈ P t, okS s
theorem At.mono {H H' : Hp} {CG CT g pg t dt m pm i di : Addr} {P : Nat → List Str} {G : Gv} {T : Tk} {L : List Msg} (e : Ex H H') (h : At H CG CT g pg t dt m pm i di P G T L) : At H' CG CT g pg t dt m pm i di P G T L :=
  ⟨h.gv.mono e, h.tk.mono e, h.mi.mono e, h.it.mono e, h.iv, h.ok⟩
section
variable {P : Nat → List Str} {G : Gv} {T : Tk} {L : List Msg}
theorem kok (I : Iv P G T L) (ok : ∀ t, ∀ s ∈ P t, okS s) : KOk T.kept := by
  by_cases z : T.turn = 0
  · rw [(I.t0 z).1]
    exact ⟨List.Pairwise.nil, by decide, fun x m => nomatch m⟩
  · have h1 : 1 ≤ T.turn := by omega
    have tk := I.tk h1
    have few := (few_kept I h1).1
    have sz := I.sz T.turn
    refine ⟨tk.2.1, by omega, fun x m => ?_⟩
    have := ok T.turn x.2 (List.mem_of_getElem? (tk.2.2 x m))
    exact Nat.le_trans this.2 (by decide)
theorem pcs_len (I : Iv P G T L) : G.ph ≠ .runs → G.pcs.length ≤ 20 := fun h => by
  rcases I.g0 with g | ⟨_, g⟩
  · exact absurd g h
  · rw [g]; exact I.sz _
theorem lw_eq (I : Iv P G T L) : lw T = wholeB T := (whole_eq I).symm
theorem gm_len (I : Iv P G T L) : (gMsgs G).length ≤ 20 := by
  unfold gMsgs
  cases z : G.ph with
  | runs => simp
  | frozen =>
    dsimp only
    rw [pieces_len]
    exact pcs_len I (by rw [z]; intro w; cases w)
  | given => dsimp only; split <;> simp
theorem tm_len (T : Tk) : (tMsgs T).length ≤ 20 := by
  unfold tMsgs
  split
  · simp
  · split <;> simp
theorem run_turn (I : Iv P G T L) (h : T.run = true) : T.turn ≠ 0 := fun z => by
  have := (I.t0 z).2
  rw [h] at this
  cases this
theorem in_order (I : Iv P G T L) (h : wholeB T = true) : inOrder T.kept = P T.turn := by
  have e : asc ((T.kept.map (·.1)).map Int.ofNat) = (List.range (P T.turn).length).map Int.ofNat := by
    refine (asc_eq ?_ fun k => ?_).symm
    · refine List.Pairwise.map _ (fun a b hab => ?_) List.pairwise_lt_range
      have : a < b := hab
      show (a : Int) < (b : Int)
      omega
    · constructor
      · intro m
        obtain ⟨n, mn, rfl⟩ := List.mem_map.mp m
        exact List.mem_map.mpr ⟨n, (keys_perm I h n).mpr (List.mem_range.mp mn), rfl⟩
      · intro m
        obtain ⟨n, mn, rfl⟩ := List.mem_map.mp m
        exact List.mem_map.mpr ⟨n, List.mem_range.mpr ((keys_perm I h n).mp mn), rfl⟩
  unfold inOrder
  rw [e, List.map_map]
  exact text_of I h
end
def txtD (T : Tk) : PyData := if T.run = true then .str (Txt.join "" (inOrder T.kept)) else .none
theorem dx_txt (H : Hp) (T : Tk) : Dx H (textV T) (txtD T) := by
  unfold textV txtD
  split
  · exact .str _
  · exact .non
theorem sh_msgs {ms : List Msg} (h : ms.length ≤ 1000) : Sh 4 (.list (ms.map msgD)) := by
  refine ⟨by rw [List.length_map]; exact h, fun d m => ?_⟩
  obtain ⟨x, _, rfl⟩ := List.mem_map.mp m
  cases x <;> simp [msgD, Sh]
theorem shaped_l {ms : List Msg} (h : ∀ m ∈ ms, m.ok) : SeqAt.shaped (.list (ms.map msgD)) = true := by
  have a : PyData.canLayAll0 (ms.map msgD) = true ∧ PyData.depthAll (ms.map msgD) ≤ 10 := by
    induction ms with
    | nil => exact ⟨by simp [PyData.canLayAll0], by simp [PyData.depthAll]⟩
    | cons m r ih =>
      have i := ih fun x mx => h x (List.mem_cons_of_mem _ mx)
      have hm := SeqAt.canLay_of_shaped (shaped_m (h m List.mem_cons_self))
      have hd : (msgD m).depth ≤ 10 := by cases m <;> simp [msgD, PyData.depth, PyData.depthAll]
      refine ⟨?_, ?_⟩
      · rw [List.map_cons]
        simp only [PyData.canLayAll0, hm, i.1]
        rfl
      · rw [List.map_cons]
        simp only [PyData.depthAll]
        omega
  have d1 : PyData.depth (.list (ms.map msgD)) ≤ 64 := by simp only [PyData.depth]; omega
  have d2 : PyData.canLay0 (.list (ms.map msgD)) = true := by simp only [PyData.canLay0]; exact a.1
  show (PyData.canLay0 (.list (ms.map msgD)) && decide (PyData.depth (.list (ms.map msgD)) ≤ 64)) = true
  rw [d2, decide_eq_true d1]
  rfl
abbrev sKept : Stmt := topS 24
abbrev nKept : List Str := ["_law_giver", "_law_taker", "_law_mine", "_law_its", "_law_told", "_law_due"]
theorem scKept : FnScope nKept ["_law_giver", "_law_taker", "_law_mine", "_law_its"] (defScope sKept) := ⟨rfl, rfl, rfl, by decide +kernel, rfl, by decide +kernel, by decide +kernel⟩
def spKept (CG CT : Addr) : Sp := fun vs H Q _ => ∃ g pg t dt m pm i di P G T L, vs = [.ref g, .ref t, .ref m, .ref i] ∧ At H CG CT g pg t dt m pm i di P G T L ∧ G.pcs.length ≤ 1000 ∧ RetV (.bl true) H Q
section
variable {P : Program} {w : World} {K : PySem.W.Frag} {mg : Str → Option Value} {base : Heap} {CG CT f : Addr} {fd : FuncData}
theorem ok_KeptL (F : Fun K "_law_kept" "_law_kept" sKept f fd)
    (G_Giver_phase : Km P w K mg base 1 CG "phase" ["self"] (spGPhase CG)) (G_Giver_messages : Km P w K mg base 1 CG "messages" ["self"] (spGMs CG)) (G_Taker_messages : Km P w K mg base 2 CT "messages" ["self"] (spTMs CT)) (G_Taker_running : Km P w K mg base 1 CT "running" ["self"] (spTRun CT))
    (G__law_giver_sends : Kf P w K mg base 1 "_law_giver_sends" ["_law_mine"] spGSends) (G__law_taker_sends : Kf P w K mg base 2 "_law_taker_sends" ["_law_its"] spTSends) (G__law_text : Kf P w K mg base 1 "_law_text" ["_law_its"] spLText) (G__law_same : Kf P w K mg base 5 "_law_same" ["_law_found", "_law_due"] (spSame 5)) :
    FnOk P w K mg base CX0 6 f fd ["_law_giver", "_law_taker", "_law_mine", "_law_its"] (spKept CG CT) := by
  refine F.ok scKept (fun vs H Q E h => ?_) (fun cdv A outer s H vs Q E hr h => ?_)
  · obtain ⟨g, pg, t, dt, m, pm, i, di, PP, G, T, L, rfl, _⟩ := h
    rfl
  · obtain ⟨g, pg, t, dt, m, pm, i, di, PP, G, T, L, rfl, N, hz, q⟩ := h
    have nd := scKept.nd
    have hu := hu_of hr
    have hu5 : (A.deeper (envOfC "_law_kept" (defScope sKept) s.heap.objs.size f cdv)).units + 65 < cLine := by have := hr.un; omega
    refine ⟨_, (pss_cons (ps_set (i := 4) nd rfl (by first | exact .inl rfl | exact .inr rfl) (pe_lst (pa_cons (pe_mt0 (pv 0) G_Giver_phase (hr.mono (by decide))) (pa_cons (pe_mt0 (pv 0) G_Giver_messages (hr.mono (by decide))) (pa_cons (pe_mt0 (pv 1) G_Taker_messages (hr.mono (by decide))) (pa_cons (pe_mt0 (pv 1) G_Taker_running (hr.mono (by decide))) pa_nil))))))
      (pss_cons (ps_set (i := 5) nd rfl (by first | exact .inl rfl | exact .inr rfl) (pe_lst (pa_cons (pe_dget hu (pv 2) pe_str (fun _ _ => rfl)) (pa_cons (pe_fn G__law_giver_sends (hr.mono (by decide)) (pa_cons (pv 2) pa_nil)) (pa_cons (pe_fn G__law_taker_sends (hr.mono (by decide)) (pa_cons (pv 3) pa_nil)) (pa_cons (pe_ifExp (pt_val (pe_dget hu (pv 3) pe_str (fun _ _ => rfl))) (pe_fn G__law_text (hr.mono (by decide)) (pa_cons (pv 3) pa_nil)) pe_non) pa_nil))))))
      (pss_cons (ps_if (pt_not (pt_val (pe_fn G__law_same (hr.mono (by decide)) (pa_cons (pv 4) (pa_cons (pv 5) pa_nil))))) (pss_one (ps_ret pe_bl)) pss_nil)
      (pss_cons (ps_if (PW.pt (pw_and (pt_cmp (pc_notN (pe_mt0 (pv 1) G_Taker_running (hr.mono (by decide))))) (pw_and1 (pt_cmpR op_ne (pe_mt0 (pv 0) G_Giver_phase (hr.mono (by decide))) pe_str (nomark _))))) (pss_one (ps_ret pe_bl)) pss_nil)
      (pss_cons (ps_if (pt_cmpR op_ne (pe_mt0 (pv 0) G_Giver_phase (hr.mono (by decide))) pe_str (nomark _)) (pss_one (ps_ret pe_bl)) pss_nil)
      (pss_cons (ps_if (pt_cmpR (op_notInT hu5) (pe_mt0 (pv 1) G_Taker_messages (hr.mono (by decide))) (pe_tup (pa_cons (pe_lst (pa_cons (pe_tup (pa_cons pe_str (pa_cons (pe_dget hu (pv 2) pe_str (fun _ _ => rfl)) pa_nil))) pa_nil)) (pa_cons (pe_lst (pa_cons (pe_tup (pa_cons pe_str (pa_cons (pe_dget hu (pv 2) pe_str (fun _ _ => rfl)) pa_nil))) pa_nil)) pa_nil))) (by rfl)) (pss_one (ps_ret pe_bl)) pss_nil)
      (pss_one (ps_ret (pe_cmpR op_in_seq (pe_mt0 (pv 1) G_Taker_running (hr.mono (by decide))) (pe_tup (pa_cons pe_non (pa_cons (pe_join pe_str (pe_dget hu (pv 2) pe_str (fun _ _ => rfl))) pa_nil))) (by rfl)))))))))), ?_⟩
    have I := N.iv
    have lwT := lw_eq I
    have kk := kok I N.ok
    have gl := gm_len I
    have tl := tm_len T
    obtain ⟨dxg, hg1, hg2⟩ := N.gv.is
    obtain ⟨dxt, ht1⟩ := N.tk.is
    have cPh : ∀ H1, Ex H H1 → SpV (spGPhase CG) [.ref g] H1 (.str G.ph.w) := fun H1 e1 H2 e2 Q q E => ⟨g, pg, G, rfl, N.gv.mono (e1.trans e2), q⟩
    have cGm : ∀ H1, Ex H H1 → SpX (spGMs CG) [.ref g] H1 (.list ((gMsgs G).map msgD)) := fun H1 e1 H2 e2 Q q E => ⟨g, pg, G, rfl, N.gv.mono (e1.trans e2), hz, fun a H3 _ e3 da => q _ H3 e3 da⟩
    have cTm : ∀ H1, Ex H H1 → SpX (spTMs CT) [.ref t] H1 (.list ((tMsgs T).map msgD)) := fun H1 e1 H2 e2 Q q E => ⟨t, dt, T, rfl, N.tk.mono (e1.trans e2), run_turn I, fun a H3 _ e3 da => q _ H3 e3 da⟩
    have cTr : ∀ H1, Ex H H1 → SpV (spTRun CT) [.ref t] H1 (textV T) := fun H1 e1 H2 e2 Q q E => ⟨t, dt, T, rfl, N.tk.mono (e1.trans e2), kk, q⟩
    have cGs : ∀ H1, Ex H H1 → SpX spGSends ([.ref m] ++ []) H1 (.list ((gMsgs G).map msgD)) := fun H1 e1 H2 e2 Q q E => ⟨m, pm, G, rfl, N.mi.mono (e1.trans e2), hz, q⟩
    have cTs : ∀ H1, Ex H H1 → SpX spTSends ([.ref i] ++ []) H1 (.list ((tMsgs T).map msgD)) := fun H1 e1 H2 e2 Q q E => ⟨i, di, T, rfl, N.it.mono (e1.trans e2), lwT, q⟩
    have cTx : ∀ H1, Ex H H1 → SpV spLText ([.ref i] ++ []) H1 (.str (Txt.join "" (inOrder T.kept))) := fun H1 e1 H2 e2 Q q E => ⟨i, di, T, rfl, N.it.mono (e1.trans e2), kk, q⟩
    have ph : ∀ (σ : L2.St) (H1 : Hp), Ex H H1 → σ[0]? = some (some (.ref g)) → Ev (tMeth CG "phase" (spGPhase CG) [] E0 (tVar 0) tNil) σ H1 (.str G.ph.w) := fun σ H1 e1 h0 => ev_meth0 (ev_var h0) (e1 _ _ hg1) rfl (cPh H1 e1)
    have gm : ∀ (σ : L2.St) (H1 : Hp), Ex H H1 → σ[0]? = some (some (.ref g)) → EvX (tMeth CG "messages" (spGMs CG) [] E0 (tVar 0) tNil) σ H1 (.list ((gMsgs G).map msgD)) := fun σ H1 e1 h0 => ex_meth0 (ev_var h0) (e1 _ _ hg1) rfl (cGm H1 e1)
    have tm : ∀ (σ : L2.St) (H1 : Hp), Ex H H1 → σ[1]? = some (some (.ref t)) → EvX (tMeth CT "messages" (spTMs CT) [] E0 (tVar 1) tNil) σ H1 (.list ((tMsgs T).map msgD)) := fun σ H1 e1 h0 => ex_meth0 (ev_var h0) (e1 _ _ ht1) rfl (cTm H1 e1)
    have tr : ∀ (σ : L2.St) (H1 : Hp), Ex H H1 → σ[1]? = some (some (.ref t)) → Ev (tMeth CT "running" (spTRun CT) [] E0 (tVar 1) tNil) σ H1 (textV T) := fun σ H1 e1 h0 => ev_meth0 (ev_var h0) (e1 _ _ ht1) rfl (cTr H1 e1)
    refine q_asgX (ex_lstA (xa_cons (ev_x (ph _ H (Ex.refl H) rfl) (.str _)) (xa_cons (gm _ H (Ex.refl H) rfl) (xa_cons (tm _ H (Ex.refl H) rfl) (xa_cons (ev_x (tr _ H (Ex.refl H) rfl) (dx_txt H T)) xa_nil)))) (by show 4 ≤ 100000; omega)) fun v1 H1 e1 d1 => ?_
    have N1 := N.mono e1
    have tx : EvX (tIf (tB (tDGet (tVar 3) (tC (.str "runs")))) (tCall spLText [] E0 (tCons (tVar 3) tNil)) (tC .non)) [some (.ref g), some (.ref t), some (.ref m), some (.ref i), some v1, none] H1 (txtD T) := by
      refine ex_if (et_B (its_ev (ev_var rfl) N1.it).2.2.2) (fun hb => ?_) (fun hb => ?_)
      · unfold txtD
        rw [if_pos hb]
        exact ev_x (ev_call (ea_cons (ev_var rfl) ea_nil) (cTx H1 e1)) (.str _)
      · unfold txtD
        rw [if_neg (by rw [hb]; decide)]
        exact ev_x ev_c .non
    refine q_asgX (ex_lstA (xa_cons (ev_x (mine_ev (ev_var rfl) N1.mi).1 (.str _)) (xa_cons (ex_call (ea_cons (ev_var rfl) ea_nil) (cGs H1 e1)) (xa_cons (ex_call (ea_cons (ev_var rfl) ea_nil) (cTs H1 e1)) (xa_cons tx xa_nil)))) (by show 4 ≤ 100000; omega)) fun v2 H2 e2 d2 => ?_
    have E2 := e1.trans e2
    have sh : Sh 5 (.list [.str G.ph.w, .list ((gMsgs G).map msgD), .list ((tMsgs T).map msgD), txtD T]) := by
      refine ⟨by show 4 ≤ 1000; omega, fun d md => ?_⟩
      rcases List.mem_cons.mp md with z | md
      · rw [z]; simp [Sh]
      · rcases List.mem_cons.mp md with z | md
        · rw [z]; exact sh_msgs (by omega)
        · rcases List.mem_cons.mp md with z | md
          · rw [z]; exact sh_msgs (by omega)
          · rw [List.mem_singleton.mp md]
            unfold txtD
            split <;> simp [Sh]
    have sm : Ev (tCall (spSame 5) [] E0 (tCons (tVar 4) (tCons (tVar 5) tNil))) [some (.ref g), some (.ref t), some (.ref m), some (.ref i), some v1, some v2] H2 (.bl true) := ev_same (ev_x (ev_var rfl) (d1.mono e2)) (ev_x (ev_var rfl) d2) sh
    refine q_when (et_not (et_B sm)) (fun hb => by cases hb) (fun _ H3 e3 => ?_)
    have E3 := E2.trans e3
    have gph := ph_ne G.ph .given
    refine q_when (et_and (et_B (ev_notN (tr _ H3 E3 rfl))) fun _ => et_is (et_test (ev_op (ph _ H3 E3 rfl) ev_c (rv_ne rfl))) (congrArg not gph)) (fun hb H4 e4 => ?_) (fun _ H4 e4 => ?_)
    · rw [Bool.and_eq_true] at hb
      have run : T.run = true := by
        cases z : T.run with
        | true => rfl
        | false =>
          have : textV T = .non := by unfold textV; rw [if_neg (by rw [z]; decide)]
          rw [this] at hb
          exact absurd hb.1 (by decide)
      have := I.rn run
      rw [this] at hb
      exact absurd hb.2 (by decide)
    have E4 := E3.trans e4
    refine q_when (et_is (et_test (ev_op (ph _ H4 E4 rfl) ev_c (rv_ne rfl))) (congrArg not gph)) (fun hb H5 e5 => s_ret ev_c fun H6 e6 => q H6 (E4.trans (e5.trans e6))) (fun hb H5 e5 => ?_)
    have gn : G.ph = .given := by
      have : decide (G.ph = Ph.given) = true := by simpa using hb
      exact of_decide_eq_true this
    obtain ⟨tt, wh⟩ := I.gv gn
    have E5 := E4.trans e5
    have N5 := N.mono E5
    have two : ∀ H6, Ex H5 H6 → EvX (tTup (tCons (tLst (tCons (tTup (tCons (tC (.str "whole")) (tCons (tDGet (tVar 2) (tC (.str "many"))) tNil))) tNil)) (tCons (tLst (tCons (tTup (tCons (tC (.str "going")) (tCons (tDGet (tVar 2) (tC (.str "many"))) tNil))) tNil)) tNil))) [some (.ref g), some (.ref t), some (.ref m), some (.ref i), some v1, some v2] H6 (.tuple [.list [msgD (.whole G.turn)], .list [msgD (.going G.turn)]]) := fun H6 e6 =>
      ex_tupA (xa_cons (ex_lstA (xa_cons (ex_pair (mine_ev (ev_var rfl) (N5.mi.mono e6)).2.1) xa_nil) (by show 1 ≤ 100000; omega)) (xa_cons (ex_lstA (xa_cons (ex_pair (mine_ev (ev_var rfl) (N5.mi.mono e6)).2.1) xa_nil) (by show 1 ≤ 100000; omega)) xa_nil)) (by show 2 ≤ 100000; omega)
    have okt : ∀ x ∈ tMsgs T, x.ok := fun x mx => by
      unfold tMsgs at mx
      by_cases z : T.run = true
      · rw [if_pos z] at mx
        rw [List.mem_singleton.mp mx]; trivial
      · rw [if_neg z, if_pos wh] at mx
        rw [List.mem_singleton.mp mx]; trivial
    have sh2 : SeqAt.shaped (.tuple [.list [msgD (.whole G.turn)], .list [msgD (.going G.turn)]]) = true := by
      have a1 := shaped_l (ms := [.whole G.turn]) (fun x mx => by rw [List.mem_singleton.mp mx]; trivial)
      have a2 := shaped_l (ms := [.going G.turn]) (fun x mx => by rw [List.mem_singleton.mp mx]; trivial)
      have b1 := SeqAt.canLay_of_shaped a1
      have b2 := SeqAt.canLay_of_shaped a2
      have c1 : PyData.canLay0 (.list [msgD (.whole G.turn)]) = true := b1
      have c2 : PyData.canLay0 (.list [msgD (.going G.turn)]) = true := b2
      have d1 : PyData.depth (.tuple [.list [msgD (.whole G.turn)], .list [msgD (.going G.turn)]]) ≤ 64 := by simp [msgD, PyData.depth, PyData.depthAll]
      have d2 : PyData.canLay0 (.tuple [.list [msgD (.whole G.turn)], .list [msgD (.going G.turn)]]) = true := by
        show PyData.canLayAll0 _ = true
        simp only [PyData.canLayAll0]
        rw [c1, c2]
        rfl
      show (PyData.canLay0 _ && decide (PyData.depth _ ≤ 64)) = true
      rw [d2, decide_eq_true d1]
      rfl
    have isin : ([PyData.list [msgD (.whole G.turn)], .list [msgD (.going G.turn)]].any fun z => PyData.eqv z (.list ((tMsgs T).map msgD))) = true := by
      have w1 : ∀ x : Msg, x.ok → PyData.eqv (.list [msgD x]) (.list [msgD x]) = true := fun x hx => SeqAt.eqv_refl _ (SeqAt.canLay_of_shaped (shaped_l (ms := [x]) fun y my => by rw [List.mem_singleton.mp my]; exact hx))
      unfold tMsgs
      by_cases z : T.run = true
      · rw [if_pos z, tt]
        show (PyData.eqv _ _ || (PyData.eqv _ _ || false)) = true
        rw [show PyData.eqv (.list [msgD (.going G.turn)]) (.list ([Msg.going G.turn].map msgD)) = true from w1 _ trivial]
        simp
      · rw [if_neg z, if_pos wh, tt]
        show (PyData.eqv _ _ || (PyData.eqv _ _ || false)) = true
        rw [show PyData.eqv (.list [msgD (.whole G.turn)]) (.list ([Msg.whole G.turn].map msgD)) = true from w1 _ trivial]
        rfl
    refine q_when (et_is (et_test (ev_notInT (K := K) (tm _ H5 E5 rfl) two (shaped_l okt) sh2)) (by rw [isin])) (fun hb => by cases hb) (fun _ H6 e6 => ?_)
    have E6 := E5.trans e6
    have N6 := N.mono E6
    have gp : G.pcs = PP G.turn := (I.g0.resolve_left (by rw [gn]; intro z; cases z)).2
    have jz : (G.pcs.map (·.length)).sum + G.pcs.length * (("" : String) : Str).length ≤ 16777216 := by
      have h0 : (("" : String) : Str).length = 0 := by decide +kernel
      have s1 := sum_le (n := 100) G.pcs (fun x mx => (N.ok G.turn x (by rw [← gp]; exact mx)).2)
      have s2 := pcs_len I (by rw [gn]; intro z; cases z)
      have s3 : G.pcs.length * 100 ≤ 20 * 100 := Nat.mul_le_mul_right _ s2
      rw [h0]
      omega
    have jn : Ev (tM1 (fun x xs H Q => ∃ a p, ∃ ys : List Str, x = .str a ∧ xs = [.ref p] ∧ (SqL K H p (ys.map V.str) ∨ SqT K H p (ys.map V.str)) ∧ (ys.map (·.length)).sum + ys.length * a.length ≤ 16777216 ∧ Q (.str (Txt.join a ys)) H) (tC (.str "")) (tDGet (tVar 2) (tC (.str "pieces")))) [some (.ref g), some (.ref t), some (.ref m), some (.ref i), some v1, some v2] H6 (.str (Txt.join "" G.pcs)) := fun H7 e7 Q7 q7 =>
      ⟨⟨_, rfl⟩, (mine_ev (ta := tVar 2) (σ := [some (.ref g), some (.ref t), some (.ref m), some (.ref i), some v1, some v2]) (ev_var rfl) (N6.mi.mono e7)).2.2.1 H7 (Ex.refl H7) _ fun H8 e8 => ⟨_, pm, G.pcs, rfl, rfl, .inl (sq_of ((N6.mi.mono (e7.trans e8)).pcs)), jz, q7 H8 e8⟩⟩
    refine s_ret (ev_is (ev_inU (K := K) (tr _ H6 E6 rfl) (eu_tup (ea_cons ev_c (ea_cons jn ea_nil)) (by show 2 ≤ 100000; omega)) ?_ rfl) (congrArg V.bl ?_)) fun H7 e7 => q H7 (E6.trans e7)
    · unfold textV
      split <;> rfl
    · unfold textV
      split
      · rename_i z
        rw [in_order I wh, tt, ← gp]
        unfold inV
        rw [List.any_cons, List.any_cons]
        have : eqV (.str (Txt.join "" G.pcs)) (.str (Txt.join "" G.pcs)) = true := beq_self_eq_true (Txt.join "" G.pcs)
        rw [this]
        simp
      · rfl
end
end KM
set_option Elab.async false
set_option linter.all false
set_option maxRecDepth 100000
set_option maxHeartbeats 4000000
namespace KM
open PySem PySem.Spec PyProof.Rows L2 Evl KB
theorem GvAt.xc {M : List Addr} {H H' : Hp} {C g p : Addr} {G : Gv} (x : Xc M H H') (h1 : g ∉ M) (h2 : p ∉ M) (h : GvAt H C g p G) : GvAt H' C g p G := by
  obtain ⟨dx, a, b⟩ := h.is
  exact ⟨⟨dx, x _ _ h1 a, x _ _ h2 b⟩⟩
theorem TkAt.xc {M : List Addr} {H H' : Hp} {C t d : Addr} {T : Tk} (x : Xc M H H') (h1 : t ∉ M) (h2 : d ∉ M) (h : TkAt H C t d T) : TkAt H' C t d T := by
  obtain ⟨dx, a⟩ := h.is
  exact ⟨⟨dx, x _ _ h1 a⟩, x _ _ h2 h.pcs⟩
theorem MineAt.xc {M : List Addr} {H H' : Hp} {m p : Addr} {G : Gv} (x : Xc M H H') (h1 : m ∉ M) (h2 : p ∉ M) (h : MineAt H m p G) : MineAt H' m p G := ⟨x _ _ h1 h.is, x _ _ h2 h.pcs⟩
theorem ItsAt.xc {M : List Addr} {H H' : Hp} {i d : Addr} {T : Tk} (x : Xc M H H') (h1 : i ∉ M) (h2 : d ∉ M) (h : ItsAt H i d T) : ItsAt H' i d T := ⟨x _ _ h1 h.is, x _ _ h2 h.pcs⟩
/-- the link -/
def Lnk (H : Hp) (l : Addr) (L : List Msg) : Prop := ∃ vs, H l = some (.lst vs) ∧ Paired (fun v x => TupM H v x) vs L
theorem paired_mono {F F' : V → Msg → Prop} (h : ∀ v x, F v x → F' v x) : ∀ {vs : List V} {L : List Msg}, Paired F vs L → Paired F' vs L
  | _, _, .nil => .nil
  | _, _, .cons a r => .cons (h _ _ a) (paired_mono h r)
theorem paired_len {F : V → Msg → Prop} : ∀ {vs : List V} {L : List Msg}, Paired F vs L → vs.length = L.length
  | _, _, .nil => rfl
  | _, _, .cons _ r => by rw [List.length_cons, List.length_cons, paired_len r]
theorem paired_app {F : V → Msg → Prop} : ∀ {vs us : List V} {L M : List Msg}, Paired F vs L → Paired F us M → Paired F (vs ++ us) (L ++ M)
  | _, _, _, _, .nil, k => k
  | _, _, _, _, .cons a r, k => .cons a (paired_app r k)
theorem paired_get {F : V → Msg → Prop} : ∀ {vs : List V} {L : List Msg} {j : Nat} {v : V}, Paired F vs L → vs[j]? = some v → ∃ x, L[j]? = some x ∧ F v x
  | _, _, _, _, .nil, e => by simp at e
  | _, _, 0, _, .cons a _, e => by
    simp at e
    subst e
    exact ⟨_, rfl, a⟩
  | _, _, j + 1, v, .cons _ r, e => by
    obtain ⟨x, h1, h2⟩ := paired_get (j := j) (v := v) r (by simpa using e)
    exact ⟨x, by simpa using h1, h2⟩
theorem paired_erase {F : V → Msg → Prop} : ∀ {vs : List V} {L : List Msg} (j : Nat), Paired F vs L → Paired F (vs.eraseIdx j) (L.eraseIdx j)
  | _, _, _, .nil => .nil
  | _, _, 0, .cons _ r => r
  | _, _, j + 1, .cons a r => .cons a (paired_erase j r)
theorem paired_rep {F : V → Msg → Prop} {v : V} {x : Msg} (h : F v x) : ∀ n : Nat, Paired F (List.replicate n v) (List.replicate n x)
  | 0 => .nil
  | n + 1 => .cons h (paired_rep h n)
/-- tuples stay where only other things change -/
theorem TupM.stay {M : List Addr} {H H' : Hp} {v : V} {x : Msg} (e : Xc M H H') (hM : ∀ a ∈ M, ∀ xs, H a ≠ some (.tup xs)) (h : TupM H v x) : TupM H' v x := by
  obtain ⟨a, rfl, ha⟩ := h
  exact ⟨a, rfl, e _ _ (fun m => hM a m _ ha) ha⟩
theorem tup_of_dx {H : Hp} {v : V} {x : Msg} (h : Dx H v (msgD x)) : TupM H v x := by
  cases x with
  | piece t i n s =>
    cases h with
    | tup e r =>
      cases r with | cons a r => cases r with | cons b r => cases r with | cons c r => cases r with | cons d r => cases r with | cons f r => cases r; cases a; cases b; cases c; cases d; cases f; exact ⟨_, rfl, e⟩
  | go t =>
    cases h with
    | tup e r => cases r with | cons a r => cases r with | cons b r => cases r; cases a; cases b; exact ⟨_, rfl, e⟩
  | whole t =>
    cases h with
    | tup e r => cases r with | cons a r => cases r with | cons b r => cases r; cases a; cases b; exact ⟨_, rfl, e⟩
  | going t =>
    cases h with
    | tup e r => cases r with | cons a r => cases r with | cons b r => cases r; cases a; cases b; exact ⟨_, rfl, e⟩
theorem paired_of_dx {H : Hp} : ∀ {vs : List V} {ms : List Msg}, DxAll H vs (ms.map msgD) → Paired (fun v x => TupM H v x) vs ms
  | [], [], _ => .nil
  | _ :: _, [], h => by cases h
  | [], _ :: _, h => by cases h
  | v :: vs, m :: ms, h => by
    cases h with
    | cons a r => exact .cons (tup_of_dx a) (paired_of_dx r)
abbrev sSent : Stmt := topS 25
abbrev nSent : List Str := ["_law_source", "_law_link", "_law_some", "_law_message"]
theorem scSent : FnScope nSent ["_law_source", "_law_link", "_law_some"] (defScope sSent) := ⟨rfl, rfl, rfl, by decide +kernel, rfl, by decide +kernel, by decide +kernel⟩
def spSent : Sp := fun vs H Q _ => ∃ (sr l b : Addr) (c : Int) (us : List V) (L ms : List Msg), vs = [.ref sr, .ref l, .ref b] ∧ KS.Src H sr c ∧ c < 1000000 ∧ Lnk H l L ∧ L.length ≤ 10000 ∧ H b = some (.lst us) ∧ Paired (fun v x => TupM H v x) us ms ∧ ms.length ≤ 20 ∧
  l ≠ sr ∧ b ≠ l ∧ b ≠ sr ∧ ∀ (H' : Hp) (c' : Int) (M : List Msg), Xc [sr, l] H H' → KS.Src H' sr c' → c ≤ c' → c' ≤ c + 20 → Lnk H' l (L ++ M) → M.length ≤ 40 → (∀ x ∈ M, x ∈ ms) → Q .non H'
section
variable {P : Program} {w : World} {K : PySem.W.Frag} {mg : Str → Option Value} {base : Heap} {CG CT f : Addr} {fd : FuncData}
theorem ok_Sent (F : Fun K "_law_sent" "_law_sent" sSent f fd) (G__law_pick : Kf P w K mg base 2 "_law_pick" ["_law_source", "_law_some"] KS.spPick) : FnOk P w K mg base CX0 3 f fd ["_law_source", "_law_link", "_law_some"] spSent := by
  refine F.ok scSent (fun vs H Q E h => ?_) (fun cdv A outer s H vs Q E hr h => ?_)
  · obtain ⟨sr, l, b, c, us, L, ms, rfl, _⟩ := h
    rfl
  · obtain ⟨sr, l, b, c, us, L, ms, rfl, S, hc, hL, hLn, hb, hus, hms, n1, n2, n3, q⟩ := h
    have nd := scSent.nd
    refine ⟨_, (pss_one (ps_for PassesOwn.never rfl (pi_list (pv 2)) (pg_name (i := 3) nd rfl (by first | exact .inl rfl | exact .inr rfl)) (pss_one (ps_expr (pe_bm PySem.F.plainAttrs_list PySem.F.slot_list_extend PySem.F.type_list_extend mt_extend (pv 1) (pa_cons (pe_op op_rep (pe_lst (pa_cons (pv 3) pa_nil)) (pe_fn G__law_pick (hr.mono (by decide)) (pa_cons (pv 0) (pa_cons (pe_lst (pa_cons pe_int (pa_cons pe_int (pa_cons pe_int (pa_cons pe_int (pa_cons pe_int pa_nil)))))) pa_nil)))) pa_nil)))))), ?_⟩
    have notTup : ∀ {H1 : Hp} {c1 : Int} {L1 : List Msg}, KS.Src H1 sr c1 → Lnk H1 l L1 → ∀ a ∈ [sr, l], ∀ xs, H1 a ≠ some (.tup xs) := fun S1 L1 a ma xs => by
      rcases List.mem_cons.mp ma with z | z
      · obtain ⟨x1, x2, e, _⟩ := S1
        rw [z, e]
        intro w; cases w
      · obtain ⟨vs, e, _⟩ := L1
        rw [List.mem_singleton.mp z, e]
        intro w; cases w
    refine s_forLn (K := K) (ev_var rfl) (sq_of hb) (fun k σ G => (∃ y, σ = [some (.ref sr), some (.ref l), some (.ref b), y]) ∧ Xc [sr, l] H G ∧ ∃ c' M, KS.Src G sr c' ∧ c ≤ c' ∧ c' ≤ c + k ∧ Lnk G l (L ++ M) ∧ M.length ≤ 2 * k ∧ (∀ x ∈ M, x ∈ ms)) (fun H1 e1 => ⟨⟨_, rfl⟩, Xc.of e1, c, [], S.mono e1, Int.le_refl _, by omega, ?_, by simp, fun x m => nomatch m⟩) (fun k σ G _ g => ?_) ?_ ?_
    · obtain ⟨vs, e, pv⟩ := hL
      rw [List.append_nil]
      exact ⟨vs, e1 _ _ e, paired_mono (fun v x h => h.mono e1) pv⟩
    · exact sq_of (g.2.1 _ _ (fun z => by
        rcases List.mem_cons.mp z with z | z
        · exact n3 z
        · exact n2 (List.mem_singleton.mp z)) hb)
    · rintro k v σ G hk ⟨⟨y, rfl⟩, xG, c', M, S', c1, c2, hLk, hM, hin⟩
      have kl : k < us.length := (List.getElem?_eq_some_iff.mp hk).1
      have ul := paired_len hus
      obtain ⟨x, ex, tx⟩ := paired_get hus hk
      have txG : TupM G v x := tx.stay xG (notTup S hL)
      obtain ⟨vs, gl, pvs⟩ := hLk
      have vl := paired_len pvs
      rw [List.length_append] at vl
      refine ⟨_, rfl, .inl ⟨rfl, _, sq_of gl⟩, _, rfl, by show 1 ≤ sizeLine; decide, fun q1 nq1 => ⟨_, rfl, by show 5 ≤ sizeLine; decide, fun q2 nq2 => ?_⟩⟩
      have S2 : KS.Src (upd (upd G q1 (.lst [v])) q2 (.lst [.int 0, .int 1, .int 1, .int 1, .int 2])) sr c' := S'.mono ((Ex.new nq1).trans (Ex.new nq2))
      obtain ⟨a1, a2, gs, _⟩ := S'
      have q1s : q1 ≠ sr := fun z => by rw [z, gs] at nq1; cases nq1
      have q2s : q2 ≠ sr := fun z => by rw [z, upd_ne (Ne.symm q1s), gs] at nq2; cases nq2
      have q12 : q1 ≠ q2 := fun z => by rw [← z, upd_same] at nq2; cases nq2
      refine ⟨sr, q2, c', _, rfl, S2, by omega, q2s, upd_same, by decide, by decide, fun u c3 H2 mu d1 d2 x2 S3 => ?_⟩
      obtain ⟨kk, rfl, hkk⟩ : ∃ kk : Nat, u = .int (kk : Int) ∧ kk ≤ 2 := by
        simp only [List.mem_cons, List.not_mem_nil, or_false] at mu
        rcases mu with z | z | z | z | z
        · exact ⟨0, z, by decide⟩
        · exact ⟨1, z, by decide⟩
        · exact ⟨1, z, by decide⟩
        · exact ⟨1, z, by decide⟩
        · exact ⟨2, z, by decide⟩
      have g1 : H2 q1 = some (.lst [v]) := x2 _ _ (fun z => q1s (List.mem_singleton.mp z)) (by rw [upd_ne q12]; exact upd_same)
      have lq1 : l ≠ q1 := fun z => by rw [← z, gl] at nq1; cases nq1
      have lq2 : l ≠ q2 := fun z => by rw [← z, upd_ne lq1, gl] at nq2; cases nq2
      have g2 : H2 l = some (.lst vs) := x2 _ _ (fun z => n1 (List.mem_singleton.mp z)) (by rw [upd_ne lq2, upd_ne lq1]; exact gl)
      refine ⟨q1, (kk : Int), [v], rfl, rfl, g1, by omega, by omega, by rw [Int.toNat_natCast]; exact Nat.le_trans (show 1 * kk ≤ 2 by omega) (by decide), fun q3 nq3 => ?_⟩
      have lq3 : l ≠ q3 := fun z => by rw [← z, g2] at nq3; cases nq3
      refine ⟨l, q3, vs, _, rfl, rfl, by rw [upd_ne lq3]; exact g2, upd_same, ?_, ⟨_, rfl⟩, ?_, c3, M ++ List.replicate kk x, ?_, by omega, by omega, ?_, ?_, ?_⟩
      · rw [Int.toNat_natCast, List.flatten_replicate_singleton, List.length_replicate]
        exact sz_of (by omega)
      · intro a o na ha
        have ne1 : a ≠ l := fun z => na (by rw [z]; exact List.mem_cons_of_mem _ List.mem_cons_self)
        have ne2 : a ≠ sr := fun z => na (by rw [z]; exact List.mem_cons_self)
        have hG := xG _ _ na ha
        rw [upd_ne ne1, upd_ne (ne_of_none (x2 _ _ (fun z => ne2 (List.mem_singleton.mp z)) (((Ex.new nq1).trans (Ex.new nq2)) _ _ hG)) nq3)]
        exact x2 _ _ (fun z => ne2 (List.mem_singleton.mp z)) (((Ex.new nq1).trans (Ex.new nq2)) _ _ hG)
      · obtain ⟨b1, b2, gs3, r3⟩ := S3
        have sq3 : sr ≠ q3 := fun z => by rw [← z, gs3] at nq3; cases nq3
        exact ⟨b1, b2, by rw [upd_ne (Ne.symm n1), upd_ne sq3]; exact gs3, r3⟩
      · rw [Int.toNat_natCast, List.flatten_replicate_singleton, ← List.append_assoc]
        refine ⟨_, upd_same, paired_app (paired_mono (fun v' x' h => ?_) pvs) (paired_rep ?_ kk)⟩
        · obtain ⟨a, rfl, ha⟩ := h
          have al : a ≠ l := fun z => by rw [z, gl] at ha; cases ha
          have as : a ≠ sr := fun z => by rw [z, gs] at ha; cases ha
          have h2 := x2 _ _ (fun z => as (List.mem_singleton.mp z)) (((Ex.new nq1).trans (Ex.new nq2)) _ _ ha)
          exact ⟨a, rfl, by rw [upd_ne al, upd_ne (ne_of_none h2 nq3)]; exact h2⟩
        · obtain ⟨a, rfl, ha⟩ := txG
          have al : a ≠ l := fun z => by rw [z, gl] at ha; cases ha
          have as : a ≠ sr := fun z => by rw [z, gs] at ha; cases ha
          have h2 := x2 _ _ (fun z => as (List.mem_singleton.mp z)) (((Ex.new nq1).trans (Ex.new nq2)) _ _ ha)
          exact ⟨a, rfl, by rw [upd_ne al, upd_ne (ne_of_none h2 nq3)]; exact h2⟩
      · rw [List.length_append, List.length_replicate]
        omega
      · intro z mz
        rcases List.mem_append.mp mz with mz | mz
        · exact hin z mz
        · rw [(List.mem_replicate.mp mz).2]
          exact List.mem_of_getElem? ex
    · rintro σ G ⟨⟨y, rfl⟩, xG, c', M, S', c1, c2, hLk, hM, hin⟩
      have ul := paired_len hus
      exact q G c' M xG S' c1 (by omega) hLk (by omega) hin
end
end KM
set_option Elab.async false
set_option linter.all false
set_option maxRecDepth 100000
set_option maxHeartbeats 4000000
namespace KM
open PySem PySem.Spec PyProof.Rows L2 Evl KB
/-- all that a move is, over an elder heap H0 -/
structure Wd (H0 H : Hp) (CG CT sr l g t m i rc : Addr) (P : Nat → List Str) (G : Gv) (T : Tk) (L : List Msg) (c : Int) (n : Nat) : Prop where
  ex : ∃ pg dt pm di, At H CG CT g pg t dt m pm i di P G T L ∧ (pg ≠ l ∧ pg ≠ sr) ∧ (pm ≠ l ∧ pm ≠ sr) ∧ dt ≠ di ∧ H0 dt = none ∧ H0 di = none
  src : KS.Src H sr c
  lnk : Lnk H l L
  len : L.length ≤ n
  pz : G.pcs.length ≤ 1000
  ls : l ≠ sr
  rcd : H rc = some (.tup [.ref m, .ref i])
  fr : Xc [sr] H0 H
  nw : H0 l = none ∧ H0 g = none ∧ H0 t = none ∧ H0 m = none ∧ H0 i = none
section
variable {H0 H H' : Hp} {CG CT sr l g t m i rc : Addr} {P : Nat → List Str} {G : Gv} {T : Tk} {L : List Msg} {c : Int} {n : Nat}
theorem fr_trans {M : List Addr} (f : Xc [sr] H0 H) (x : Xc M H H') (h : ∀ a ∈ M, a = sr ∨ H0 a = none) : Xc [sr] H0 H' := fun a o na ha =>
  x _ _ (fun ma => (h a ma).elim (fun z => na (by rw [z]; exact List.mem_cons_self)) fun z => by rw [z] at ha; cases ha) (f _ _ na ha)
theorem new_back (f : Xc [sr] H0 H) (hs : H sr ≠ none) {a : Addr} (h : H a = none) : H0 a = none := by
  cases z : H0 a with
  | none => rfl
  | some o =>
    by_cases e : a = sr
    · rw [e] at h; exact absurd h hs
    · rw [f _ _ (fun w => e (List.mem_singleton.mp w)) z] at h
      cases h
theorem ne_l {a b : Addr} {xs : List V} {o : HO} (h1 : H a = some (.lst xs)) (h2 : H b = some o) (h : ∀ ys, o ≠ .lst ys) : a ≠ b := fun z => by
  rw [z, h2] at h1
  cases h1
  exact h _ rfl
theorem kv_mFs {T : Tk} {G : Gv} {p : Addr} : kvK T.kept ≠ mFs G p := fun z => by
  cases h : T.kept with
  | nil => rw [h] at z; cases z
  | cons x r => rw [h] at z; cases z
theorem kv_iFs {T T' : Tk} {p : Addr} : kvK T.kept ≠ iFs T' p := fun z => by
  cases h : T.kept with
  | nil => rw [h] at z; cases z
  | cons x r => rw [h] at z; cases z
theorem m_i {G : Gv} {T : Tk} {p d : Addr} : mFs G p ≠ iFs T d := fun z => by
  injection z with z _
  injection z with z _
  injection z with z
  exact absurd z (by decide +kernel)
theorem g_t {G : Gv} {T : Tk} {p d : Addr} : gFs G p ≠ tFs T d := fun z => by
  injection z with z _
  injection z with z _
  exact absurd z (by decide +kernel)
/-- what differs from what -/
structure Apart (sr l g t m i rc pg dt pm di : Addr) : Prop where
  gs : g ≠ sr ∧ g ≠ l ∧ g ≠ t ∧ g ≠ m ∧ g ≠ i ∧ g ≠ dt ∧ g ≠ di ∧ g ≠ pg ∧ g ≠ pm ∧ g ≠ rc
  ts : t ≠ sr ∧ t ≠ l ∧ t ≠ m ∧ t ≠ i ∧ t ≠ dt ∧ t ≠ di ∧ t ≠ pg ∧ t ≠ pm ∧ t ≠ rc
  ms : m ≠ sr ∧ m ≠ l ∧ m ≠ i ∧ m ≠ dt ∧ m ≠ di ∧ m ≠ pg ∧ m ≠ pm ∧ m ≠ rc
  is : i ≠ sr ∧ i ≠ l ∧ i ≠ dt ∧ i ≠ di ∧ i ≠ pg ∧ i ≠ pm ∧ i ≠ rc
  ds : dt ≠ sr ∧ dt ≠ l ∧ dt ≠ pg ∧ dt ≠ pm ∧ dt ≠ rc
  es : di ≠ sr ∧ di ≠ l ∧ di ≠ pg ∧ di ≠ pm ∧ di ≠ rc
  rs : rc ≠ sr ∧ rc ≠ l ∧ rc ≠ pg ∧ rc ≠ pm
theorem neq {a b : Addr} {o u : HO} (h1 : H a = some o) (h2 : H b = some u) (h : o ≠ u) : a ≠ b := fun z => by
  rw [z, h2] at h1
  exact h (Option.some.inj h1).symm
theorem apart {pg dt pm di : Addr} (A : At H CG CT g pg t dt m pm i di P G T L) (src : KS.Src H sr c) (lnk : Lnk H l L) (rec : H rc = some (.tup [.ref m, .ref i])) : Apart sr l g t m i rc pg dt pm di := by
  obtain ⟨dxg, g1, g2⟩ := A.gv.is
  obtain ⟨dxt, t1⟩ := A.tk.is
  have t2 := A.tk.pcs
  have m1 := A.mi.is
  have m2 := A.mi.pcs
  have i1 := A.it.is
  have i2 := A.it.pcs
  obtain ⟨sa, sb, s1, _⟩ := src
  obtain ⟨vs, l1, _⟩ := lnk
  have gt : HO.ins CG dxg (gFs G pg) ≠ HO.ins CT dxt (tFs T dt) := fun z => by injection z with _ _ z; exact g_t z
  have mi : HO.dK (mFs G pm) ≠ HO.dK (iFs T di) := fun z => by injection z with z; exact m_i z
  have md : HO.dK (mFs G pm) ≠ HO.dK (kvK T.kept) := fun z => by injection z with z; exact kv_mFs z.symm
  have idd : HO.dK (iFs T di) ≠ HO.dK (kvK T.kept) := fun z => by injection z with z; exact kv_iFs z.symm
  refine ⟨⟨neq g1 s1 ?_, neq g1 l1 ?_, neq g1 t1 gt, neq g1 m1 ?_, neq g1 i1 ?_, neq g1 t2 ?_, neq g1 i2 ?_, neq g1 g2 ?_, neq g1 m2 ?_, neq g1 rec ?_⟩,
    ⟨neq t1 s1 ?_, neq t1 l1 ?_, neq t1 m1 ?_, neq t1 i1 ?_, neq t1 t2 ?_, neq t1 i2 ?_, neq t1 g2 ?_, neq t1 m2 ?_, neq t1 rec ?_⟩,
    ⟨neq m1 s1 ?_, neq m1 l1 ?_, neq m1 i1 mi, neq m1 t2 md, neq m1 i2 md, neq m1 g2 ?_, neq m1 m2 ?_, neq m1 rec ?_⟩,
    ⟨neq i1 s1 ?_, neq i1 l1 ?_, neq i1 t2 idd, neq i1 i2 idd, neq i1 g2 ?_, neq i1 m2 ?_, neq i1 rec ?_⟩,
    ⟨neq t2 s1 ?_, neq t2 l1 ?_, neq t2 g2 ?_, neq t2 m2 ?_, neq t2 rec ?_⟩,
    ⟨neq i2 s1 ?_, neq i2 l1 ?_, neq i2 g2 ?_, neq i2 m2 ?_, neq i2 rec ?_⟩,
    ⟨neq rec s1 ?_, neq rec l1 ?_, neq rec g2 ?_, neq rec m2 ?_⟩⟩ <;> (intro z; cases z)
theorem Lnk.stay {M : List Addr} {l : Addr} {L : List Msg} (h : Lnk H l L) (x : Xc M H H') (hl : l ∉ M) (hM : ∀ a ∈ M, ∀ xs, H a ≠ some (.tup xs)) : Lnk H' l L := by
  obtain ⟨vs, e, p⟩ := h
  exact ⟨vs, x _ _ hl e, paired_mono (fun v y hy => hy.stay x hM) p⟩
theorem Wd.mono (e : Ex H H') (W : Wd H0 H CG CT sr l g t m i rc P G T L c n) : Wd H0 H' CG CT sr l g t m i rc P G T L c n := by
  obtain ⟨pg, dt, pm, di, A, r⟩ := W.ex
  exact ⟨⟨pg, dt, pm, di, A.mono e, r⟩, W.src.mono e, W.lnk.stay (Xc.of e) (M := []) List.not_mem_nil (fun a ma => nomatch ma), W.len, W.pz, W.ls, e _ _ W.rcd, W.fr.trans (Xc.of e), W.nw⟩
theorem Wd.sr_some (W : Wd H0 H CG CT sr l g t m i rc P G T L c n) : H sr ≠ none := by
  obtain ⟨a, b, e, _⟩ := W.src
  rw [e]
  exact fun z => nomatch z
/-- a draw -/
theorem Wd.draw {c' : Int} (W : Wd H0 H CG CT sr l g t m i rc P G T L c n) (x : Xc [sr] H H') (S : KS.Src H' sr c') : Wd H0 H' CG CT sr l g t m i rc P G T L c' n := by
  obtain ⟨pg, dt, pm, di, A, ⟨a1, a2⟩, ⟨b1, b2⟩, r⟩ := W.ex
  have Z := apart A W.src W.lnk W.rcd
  have no : ∀ {a : Addr}, a ≠ sr → a ∉ [sr] := fun h z => h (List.mem_singleton.mp z)
  have nt : ∀ a ∈ [sr], ∀ xs, H a ≠ some (.tup xs) := fun a ma xs => by
    obtain ⟨p, q, e, _⟩ := W.src
    rw [List.mem_singleton.mp ma, e]
    exact fun z => nomatch z
  exact ⟨⟨pg, dt, pm, di, ⟨A.gv.xc x (no Z.gs.1) (no a2), A.tk.xc x (no Z.ts.1) (no Z.ds.1), A.mi.xc x (no Z.ms.1) (no b2), A.it.xc x (no Z.is.1) (no Z.es.1), A.iv, A.ok⟩, ⟨a1, a2⟩, ⟨b1, b2⟩, r⟩, S, W.lnk.stay x (no W.ls) nt, W.len, W.pz, W.ls, x _ _ (no Z.rs.1) W.rcd,
    fr_trans W.fr x (fun a ma => .inl (List.mem_singleton.mp ma)), W.nw⟩
/-- the link changes -/
theorem Wd.link {L' : List Msg} {n' : Nat} (W : Wd H0 H CG CT sr l g t m i rc P G T L c n) (x : Xc [l] H H') (h : Lnk H' l L') (I : Iv P G T L') (hn : L'.length ≤ n') : Wd H0 H' CG CT sr l g t m i rc P G T L' c n' := by
  obtain ⟨pg, dt, pm, di, A, ⟨a1, a2⟩, ⟨b1, b2⟩, r⟩ := W.ex
  have Z := apart A W.src W.lnk W.rcd
  have no : ∀ {a : Addr}, a ≠ l → a ∉ [l] := fun h z => h (List.mem_singleton.mp z)
  exact ⟨⟨pg, dt, pm, di, ⟨A.gv.xc x (no Z.gs.2.1) (no a1), A.tk.xc x (no Z.ts.2.1) (no Z.ds.2.1), A.mi.xc x (no Z.ms.2.1) (no b1), A.it.xc x (no Z.is.2.1) (no Z.es.2.1), I, A.ok⟩, ⟨a1, a2⟩, ⟨b1, b2⟩, r⟩, W.src.xc x (no (Ne.symm W.ls)), h, hn, W.pz, W.ls, x _ _ (no Z.rs.2.1) W.rcd,
    fr_trans W.fr x (fun a ma => .inr (by rw [List.mem_singleton.mp ma]; exact W.nw.1)), W.nw⟩
theorem Wd.iv' (W : Wd H0 H CG CT sr l g t m i rc P G T L c n) : Iv P G T L ∧ ∀ t, ∀ s ∈ P t, okS s := by
  obtain ⟨pg, dt, pm, di, A, r⟩ := W.ex
  exact ⟨A.iv, A.ok⟩
theorem msg_ok (I : Iv P G T L) (ok : ∀ t, ∀ s ∈ P t, okS s) {x : Msg} (h : okM P G T x) : x.ok ∧ 1 ≤ x.t := by
  cases x with
  | piece t i n s => exact ⟨ok t s (List.mem_of_getElem? h.2.2.2), h.1⟩
  | go t =>
    refine ⟨trivial, ?_⟩
    rcases I.g0 with z | z
    · rw [h.2] at z; cases z
    · show 1 ≤ t
      rw [h.1]
      exact z.1
  | whole t => exact ⟨trivial, h.1⟩
  | going t =>
    refine ⟨trivial, ?_⟩
    have := run_turn I h.1
    show 1 ≤ t
    rw [h.2]
    omega
end
abbrev sDeliv : Stmt := topS 26
abbrev nDeliv : List Str := ["_law_source", "_law_link", "_law_giver", "_law_taker", "_law_records", "_law_mine", "_law_its", "_law_at", "_law_message", "_law_soft", "_law_told"]
theorem scDeliv : FnScope nDeliv ["_law_source", "_law_link", "_law_giver", "_law_taker", "_law_records"] (defScope sDeliv) := ⟨rfl, rfl, rfl, by decide +kernel, rfl, by decide +kernel, by decide +kernel⟩
def spDeliv (CG CT : Addr) : Sp := fun vs H Q _ => ∃ H0 sr l g t m i rc P G T L c n, vs = [.ref sr, .ref l, .ref g, .ref t, .ref rc] ∧ Wd H0 H CG CT sr l g t m i rc P G T L c n ∧ L ≠ [] ∧ n ≤ 10000 ∧ c < 1000000 ∧
  ∀ H' P' G' T' L' c', Wd H0 H' CG CT sr l g t m i rc P' G' T' L' c' n → c ≤ c' → c' ≤ c + 10 → Q (.bl true) H'
def Msg.toG : Msg → Bool
  | .whole _ => true
  | .going _ => true
  | _ => false
theorem toG_in (x : Msg) : inV (.str x.k) [.str "whole", .str "going"] = x.toG := by
  cases x with
  | piece t i n s => show inV (.str (("piece" : String) : Str)) [.str "whole", .str "going"] = false; decide +kernel
  | go t => show inV (.str (("go" : String) : Str)) [.str "whole", .str "going"] = false; decide +kernel
  | whole t => show inV (.str (("whole" : String) : Str)) [.str "whole", .str "going"] = true; decide +kernel
  | going t => show inV (.str (("going" : String) : Str)) [.str "whole", .str "going"] = true; decide +kernel
section
variable {P : Program} {w : World} {K : PySem.W.Frag} {mg : Str → Option Value} {base : Heap} {CG CT f : Addr} {fd : FuncData}
theorem ok_Deliv (F : Fun K "_law_delivered" "_law_delivered" sDeliv f fd) (G__law_draw : Kf P w K mg base 1 "_law_draw" ["_law_source", "_law_bound"] KS.spDraw)
    (G_Giver_receive : Km P w K mg base 1 CG "receive" ["self", "message"] (spGRecv CG)) (G_Taker_receive : Km P w K mg base 2 CT "receive" ["self", "message"] (spTRecv CT))
    (G__law_given : Kf P w K mg base 1 "_law_given" ["_law_mine", "_law_message"] spGiven) (G__law_taken : Kf P w K mg base 2 "_law_taken" ["_law_its", "_law_message"] spTaken) (m_list : mg "list" = none) (m_len : mg "len" = none) :
    FnOk P w K mg base CX0 3 f fd ["_law_source", "_law_link", "_law_giver", "_law_taker", "_law_records"] (spDeliv CG CT) := by
  refine F.ok scDeliv (fun vs H Q E h => ?_) (fun cdv A outer s H vs Q E hr h => ?_)
  · obtain ⟨H0, sr, l, g, t, m, i, rc, PP, G, T, L, c, n, rfl, _⟩ := h
    rfl
  · obtain ⟨H0, sr, l, g, t, m, i, rc, PP, G, T, L, c, n, rfl, W, hne, hn, hc, q⟩ := h
    have nd := scDeliv.nd
    refine ⟨_, (pss_cons (ps_asg (pv 4) (pg_tup (by rfl) (pgs_cons (pg_name (i := 5) nd rfl (by first | exact .inl rfl | exact .inr rfl)) (pgs_cons (pg_name (i := 6) nd rfl (by first | exact .inl rfl | exact .inr rfl)) pgs_nil))))
      (pss_cons (ps_set (i := 7) nd rfl (by first | exact .inl rfl | exact .inr rfl) (pe_fn G__law_draw (hr.mono (by decide)) (pa_cons (pv 0) (pa_cons (pe_callB call_len_seq (by rfl) m_len (by decide +kernel) (pa_cons (pv 1) pa_nil)) pa_nil))))
      (pss_cut (ps_set (i := 8) nd rfl (by first | exact .inl rfl | exact .inr rfl) (pe_ifExp (pt_cmpR op_eq (pe_fn G__law_draw (hr.mono (by decide)) (pa_cons (pv 0) (pa_cons pe_int pa_nil))) pe_int (nomark _)) (pe_ix ix_list (pv 1) (pv 7) (fun _ _ => rfl)) (pe_bm PySem.F.plainAttrs_list PySem.F.slot_list_pop PySem.F.type_list_pop mt_popAt (pv 1) (pa_cons (pv 7) pa_nil))))
      (pss_cut (ps_set (i := 9) nd rfl (by first | exact .inl rfl | exact .inr rfl) (pe_ifExp (pt_cmpR op_eq (pe_fn G__law_draw (hr.mono (by decide)) (pa_cons (pv 0) (pa_cons pe_int pa_nil))) pe_int (nomark _)) (pe_callTy call_list_of (by rfl) m_list (by decide +kernel) (pa_cons (pv 8) pa_nil)) (pv 8)))
      (pss_cons (ps_set (i := 10) nd rfl (by first | exact .inl rfl | exact .inr rfl) (pe_ifExp (pt_cmpR op_in_seq (pe_ix ix_tup (pv 8) pe_int (fun _ _ => rfl)) (pe_tup (pa_cons pe_str (pa_cons pe_str pa_nil))) (by rfl)) (pe_mt (pv 2) G_Giver_receive (hr.mono (by decide)) (pa_cons (pv 9) pa_nil)) (pe_mt (pv 3) G_Taker_receive (hr.mono (by decide)) (pa_cons (pv 9) pa_nil))))
      (pss_cons (ps_if (pt_cmpR op_in_seq (pe_ix ix_tup (pv 8) pe_int (fun _ _ => rfl)) (pe_tup (pa_cons pe_str (pa_cons pe_str pa_nil))) (by rfl)) (pss_one (ps_expr (pe_fn G__law_given (hr.mono (by decide)) (pa_cons (pv 5) (pa_cons (pv 8) pa_nil))))) (pss_one (ps_expr (pe_fn G__law_taken (hr.mono (by decide)) (pa_cons (pv 6) (pa_cons (pv 8) pa_nil))))))
      (pss_one (ps_ret (pe_cmp (pc_isN (pv 10)) rfl))))))))), ?_⟩
    refine ⟨_, rfl, rc, _, rfl, st_of W.rcd, rfl, _, _, rfl, _, _, rfl, rfl, ?_⟩
    obtain ⟨vs, gl, pvs⟩ := W.lnk
    have vl := paired_len pvs
    have Ll := W.len
    have L0 : 0 < L.length := List.length_pos_iff.mpr hne
    refine ⟨_, rfl, _, rfl, l, vs, rfl, .inl (sq_of gl), sr, c, _, rfl, W.src, by omega, by omega, by omega, fun r c1 H1 r0 r1 d1 d2 x1 S1 => ?_⟩
    obtain ⟨j, rfl⟩ : ∃ j : Nat, r = (j : Int) := ⟨r.toNat, by omega⟩
    have hj : j < vs.length := by omega
    have W1 := W.draw x1 S1
    obtain ⟨x, ex, _⟩ := paired_get pvs (List.getElem?_eq_getElem hj)
    have mx : x ∈ L := List.mem_of_getElem? ex
    refine q_cut (M := fun σ H2 => ∃ v L' c2, σ = [some (.ref sr), some (.ref l), some (.ref g), some (.ref t), some (.ref rc), some (.ref m), some (.ref i), some (.int (j : Int)), some v, none, none] ∧ Wd H0 H2 CG CT sr l g t m i rc PP G T L' c2 n ∧ TupM H2 v x ∧ (∀ y ∈ L', y ∈ L) ∧ c1 ≤ c2 ∧ c2 ≤ c1 + 1) ?_ ?_
    · refine ⟨_, rfl, sr, c1, 4, rfl, W1.src, by omega, by decide, by decide, fun r2 c2 H2 s0 s1 d3 d4 x2 S2 => ⟨rfl, _, rfl, ?_⟩⟩
      have W2 := W1.draw x2 S2
      obtain ⟨vs2, gl2, pvs2⟩ := W2.lnk
      have vl2 := paired_len pvs2
      have hj2 : j < vs2.length := by omega
      have e2 : vs2[j]? = some vs2[j] := List.getElem?_eq_getElem hj2
      obtain ⟨x', ex', tx'⟩ := paired_get pvs2 e2
      have : x' = x := by rw [ex] at ex'; exact (Option.some.inj ex').symm
      subst this
      refine ite2 (fun hb => ?_) (fun hb => ?_)
      · exact ⟨_, rfl, _, rfl, l, vs2, _, _, rfl, rfl, sq_of gl2, atI_nat e2, _, L, c2, rfl, W2, tx', fun y my => my, d3, d4⟩
      · refine ⟨_, rfl, .inl ⟨rfl, _, sq_of gl2⟩, _, rfl, l, vs2, _, j, _, rfl, rfl, gl2, by omega, by omega, ?_, e2, _, L.eraseIdx j, c2, rfl, W2.link ((Xc.refl [l] H2).put List.mem_cons_self) ⟨_, upd_same, paired_erase j (paired_mono (fun v' y h => ?_) pvs2)⟩ (W.iv'.1.sub fun y my => List.mem_of_mem_eraseIdx my) ?_, ?_, fun y my => List.mem_of_mem_eraseIdx my, d3, d4⟩
        · rw [seqIndex_of (by omega) (by omega), Int.toNat_natCast]
        · obtain ⟨a, rfl, ha⟩ := h
          have al : a ≠ l := fun z => by rw [z, gl2] at ha; cases ha
          exact ⟨a, rfl, by rw [upd_ne al]; exact ha⟩
        · have := List.length_eraseIdx_le L j
          omega
        · obtain ⟨a, ea, ha⟩ := tx'
          have al : a ≠ l := fun z => by rw [z, gl2] at ha; cases ha
          exact ⟨a, ea, by rw [upd_ne al]; exact ha⟩
    · rintro σ H2 ⟨v, L', c2, rfl, W2, tv, hsub, d3, d4⟩
      refine q_cut (M := fun σ H3 => ∃ u c3, σ = [some (.ref sr), some (.ref l), some (.ref g), some (.ref t), some (.ref rc), some (.ref m), some (.ref i), some (.int (j : Int)), some v, some u, none] ∧ Wd H0 H3 CG CT sr l g t m i rc PP G T L' c3 n ∧ TupM H3 v x ∧ MsgAt H3 u x ∧ c2 ≤ c3 ∧ c3 ≤ c2 + 1) ?_ ?_
      · refine ⟨_, rfl, sr, c2, 5, rfl, W2.src, by omega, by decide, by decide, fun r3 c3 H3 s0 s1 d5 d6 x3 S3 => ⟨rfl, _, rfl, ?_⟩⟩
        have W3 := W2.draw x3 S3
        have tv3 : TupM H3 v x := tv.stay x3 (fun a ma xs => by
          obtain ⟨p, q, e, _⟩ := W2.src
          rw [List.mem_singleton.mp ma, e]
          exact fun z => nomatch z)
        refine ite2 (fun hb => ?_) (fun hb => ?_)
        · obtain ⟨a, rfl, ha⟩ := tv3
          refine ⟨_, rfl, a, _, rfl, .inr (st_of ha), fun b nb => ⟨_, c3, rfl, W3.mono (Ex.new nb), ⟨a, rfl, (Ex.new nb) _ _ ha⟩, ⟨b, rfl, .inl upd_same⟩, d5, d6⟩⟩
        · exact ⟨_, rfl, _, c3, rfl, W3, tv3, tv3.at, d5, d6⟩
      · rintro σ H3 ⟨u, c3, rfl, W3, tv3, mu, d5, d6⟩
        obtain ⟨pg, dt, pm, di, A3, ⟨a1, a2⟩, ⟨b1, b2⟩, dd, z1, z2⟩ := W3.ex
        have Z := apart A3 W3.src W3.lnk W3.rcd
        have okx := msg_ok W.iv'.1 W.iv'.2 (W.iv'.1.ms x mx)
        have I := W.iv'.1
        have tst : ∀ (y : Option V) (H4 : Hp), TupM H4 v x → EvT (tTest (tOp (rIn K false) (tOp (rIxT K) (tVar 8) (tC (.int 0))) (tTup (tCons (tC (.str "whole")) (tCons (tC (.str "going")) tNil))))) [some (.ref sr), some (.ref l), some (.ref g), some (.ref t), some (.ref rc), some (.ref m), some (.ref i), some (.int (j : Int)), some v, some u, y] H4 x.toG := fun y H4 tv4 => by
          obtain ⟨a, rfl, ha⟩ := tv4
          exact et_is (et_test (ev_inU (ev_op (ev_var rfl) ev_c (rv_ixT (st_of ha) (atI_nat (j := 0) (msg0 x)))) (eu_tup (ea_cons ev_c (ea_cons ev_c ea_nil)) (by show 2 ≤ 100000; omega)) rfl rfl)) (toG_in x)
        refine tst none H3 tv3 H3 (Ex.refl H3) _ fun H4 e4 => ?_
        have A4 := A3.mono e4
        have W4 := W3.mono e4
        have tv4 := tv3.mono e4
        have mu4 := mu.mono e4
        obtain ⟨dxg, g1, _⟩ := A4.gv.is
        obtain ⟨dxt, t1⟩ := A4.tk.is
        cases hx : x.toG with
        | true =>
          refine iteT (ef_meth (ev_var rfl) g1 rfl (ea_cons (ev_var rfl) ea_nil) fun H5 e5 => ⟨g, pg, u, G, x, rfl, A4.gv.mono e5, mu4.mono e5, fun H6 x6 N6 => ?_⟩)
          have A5 := A4.mono e5
          have W5 := W4.mono e5
          have no : ∀ {a : Addr}, a ≠ g → a ∉ [g] := fun h z => h (List.mem_singleton.mp z)
          have ntg : ∀ a ∈ [g], ∀ xs, H5 a ≠ some (.tup xs) := fun a ma xs => by
            obtain ⟨dx5, g5, _⟩ := A5.gv.is
            rw [List.mem_singleton.mp ma, g5]
            exact fun z => nomatch z
          have tv6 : TupM H6 v x := (tv4.mono e5).stay x6 ntg
          refine q_if (tst (some .non) H6 tv6) (fun _ H7 e7 => ?_) (fun hb => by rw [hx] at hb; cases hb)
          have mi7 := (A5.mi.xc x6 (no (Ne.symm Z.gs.2.2.2.1)) (no (Ne.symm Z.gs.2.2.2.2.2.2.2.2.1))).mono e7
          refine ef_call (ea_cons (ev_var rfl) (ea_cons (ev_var rfl) ea_nil)) fun H8 e8 => ⟨m, pm, v, G, x, rfl, mi7.mono e8, (tv6.mono e7).mono e8, okx.1, fun H9 x9 N9 => ?_⟩
          refine s_ret (ev_isN (ev_var rfl)) fun H10 e10 => ?_
          have e78 := e7.trans e8
          have nom : ∀ {a : Addr}, a ≠ m → a ∉ [m] := fun h z => h (List.mem_singleton.mp z)
          have ntm : ∀ a ∈ [m], ∀ xs, H8 a ≠ some (.tup xs) := fun a ma xs => by
            have := (mi7.mono e8).is
            rw [List.mem_singleton.mp ma, this]
            exact fun z => nomatch z
          have keep : ∀ {a : Addr} {o : HO}, a ≠ g → a ≠ m → H5 a = some o → H9 a = some o := fun h1 h2 h => x9 _ _ (nom h2) (e78 _ _ (x6 _ _ (no h1) h))
          obtain ⟨tdx, tk5⟩ := A5.tk.is
          have Ig : Iv PP (gRecv G x) T L' := (I.toG mx).sub hsub
          have xx : Xc [g, m] H5 H9 := fun a o na ha => keep (fun z => na (by rw [z]; exact List.mem_cons_self)) (fun z => na (by rw [z]; exact List.mem_cons_of_mem _ List.mem_cons_self)) ha
          have fin : Wd H0 H9 CG CT sr l g t m i rc PP (gRecv G x) T L' c3 n := by
            refine ⟨⟨pg, dt, pm, di, ⟨(N6.mono e78).xc x9 (nom Z.gs.2.2.2.1) (nom (Ne.symm Z.ms.2.2.2.2.2.1)), ⟨⟨tdx, keep (Ne.symm Z.gs.2.2.1) Z.ts.2.2.1 tk5⟩, keep (Ne.symm Z.gs.2.2.2.2.2.1) (Ne.symm Z.ms.2.2.2.1) A5.tk.pcs⟩, N9, ⟨keep (Ne.symm Z.gs.2.2.2.2.1) (Ne.symm Z.ms.2.2.1) A5.it.is, keep (Ne.symm Z.gs.2.2.2.2.2.2.1) (Ne.symm Z.ms.2.2.2.2.1) A5.it.pcs⟩, Ig, W.iv'.2⟩, ⟨a1, a2⟩, ⟨b1, b2⟩, dd, z1, z2⟩, ?_, ?_, W3.len, ?_, W3.ls, keep (Ne.symm Z.gs.2.2.2.2.2.2.2.2.2) (Ne.symm Z.ms.2.2.2.2.2.2.2) W5.rcd, ?_, W3.nw⟩
            · obtain ⟨p, q', e, r⟩ := W5.src
              exact ⟨p, q', keep (Ne.symm Z.gs.1) (Ne.symm Z.ms.1) e, r⟩
            · refine W5.lnk.stay xx ?_ ?_
              · simp only [List.mem_cons, List.not_mem_nil, or_false, not_or]
                exact ⟨Ne.symm Z.gs.2.1, Ne.symm Z.ms.2.1⟩
              · intro a ma xs
                rcases List.mem_cons.mp ma with z | z
                · rw [z]; exact ntg g List.mem_cons_self xs
                · rw [List.mem_singleton.mp z, A5.mi.is]
                  exact fun z => nomatch z
            · have : (gRecv G x).pcs = G.pcs := by
                cases x with
                | whole _ => unfold gRecv; dsimp only; split <;> rfl
                | going _ => unfold gRecv; dsimp only; split <;> rfl
                | piece _ _ _ _ => rfl
                | go _ => rfl
              rw [this]
              exact W.pz
            · refine fr_trans W5.fr xx fun a ma => .inr ?_
              rcases List.mem_cons.mp ma with z | z
              · rw [z]; exact W3.nw.2.1
              · rw [List.mem_singleton.mp z]; exact W3.nw.2.2.2.1
          exact q H10 PP _ T L' c3 (fin.mono e10) (by omega) (by omega)
        | false =>
          refine iteF (ef_meth (ev_var rfl) t1 rfl (ea_cons (ev_var rfl) ea_nil) fun H5 e5 => ⟨t, dt, u, T, x, rfl, A4.tk.mono e5, mu4.mono e5, okx.2, ?_, fun H6 d6' x6 hd6 N6 => ?_⟩)
          · have := (kok I W.iv'.2).2.1
            omega
          have A5 := A4.mono e5
          have W5 := W4.mono e5
          have no : ∀ {a : Addr}, a ≠ t → a ≠ dt → a ∉ [t, dt] := fun h h2 z => by
            rcases List.mem_cons.mp z with z | z
            · exact h z
            · exact h2 (List.mem_singleton.mp z)
          have ntt : ∀ a ∈ [t, dt], ∀ xs, H5 a ≠ some (.tup xs) := fun a ma xs => by
            rcases List.mem_cons.mp ma with z | z
            · obtain ⟨dx5, g5⟩ := A5.tk.is
              rw [z, g5]
              exact fun z => nomatch z
            · rw [List.mem_singleton.mp z, A5.tk.pcs]
              exact fun z => nomatch z
          have tv6 : TupM H6 v x := (tv4.mono e5).stay x6 ntt
          refine q_if (tst (some .non) H6 tv6) (fun hb => by rw [hx] at hb; cases hb) (fun _ H7 e7 => ?_)
          have it7 := (A5.it.xc x6 (no (Ne.symm Z.ts.2.2.2.1) Z.is.2.2.1) (no (Ne.symm Z.ts.2.2.2.2.2.1) (Ne.symm dd))).mono e7
          refine ef_call (ea_cons (ev_var rfl) (ea_cons (ev_var rfl) ea_nil)) fun H8 e8 => ⟨i, di, v, T, x, rfl, it7.mono e8, (tv6.mono e7).mono e8, okx.1, okx.2, ?_, lw_eq I, fun H9 d9 x9 hd9 N9 => ?_⟩
          · have := (kok I W.iv'.2).2.1
            omega
          refine s_ret (ev_isN (ev_var rfl)) fun H10 e10 => ?_
          have e78 := e7.trans e8
          have noi : ∀ {a : Addr}, a ≠ i → a ≠ di → a ∉ [i, di] := fun h h2 z => by
            rcases List.mem_cons.mp z with z | z
            · exact h z
            · exact h2 (List.mem_singleton.mp z)
          have keep : ∀ {a : Addr} {o : HO}, a ≠ t → a ≠ dt → a ≠ i → a ≠ di → H5 a = some o → H9 a = some o := fun h1 h2 h3 h4 h => x9 _ _ (noi h3 h4) (e78 _ _ (x6 _ _ (no h1 h2) h))
          have xx : Xc [t, dt, i, di] H5 H9 := fun a o na ha => by
            simp only [List.mem_cons, List.not_mem_nil, or_false, not_or] at na
            exact keep na.1 na.2.1 na.2.2.1 na.2.2.2 ha
          obtain ⟨dx6, t6⟩ := N6.is
          have nd6i : d6' ≠ i := fun z => by
            have a1 := N6.pcs
            have a2 := (A5.it.xc x6 (no (Ne.symm Z.ts.2.2.2.1) Z.is.2.2.1) (no (Ne.symm Z.ts.2.2.2.2.2.1) (Ne.symm dd))).is
            rw [z, a2] at a1
            injection a1 with a1
            injection a1 with a1
            exact kv_iFs a1.symm
          have nd6di : d6' ≠ di := fun z => by
            rcases hd6 with h | h
            · exact dd (h.symm.trans z)
            · rw [z, A5.it.pcs] at h; cases h
          have hs5 : H5 sr ≠ none := W5.sr_some
          have new6 : H0 d6' = none := by
            rcases hd6 with h | h
            · rw [h]; exact z1
            · exact new_back W5.fr hs5 h
          have new9 : H0 d9 = none := by
            rcases hd9 with h | h
            · rw [h]; exact z2
            · have h6 : H6 d9 = none := fresh_back e78 h
              cases w : H0 d9 with
              | none => rfl
              | some o =>
                have ns : d9 ≠ sr := fun z => by
                  obtain ⟨p, q', e, _⟩ := W5.src
                  have := x6 _ _ (no (Ne.symm Z.ts.1) (Ne.symm Z.ds.1)) e
                  rw [z, this] at h6; cases h6
                have w5 := W5.fr _ _ (fun z => ns (List.mem_singleton.mp z)) w
                have n1 : d9 ≠ t := fun z => by rw [z, W3.nw.2.2.1] at w; cases w
                have n2 : d9 ≠ dt := fun z => by rw [z, z1] at w; cases w
                rw [x6 _ _ (no n1 n2) w5] at h6
                cases h6
          have d69 : d6' ≠ d9 := fun z => by
            rcases hd9 with h | h
            · exact nd6di (z.trans h)
            · have := fresh_back e78 h
              rw [← z, N6.pcs] at this
              cases this
          obtain ⟨gdx, gg5, gp5⟩ := A5.gv.is
          have It : Iv PP G (tRecv T x) L' := (I.toT mx).sub hsub
          have fin : Wd H0 H9 CG CT sr l g t m i rc PP G (tRecv T x) L' c3 n := by
            refine ⟨⟨pg, d6', pm, d9, ⟨⟨⟨gdx, keep Z.gs.2.2.1 Z.gs.2.2.2.2.2.1 Z.gs.2.2.2.2.1 Z.gs.2.2.2.2.2.2.1 gg5, keep (Ne.symm Z.ts.2.2.2.2.2.2.1) (Ne.symm Z.ds.2.2.1) (Ne.symm Z.is.2.2.2.2.1) (Ne.symm Z.es.2.2.1) gp5⟩⟩, (N6.mono e78).xc x9 (noi Z.ts.2.2.2.1 Z.ts.2.2.2.2.2.1) (noi nd6i nd6di), ⟨keep (Ne.symm Z.ts.2.2.1) Z.ms.2.2.2.1 Z.ms.2.2.1 Z.ms.2.2.2.2.1 A5.mi.is, keep (Ne.symm Z.ts.2.2.2.2.2.2.2.1) (Ne.symm Z.ds.2.2.2.1) (Ne.symm Z.is.2.2.2.2.2.1) (Ne.symm Z.es.2.2.2.1) A5.mi.pcs⟩, N9, It, W.iv'.2⟩, ⟨a1, a2⟩, ⟨b1, b2⟩, d69, new6, new9⟩, ?_, ?_, W3.len, W.pz, W3.ls, keep (Ne.symm Z.ts.2.2.2.2.2.2.2.2) (Ne.symm Z.ds.2.2.2.2) (Ne.symm Z.is.2.2.2.2.2.2) (Ne.symm Z.es.2.2.2.2) W5.rcd, ?_, W3.nw⟩
            · obtain ⟨p, q', e, r⟩ := W5.src
              exact ⟨p, q', keep (Ne.symm Z.ts.1) (Ne.symm Z.ds.1) (Ne.symm Z.is.1) (Ne.symm Z.es.1) e, r⟩
            · refine W5.lnk.stay xx ?_ ?_
              · simp only [List.mem_cons, List.not_mem_nil, or_false, not_or]
                exact ⟨Ne.symm Z.ts.2.1, Ne.symm Z.ds.2.1, Ne.symm Z.is.2.1, Ne.symm Z.es.2.1⟩
              · intro a ma xs
                simp only [List.mem_cons, List.not_mem_nil, or_false] at ma
                rcases ma with z | z | z | z
                · rw [z]; exact ntt t List.mem_cons_self xs
                · rw [z]; exact ntt dt (List.mem_cons_of_mem _ List.mem_cons_self) xs
                · rw [z, A5.it.is]; exact fun z => nomatch z
                · rw [z, A5.it.pcs]; exact fun z => nomatch z
            · refine fr_trans W5.fr xx fun a ma => .inr ?_
              simp only [List.mem_cons, List.not_mem_nil, or_false] at ma
              rcases ma with z | z | z | z
              · rw [z]; exact W3.nw.2.2.1
              · rw [z]; exact z1
              · rw [z]; exact W3.nw.2.2.2.2
              · rw [z]; exact z2
          exact q H10 PP G _ L' c3 (fin.mono e10) (by omega) (by omega)
end
end KM
set_option Elab.async false
set_option linter.all false
set_option maxRecDepth 100000
set_option maxHeartbeats 4000000
namespace KM
open PySem PySem.Spec PyProof.Rows L2 Evl KB
theorem join_len : ∀ ss : List Str, (Str.join (("" : String) : Str) ss).length = (ss.map (·.length)).sum
  | [] => by decide +kernel
  | [x] => by simp [Str.join]
  | x :: y :: r => by
    have ih := join_len (y :: r)
    have h0 : (("" : String) : Str).length = 0 := by decide +kernel
    show (x ++ (("" : String) : Str) ++ Str.join (("" : String) : Str) (y :: r)).length = _
    rw [strLen_append, strLen_append, ih, h0]
    simp
theorem words_ok {ss : List Str} (hk6 : ss.length ≤ 6) (h : ∀ s ∈ ss, cpOk s ∧ s.length ≤ 2) : (Txt.join "" ss).length ≤ 20 ∧ cpOk (Txt.join "" ss) := by
  have e : Txt.join (("" : String) : Str) ss = Str.join (("" : String) : Str) ss := TL.join_eq _ _
  refine ⟨?_, ?_⟩
  · rw [e, join_len]
    have := sum_le (n := 2) ss (fun x m => (h x m).2)
    have : ss.length * 2 ≤ 6 * 2 := Nat.mul_le_mul_right _ (by omega)
    omega
  · rw [e]
    exact cp_join (cp_of "") fun t mt => (h t mt).1
theorem paired_dx {H : Hp} : ∀ {vs : List V} {L : List Msg}, Paired (fun v x => TupM H v x) vs L → DxAll H vs (L.map msgD)
  | _, _, .nil => .nil
  | _, _, .cons a r => .cons a.dx (paired_dx r)
theorem Lnk.dx {H : Hp} {l : Addr} {L : List Msg} (h : Lnk H l L) : Dx H (.ref l) (.list (L.map msgD)) := by
  obtain ⟨vs, e, p⟩ := h
  exact .lst e (paired_dx p)
theorem ex_ofS {te : TE} {σ : L2.St} {H : Hp} {ss : List Str} (h : EvL te σ H (ss.map V.str)) : EvX te σ H (.list (ss.map PyData.str)) := fun H1 e Q q => h H1 e _ fun p H2 np e2 gp => q _ H2 e2 (.lst gp (by
  clear h gp q
  induction ss with
  | nil => exact .nil
  | cons s r ih => exact .cons (.str s) ih))
theorem sh_strs {ss : List Str} (h : ss.length ≤ 1000) : Sh 5 (.list (ss.map PyData.str)) := ⟨by rw [List.length_map]; exact h, fun d m => by
  obtain ⟨x, _, rfl⟩ := List.mem_map.mp m
  simp [Sh]⟩
theorem yes_on {A B : Hp → Prop} {σ : L2.St} {H : Hp} (h : A H) : tYes σ H fun b H3 => if b = true then A H3 else B H3 := iteT (B := B H) h
/-- begun: what is known of the tries then -/
def putP (b : Bool) (P : Nat → List Str) (G : Gv) (ps : List Str) : Nat → List Str := if G.ph = wants b ∧ b = true then put P (G.turn + 1) ps else P
section
variable {H0 H H' : Hp} {CG CT sr l g t m i rc pg pm p' pg' : Addr} {P : Nat → List Str} {G : Gv} {T : Tk} {L : List Msg} {c : Int} {n : Nat}
theorem iv_begin {b : Bool} {ps : List Str} (I : Iv P G T L) (ok : ∀ t, ∀ s ∈ P t, okS s) (hp : b = true → ps ≠ [] ∧ ps.length ≤ 20 ∧ ∀ s ∈ ps, okS s) : Iv (putP b P G ps) (gDo b G ps) T L ∧ ∀ t, ∀ s ∈ putP b P G ps t, okS s := by
  cases b with
  | true =>
    by_cases h : G.ph = wants true
    · have e1 : putP true P G ps = put P (G.turn + 1) ps := if_pos ⟨h, rfl⟩
      have e2 : gDo true G ps = { G with ph := .frozen, turn := G.turn + 1, pcs := ps } := by unfold gDo; rw [if_pos h, if_pos rfl]
      rw [e1, e2]
      refine ⟨I.freeze h (hp rfl).1 (hp rfl).2.1, fun t s ms => ?_⟩
      unfold put at ms
      split at ms
      · exact (hp rfl).2.2 s ms
      · exact ok t s ms
    · have e1 : putP true P G ps = P := if_neg fun z => h z.1
      have e2 : gDo true G ps = G := if_neg h
      rw [e1, e2]
      exact ⟨I, ok⟩
  | false =>
    have e1 : putP false P G ps = P := if_neg fun z => by cases z.2
    rw [e1]
    refine ⟨?_, ok⟩
    by_cases h : G.ph = wants false
    · have e2 : gDo false G ps = { G with ph := .runs } := by unfold gDo; rw [if_pos h, if_neg (by decide)]
      rw [e2]
      exact I.resume h
    · have e2 : gDo false G ps = G := if_neg h
      rw [e2]
      exact I
/-- the link and the source change -/
theorem Wd.sent {L' : List Msg} {n' : Nat} {c' : Int} (W : Wd H0 H CG CT sr l g t m i rc P G T L c n) (x : Xc [sr, l] H H') (S : KS.Src H' sr c') (h : Lnk H' l L') (I : Iv P G T L') (hn : L'.length ≤ n') : Wd H0 H' CG CT sr l g t m i rc P G T L' c' n' := by
  obtain ⟨pg, dt, pm, di, A, ⟨a1, a2⟩, ⟨b1, b2⟩, r⟩ := W.ex
  have Z := apart A W.src W.lnk W.rcd
  have no : ∀ {a : Addr}, a ≠ sr → a ≠ l → a ∉ [sr, l] := fun h h2 z => by
    rcases List.mem_cons.mp z with z | z
    · exact h z
    · exact h2 (List.mem_singleton.mp z)
  exact ⟨⟨pg, dt, pm, di, ⟨A.gv.xc x (no Z.gs.1 Z.gs.2.1) (no a2 a1), A.tk.xc x (no Z.ts.1 Z.ts.2.1) (no Z.ds.1 Z.ds.2.1), A.mi.xc x (no Z.ms.1 Z.ms.2.1) (no b2 b1), A.it.xc x (no Z.is.1 Z.is.2.1) (no Z.es.1 Z.es.2.1), I, A.ok⟩, ⟨a1, a2⟩, ⟨b1, b2⟩, r⟩, S, h, hn, W.pz, W.ls, x _ _ (no Z.rs.1 Z.rs.2.1) W.rcd,
    fr_trans W.fr x (fun a ma => (List.mem_cons.mp ma).elim .inl fun z => .inr (by rw [List.mem_singleton.mp z]; exact W.nw.1)), W.nw⟩
theorem Wd.begin {b : Bool} {ps : List Str} (W : Wd H0 H CG CT sr l g t m i rc P G T L c n) (A : ∃ dt di, At H CG CT g pg t dt m pm i di P G T L ∧ (pg ≠ l ∧ pg ≠ sr) ∧ (pm ≠ l ∧ pm ≠ sr) ∧ dt ≠ di ∧ H0 dt = none ∧ H0 di = none)
    (x : Xc [m, g] H H') (hp' : p' = pm ∨ H p' = none) (hpg' : pg' = pg ∨ H pg' = none) (N : MineAt H' m p' (gDo b G ps)) (NG : GvAt H' CG g pg' (gDo b G ps)) (hp : b = true → ps ≠ [] ∧ ps.length ≤ 20 ∧ ∀ s ∈ ps, okS s) :
    Wd H0 H' CG CT sr l g t m i rc (putP b P G ps) (gDo b G ps) T L c n := by
  obtain ⟨dt, di, A, ⟨a1, a2⟩, ⟨b1, b2⟩, dd, z1, z2⟩ := A
  have Z := apart A W.src W.lnk W.rcd
  have no : ∀ {a : Addr}, a ≠ m → a ≠ g → a ∉ [m, g] := fun h h2 z => by
    rcases List.mem_cons.mp z with z | z
    · exact h z
    · exact h2 (List.mem_singleton.mp z)
  obtain ⟨s1, s2, es, rs⟩ := W.src
  obtain ⟨vs, el, pl⟩ := W.lnk
  have I := iv_begin (b := b) (ps := ps) A.iv A.ok hp
  have sep : ∀ {q q' : Addr}, (q' = q ∨ H q' = none) → q ≠ l → q ≠ sr → q' ≠ l ∧ q' ≠ sr := fun h h1 h2 => by
    rcases h with h | h
    · rw [h]; exact ⟨h1, h2⟩
    · exact ⟨fun z => (by rw [z, el] at h; cases h), fun z => (by rw [z, es] at h; cases h)⟩
  refine ⟨⟨pg', dt, p', di, ⟨NG, A.tk.xc x (no Z.ts.2.2.1 (Ne.symm Z.gs.2.2.1)) (no (Ne.symm Z.ms.2.2.2.1) (Ne.symm Z.gs.2.2.2.2.2.1)), N, A.it.xc x (no (Ne.symm Z.ms.2.2.1) (Ne.symm Z.gs.2.2.2.2.1)) (no (Ne.symm Z.ms.2.2.2.2.1) (Ne.symm Z.gs.2.2.2.2.2.2.1)), I.1, I.2⟩, sep hpg' a1 a2, sep hp' b1 b2, dd, z1, z2⟩,
    ⟨s1, s2, x _ _ (no (Ne.symm Z.ms.1) (Ne.symm Z.gs.1)) es, rs⟩, ?_, W.len, ?_, W.ls, x _ _ (no (Ne.symm Z.ms.2.2.2.2.2.2.2) (Ne.symm Z.gs.2.2.2.2.2.2.2.2.2)) W.rcd, fr_trans W.fr x fun a ma => .inr ?_, W.nw⟩
  · refine W.lnk.stay x (no (Ne.symm Z.ms.2.1) (Ne.symm Z.gs.2.1)) fun a ma xs => ?_
    rcases List.mem_cons.mp ma with z | z
    · rw [z, A.mi.is]; exact fun z => nomatch z
    · obtain ⟨dx, g1, _⟩ := A.gv.is
      rw [List.mem_singleton.mp z, g1]; exact fun z => nomatch z
  · unfold gDo
    split
    · split
      · rename_i hb
        exact Nat.le_trans (hp hb).2.1 (by decide)
      · exact W.pz
    · exact W.pz
  · rcases List.mem_cons.mp ma with z | z
    · rw [z]; exact W.nw.2.2.2.1
    · rw [List.mem_singleton.mp z]; exact W.nw.2.1
end
abbrev sStep : Stmt := topS 27
abbrev nStep : List Str := ["_law_source", "_law_link", "_law_giver", "_law_taker", "_law_records", "_law_mine", "_law_its", "_law_way", "_law_turn", "_law_words", "_law_size"]
theorem scStep : FnScope nStep ["_law_source", "_law_link", "_law_giver", "_law_taker", "_law_records"] (defScope sStep) := ⟨rfl, rfl, rfl, by decide +kernel, rfl, by decide +kernel, by decide +kernel⟩
def spStep (CG CT : Addr) : Sp := fun vs H Q _ => ∃ H0 sr l g t m i rc P G T L c n, vs = [.ref sr, .ref l, .ref g, .ref t, .ref rc] ∧ Wd H0 H CG CT sr l g t m i rc P G T L c n ∧ n ≤ 9000 ∧ c < 500000 ∧
  ∀ H' P' G' T' L' c', Wd H0 H' CG CT sr l g t m i rc P' G' T' L' c' (n + 40) → c ≤ c' → c' ≤ c + 100 → Q (.bl true) H'
section
variable {P : Program} {w : World} {K : PySem.W.Frag} {mg : Str → Option Value} {base : Heap} {CG CT f : Addr} {fd : FuncData}
theorem Wd.more {H0 H : Hp} {CG CT sr l g t m i rc : Addr} {P : Nat → List Str} {G : Gv} {T : Tk} {L : List Msg} {c : Int} {n n' : Nat} (W : Wd H0 H CG CT sr l g t m i rc P G T L c n) (h : n ≤ n') : Wd H0 H CG CT sr l g t m i rc P G T L c n' :=
  ⟨W.ex, W.src, W.lnk, Nat.le_trans W.len h, W.pz, W.ls, W.rcd, W.fr, W.nw⟩
theorem ok_Step (F : Fun K "_law_step" "_law_step" sStep f fd) (G__law_draw : Kf P w K mg base 1 "_law_draw" ["_law_source", "_law_bound"] KS.spDraw) (G__law_pick : Kf P w K mg base 2 "_law_pick" ["_law_source", "_law_some"] KS.spPick)
    (G_cut : Kf P w K mg base 1 "cut" ["text", "size"] spCut) (G__law_cut : Kf P w K mg base 1 "_law_cut" ["_law_words", "_law_size"] spCut) (G__law_same : Kf P w K mg base 5 "_law_same" ["_law_found", "_law_due"] (spSame 5))
    (G__law_begin : Kf P w K mg base 6 "_law_begin" ["_law_mine", "_law_giver", "_law_word", "_law_pieces"] (spBegin CG)) (G__law_sent : Kf P w K mg base 3 "_law_sent" ["_law_source", "_law_link", "_law_some"] spSent)
    (G_Giver_messages : Km P w K mg base 1 CG "messages" ["self"] (spGMs CG)) (G_Taker_messages : Km P w K mg base 2 CT "messages" ["self"] (spTMs CT)) (G__law_delivered : Kf P w K mg base 3 "_law_delivered" ["_law_source", "_law_link", "_law_giver", "_law_taker", "_law_records"] (spDeliv CG CT)) (m_range : mg "range" = none) :
    FnOk P w K mg base CX0 7 f fd ["_law_source", "_law_link", "_law_giver", "_law_taker", "_law_records"] (spStep CG CT) := by
  refine F.ok scStep (fun vs H Q E h => ?_) (fun cdv A outer s H vs Q E hr h => ?_)
  · obtain ⟨H0, sr, l, g, t, m, i, rc, PP, G, T, L, c, n, rfl, _⟩ := h
    rfl
  · obtain ⟨H0, sr, l, g, t, m, i, rc, PP, G, T, L, c, n, rfl, W, hn, hc, q⟩ := h
    have nd := scStep.nd
    refine ⟨_, (pss_cons (ps_asg (pv 4) (pg_tup (by rfl) (pgs_cons (pg_name (i := 5) nd rfl (by first | exact .inl rfl | exact .inr rfl)) (pgs_cons (pg_name (i := 6) nd rfl (by first | exact .inl rfl | exact .inr rfl)) pgs_nil))))
      (pss_cons (ps_set (i := 7) nd rfl (by first | exact .inl rfl | exact .inr rfl) (pe_fn G__law_draw (hr.mono (by decide)) (pa_cons (pv 0) (pa_cons pe_int pa_nil))))
      (pss_cons (ps_if (PW.pt (pw_or (pt_cmpR op_eq (pv 7) pe_int (nomark _)) (pw_or1 (pt_cmpR op_eq (pv 7) pe_int (nomark _))))) (pss_cons (ps_set (i := 9) nd rfl (by first | exact .inl rfl | exact .inr rfl) (pe_join pe_str (pe_lc (own := [("_law_turn", 8)]) (g := gName 8) (tt := tYes) (te := tCall KS.spPick [] E0 (tCons (tVar 0) (tCons (tLst (tCons (tC (.str "a")) (tCons (tC (.str "bc")) (tCons (tC (.str " ")) (tCons (tC (.str "~")) (tCons (tC (.str "d")) tNil)))))) tNil))) rfl nd (pi_range1 (by rfl) m_range (pa_cons (pe_fn G__law_draw (hr.mono (by decide)) (pa_cons (pv 0) (pa_cons pe_int pa_nil))) pa_nil)) (blkOk_by (N := nStep) (sc := defScope sStep) (by decide +kernel)) (fun _ _ _ _ _ => (pg_name (i := 8) nd rfl (by first | exact .inl rfl | exact .inr rfl))) (fun _ _ _ _ _ => pts_nil) (fun _ _ _ _ _ => (pe_fn G__law_pick (hr.mono (by decide)) (pa_cons (pv 0) (pa_cons (pe_lst (pa_cons pe_str (pa_cons pe_str (pa_cons pe_str (pa_cons pe_str (pa_cons pe_str pa_nil)))))) pa_nil)))))))
      (pss_cons (ps_set (i := 10) nd rfl (by first | exact .inl rfl | exact .inr rfl) (pe_op op_add pe_int (pe_fn G__law_draw (hr.mono (by decide)) (pa_cons (pv 0) (pa_cons pe_int pa_nil)))))
      (pss_cons (ps_if (pt_not (pt_val (pe_fn G__law_same (hr.mono (by decide)) (pa_cons (pe_fn G_cut (hr.mono (by decide)) (pa_cons (pv 9) (pa_cons (pv 10) pa_nil))) (pa_cons (pe_fn G__law_cut (hr.mono (by decide)) (pa_cons (pv 9) (pa_cons (pv 10) pa_nil))) pa_nil))))) (pss_one (ps_ret pe_bl)) pss_nil)
      (pss_one (ps_ret (pe_fn G__law_begin (hr.mono (by decide)) (pa_cons (pv 5) (pa_cons (pv 2) (pa_cons pe_str (pa_cons (pe_fn G__law_cut (hr.mono (by decide)) (pa_cons (pv 9) (pa_cons (pv 10) pa_nil))) pa_nil)))))))))) pss_nil)
      (pss_cons (ps_if (pt_cmpR op_eq (pv 7) pe_int (nomark _)) (pss_one (ps_ret (pe_or (pe_cmpR op_eq (pe_fn G__law_draw (hr.mono (by decide)) (pa_cons (pv 0) (pa_cons pe_int pa_nil))) pe_int (nomark _)) (pe_one (pe_fn G__law_begin (hr.mono (by decide)) (pa_cons (pv 5) (pa_cons (pv 2) (pa_cons pe_str (pa_cons (pe_lst pa_nil) pa_nil))))))))) pss_nil)
      (pss_cons (ps_if (pt_cmpR op_lt (pv 7) pe_int (nomark _)) (pss_cons (ps_expr (pe_fn G__law_sent (hr.mono (by decide)) (pa_cons (pv 0) (pa_cons (pv 1) (pa_cons (pe_mt0 (pv 2) G_Giver_messages (hr.mono (by decide))) pa_nil)))))
      (pss_one (ps_ret pe_bl))) pss_nil)
      (pss_cons (ps_if (pt_cmpR op_eq (pv 7) pe_int (nomark _)) (pss_cons (ps_expr (pe_fn G__law_sent (hr.mono (by decide)) (pa_cons (pv 0) (pa_cons (pv 1) (pa_cons (pe_mt0 (pv 3) G_Taker_messages (hr.mono (by decide))) pa_nil)))))
      (pss_one (ps_ret pe_bl))) pss_nil)
      (pss_one (ps_ret (pe_or (pe_cmpR (op_eqD hr.units) (pv 1) (pe_lst pa_nil) (nomark _)) (pe_one (pe_fn G__law_delivered (hr.mono (by decide)) (pa_cons (pv 0) (pa_cons (pv 1) (pa_cons (pv 2) (pa_cons (pv 3) (pa_cons (pv 4) pa_nil)))))))))))))))), ?_⟩
    refine ⟨_, rfl, rc, _, rfl, st_of W.rcd, rfl, _, _, rfl, _, _, rfl, rfl, ?_⟩
    refine ⟨_, rfl, sr, c, 12, rfl, W.src, by omega, by decide, by decide, fun way c1 H1 w0 w1 d1 d2 x1 S1 => ?_⟩
    have W1 := W.draw x1 S1
    have fin : ∀ {H2 P2 G2 T2 L2 c2 n2}, Wd H0 H2 CG CT sr l g t m i rc P2 G2 T2 L2 c2 n2 → n2 ≤ n + 40 → c1 ≤ c2 → c2 ≤ c1 + 99 → Q (.bl true) H2 := fun W2 hn2 h1 h2 => q _ _ _ _ _ _ (W2.more hn2) (by omega) (by omega)
    -- what is sent goes to the link
    have sent : ∀ (H2 : Hp) (b : Addr) (ms : List Msg), Ex H1 H2 → H1 b = none → Dx H2 (.ref b) (.list (ms.map msgD)) → ms.length ≤ 20 → (∀ x ∈ ms, okM PP G T x) → spSent [.ref sr, .ref l, .ref b] H2 (fun _ H3 => Q (.bl true) H3) E0 := fun H2 b ms e2 nb gb hms hok => by
      have W2 := W1.mono e2
      obtain ⟨s1, s2, es, _⟩ := W1.src
      obtain ⟨vs, el, _⟩ := W1.lnk
      obtain ⟨us, gb, pu⟩ : ∃ us, H2 b = some (.lst us) ∧ Paired (fun v x => TupM H2 v x) us ms := by
        cases gb with
        | lst e r => exact ⟨_, e, paired_of_dx r⟩
      refine ⟨sr, l, b, c1, us, L, ms, rfl, W2.src, by omega, W2.lnk, by have := W.len; omega, gb, pu, hms, W.ls, fun z => (by rw [z, el] at nb; cases nb), fun z => (by rw [z, es] at nb; cases nb), fun H3 c3 M x3 S3 d3 d4 hL hM hin => ?_⟩
      have W3 := W2.sent x3 S3 hL (W.iv'.1.cat fun y my => hok y (hin y my)) (n' := n + 40) (by rw [List.length_append]; have := W.len; omega)
      exact fin W3 (Nat.le_refl _) d3 (by omega)
    -- begun
    have begun : ∀ (H2 : Hp) (c2 : Int) (b : Bool) (a : Addr) (ps : List Str), Wd H0 H2 CG CT sr l g t m i rc PP G T L c2 n → H2 a = some (.lst (ps.map V.str)) → ps.length ≤ 1000 → (b = true → ps ≠ [] ∧ ps.length ≤ 20 ∧ ∀ s ∈ ps, okS s) → c1 ≤ c2 → c2 ≤ c1 + 99 → spBegin CG [.ref m, .ref g, .str (wordB b), .ref a] H2 Q E0 := fun H2 c2 b a ps W2 ga hps hp h1 h2 => by
      obtain ⟨pg, dt, pm, di, A2, r1, r2, r3⟩ := W2.ex
      exact ⟨m, g, pg, a, pm, b, G, ps, rfl, A2.mi, A2.gv, ga, hps, fun H3 p' pg' x3 hp' hpg' N NG => fin (W2.begin ⟨dt, di, A2, r1, r2, r3⟩ x3 hp' hpg' N NG hp) (by omega) h1 h2⟩
    refine q_when (et_or (et_test (ev_op (ev_var rfl) ev_c (rv_eq rfl))) fun _ => et_test (ev_op (ev_var rfl) ev_c (rv_eq rfl))) (fun _ H2 e2 => ?_) (fun _ H2 e2 => ?_)
    · have W2 := W1.mono e2
      refine ⟨⟨_, rfl⟩, _, rfl, sr, c1, 7, rfl, W2.src, by omega, by decide, by decide, fun n7 c2 H3 a0 a1 d3 d4 x3 S3 => ⟨n7, rfl, by omega, by omega, fun D hD => ?_⟩⟩
      have W3 := W2.draw x3 S3
      have hs3 := W3.sr_some
      have Ds : D ≠ sr := fun z => hs3 (by rw [← z]; exact hD)
      refine lc_it (walk_range (lo := 0) (n := n7.toNat)) (fun k G => ∃ (c3 : Int) (ss : List Str), Xc [sr] H3 G ∧ KS.Src G sr c3 ∧ c2 ≤ c3 ∧ c3 ≤ c2 + k ∧ G D = some (.lst (ss.map V.str)) ∧ ss.length = k ∧ ∀ s ∈ ss, cpOk s ∧ s.length ≤ 2)
        ⟨c2, [], Xc.of (Ex.new hD), S3.mono (Ex.new hD), Int.le_refl _, by omega, upd_same, rfl, fun s ms => nomatch ms⟩ (fun _ _ _ _ => trivial) ?_ ?_
      · rintro k x G' G hk ⟨c3, ss, xG, S4, b1, b2, gD, ls, hs⟩ ⟨rfl, rfl⟩
        refine ⟨rfl, ?_⟩
        refine yes_on ?_
        refine ⟨_, rfl, by show 5 ≤ sizeLine; decide, fun q2 nq2 => ?_⟩
        obtain ⟨s1, s2, es, _⟩ := id S4
        have q2s : q2 ≠ sr := fun z => by rw [z, es] at nq2; cases nq2
        have Dq : D ≠ q2 := fun z => by rw [← z, gD] at nq2; cases nq2
        refine ⟨sr, q2, c3, _, rfl, S4.mono (Ex.new nq2), by omega, q2s, upd_same, by decide, by decide, fun u c4 H4 mu f1 f2 x4 S5 => ?_⟩
        obtain ⟨s, rfl, hss⟩ : ∃ s : Str, u = .str s ∧ (cpOk s ∧ s.length ≤ 2) := by
          simp only [List.mem_cons, List.not_mem_nil, or_false] at mu
          rcases mu with z | z | z | z | z
          · exact ⟨_, z, cp_of _, by decide +kernel⟩
          · exact ⟨_, z, cp_of _, by decide +kernel⟩
          · exact ⟨_, z, cp_of _, by decide +kernel⟩
          · exact ⟨_, z, cp_of _, by decide +kernel⟩
          · exact ⟨_, z, cp_of _, by decide +kernel⟩
        refine ⟨ss.map V.str, x4 _ _ (fun z => Ds (List.mem_singleton.mp z)) (by rw [upd_ne Dq]; exact gD), by rw [List.length_map]; exact sz_lt (by omega), c4, ss ++ [s], ?_, ?_, by omega, by omega, by rw [upd_same, List.map_append]; rfl, by rw [List.length_append, ls]; rfl, fun y my => ?_⟩
        · exact ((xG.trans (Xc.of (Ex.new nq2))).trans x4).new hD
        · obtain ⟨v1, v2, e5, r5⟩ := S5
          exact ⟨v1, v2, by rw [upd_ne (Ne.symm Ds)]; exact e5, r5⟩
        · rcases List.mem_append.mp my with my | my
          · exact hs y my
          · rw [List.mem_singleton.mp my]; exact hss
      · rintro H4 ⟨c3, ss, x4, S4, b1, b2, gD, ls, hs⟩
        have W4 := W3.draw x4 S4
        have wk := words_ok (by omega) hs
        have sl := sum_le (n := 2) ss (fun x m => (hs x m).2)
        have h0 : (("" : String) : Str).length = 0 := by decide +kernel
        refine ⟨_, D, ss, rfl, rfl, .inl (sq_of gD), ?_, ?_⟩
        · rw [h0]
          omega
        refine ⟨_, rfl, sr, c3, 3, rfl, W4.src, by omega, by decide, by decide, fun r c4 H5 r0 r1 f1 f2 x5 S5 => ⟨_, _, rfl, rfl, ?_⟩⟩
        have W5 := W4.draw x5 S5
        obtain ⟨k, ek⟩ : ∃ k : Nat, 1 + r = (k : Int) := ⟨(1 + r).toNat, by omega⟩
        have ek2 : V.int (1 + r) = V.int (k : Int) := congrArg V.int ek
        generalize hw : Txt.join (("" : String) : Str) ss = z at wk ⊢
        show tSeq _ _ _ (List.set _ 10 (some (V.int (1 + r)))) H5
        rw [ek2]
        have cw : ∀ H6, SpL spCut ([.str z, .int (k : Int)] ++ []) H6 ((cutOf z k).map V.str) := fun H6 H7 e7 Q q E => ⟨z, k, rfl, by omega, by omega, by omega, q⟩
        have ok := cutOf_ok (k := k) (by omega) wk.1 wk.2
        refine q_when (et_not (et_B (ev_same (ex_ofS (el_call (ea_cons (ev_var rfl) (ea_cons (ev_var rfl) ea_nil)) (cw H5))) (ex_ofS (el_call (ea_cons (ev_var rfl) (ea_cons (ev_var rfl) ea_nil)) (cw H5))) (sh_strs (by omega))))) (fun hb => by cases hb) (fun _ H6 e6 => ?_)
        refine ⟨_, rfl, _, rfl, _, rfl, _, rfl, z, k, rfl, by omega, by omega, by omega, fun p H7 np e7 gp => ?_⟩
        exact begun H7 c4 true p (cutOf z k) (W5.mono (e6.trans e7)) gp (by omega) (fun _ => ok) (by omega) (by omega)
    refine q_when (et_test (ev_op (ev_var rfl) ev_c (rv_eq rfl))) (fun _ H3 e3 => ?_) (fun _ H3 e3 => ?_)
    · have W3 := W1.mono (e2.trans e3)
      refine ⟨_, rfl, sr, c1, 2, rfl, W3.src, by omega, by decide, by decide, fun r c2 H4 r0 r1 d3 d4 x4 S4 => ⟨rfl, _, rfl, ?_⟩⟩
      have W4 := W3.draw x4 S4
      refine ite2 (fun _ => fin W4 (by omega) d3 (by omega)) (fun _ => ⟨_, rfl, _, rfl, by show 0 ≤ sizeLine; decide, fun p np => ?_⟩)
      exact begun _ c2 false p [] (W4.mono (Ex.new np)) upd_same (by decide) (fun z => nomatch z) d3 (by omega)
    refine q_when (et_test (ev_op (ev_var rfl) ev_c rv_I0)) (fun _ H4 e4 => ?_) (fun _ H4 e4 => ?_)
    · have W4 := W1.mono (e2.trans (e3.trans e4))
      obtain ⟨pg, dt, pm, di, A, r⟩ := W4.ex
      obtain ⟨dx, hg, _⟩ := A.gv.is
      exact ⟨_, rfl, _, rfl, _, rfl, g, dx, _, rfl, hg, rfl, g, pg, G, rfl, A.gv, W.pz, fun b H5 nb e5 db => sent H5 b _ ((e2.trans (e3.trans e4)).trans e5) (fresh_back (e2.trans (e3.trans e4)) nb) db (gm_len A.iv) A.iv.gm⟩
    refine q_when (et_test (ev_op (ev_var rfl) ev_c (rv_eq rfl))) (fun _ H5 e5 => ?_) (fun _ H5 e5 => ?_)
    · have W5 := W1.mono (e2.trans (e3.trans (e4.trans e5)))
      obtain ⟨pg, dt, pm, di, A, r⟩ := W5.ex
      obtain ⟨dx, hg⟩ := A.tk.is
      exact ⟨_, rfl, _, rfl, _, rfl, t, dx, _, rfl, hg, rfl, t, dt, T, rfl, A.tk, run_turn A.iv, fun b H6 nb e6 db => sent H6 b _ ((e2.trans (e3.trans (e4.trans e5))).trans e6) (fresh_back (e2.trans (e3.trans (e4.trans e5))) nb) db (tm_len T) A.iv.tm⟩
    · have W5 := W1.mono (e2.trans (e3.trans (e4.trans e5)))
      refine ⟨_, rfl, by show 0 ≤ sizeLine; decide, fun p np => ?_⟩
      have W6 := W5.mono (Ex.new (o := .lst []) np)
      refine ⟨.list (L.map msgD), .list [], W6.lnk.dx.dp, (Dx.lst upd_same .nil).dp, shaped_l fun x mx => (msg_ok W.iv'.1 W.iv'.2 (W.iv'.1.ms x mx)).1, rfl, _, rfl, ite2 (fun _ => fin W6 (by omega) (Int.le_refl _) (by omega)) (fun hb => ?_)⟩
      have hne : L ≠ [] := fun z => by
        rw [z] at hb
        exact absurd hb (by decide)
      exact ⟨_, rfl, _, rfl, _, rfl, _, rfl, _, rfl, H0, sr, l, g, t, m, i, rc, PP, G, T, L, c1, n, rfl, W6, hne, by omega, by omega, fun H7 P7 G7 T7 L7 c7 W7 h1 h2 => fin W7 (by omega) h1 (by omega)⟩
end
end KM
set_option Elab.async false
set_option linter.all false
set_option maxRecDepth 100000
set_option maxHeartbeats 4000000
namespace KM
open PySem PySem.Spec PyProof.Rows L2 Evl KB
/-- a move without its records' tuple -/
structure Wb (H0 H : Hp) (CG CT sr l g t m i : Addr) (P : Nat → List Str) (G : Gv) (T : Tk) (L : List Msg) (c : Int) (n : Nat) : Prop where
  ex : ∃ pg dt pm di, At H CG CT g pg t dt m pm i di P G T L ∧ (pg ≠ l ∧ pg ≠ sr) ∧ (pm ≠ l ∧ pm ≠ sr) ∧ dt ≠ di ∧ H0 dt = none ∧ H0 di = none
  src : KS.Src H sr c
  lnk : Lnk H l L
  len : L.length ≤ n
  pz : G.pcs.length ≤ 1000
  ls : l ≠ sr
  fr : Xc [sr] H0 H
  nw : H0 l = none ∧ H0 g = none ∧ H0 t = none ∧ H0 m = none ∧ H0 i = none
section
variable {H0 H H' : Hp} {CG CT sr l g t m i rc pg pm d : Addr} {P : Nat → List Str} {G G0 : Gv} {T : Tk} {L : List Msg} {c : Int} {n : Nat}
theorem Wd.base (W : Wd H0 H CG CT sr l g t m i rc P G T L c n) : Wb H0 H CG CT sr l g t m i P G T L c n := ⟨W.ex, W.src, W.lnk, W.len, W.pz, W.ls, W.fr, W.nw⟩
theorem Wb.mono (e : Ex H H') (W : Wb H0 H CG CT sr l g t m i P G T L c n) : Wb H0 H' CG CT sr l g t m i P G T L c n := by
  obtain ⟨pg, dt, pm, di, A, r⟩ := W.ex
  exact ⟨⟨pg, dt, pm, di, A.mono e, r⟩, W.src.mono e, W.lnk.stay (Xc.of e) (M := []) List.not_mem_nil (fun a ma => nomatch ma), W.len, W.pz, W.ls, W.fr.trans (Xc.of e), W.nw⟩
theorem Wb.new (nr : H rc = none) (W : Wb H0 H CG CT sr l g t m i P G T L c n) : Wd H0 (upd H rc (.tup [.ref m, .ref i])) CG CT sr l g t m i rc P G T L c n := by
  have W' := W.mono (Ex.new (o := .tup [.ref m, .ref i]) nr)
  exact ⟨W'.ex, W'.src, W'.lnk, W'.len, W'.pz, W'.ls, upd_same, W'.fr, W'.nw⟩
/-- giver and taker, when the link is good -/
structure Sw (H0 H : Hp) (CG CT sr g t m pg pm : Addr) (G0 : Gv) (P : Nat → List Str) (G : Gv) (T : Tk) (L : List Msg) (c : Int) : Prop where
  gv : GvAt H CG g pg G
  tk : ∃ d, TkAt H CT t d T ∧ H0 d = none
  mi : MineAt H m pm G0
  src : KS.Src H sr c
  fr : Xc [sr] H0 H
  nw : H0 g = none ∧ H0 t = none
  iv : Iv P G T L
  ok : ∀ t, ∀ s ∈ P t, okS s
  pc : G.pcs = G0.pcs
theorem Sw.mono (e : Ex H H') (S : Sw H0 H CG CT sr g t m pg pm G0 P G T L c) : Sw H0 H' CG CT sr g t m pg pm G0 P G T L c := by
  obtain ⟨d, N, z⟩ := S.tk
  exact ⟨S.gv.mono e, ⟨d, N.mono e, z⟩, S.mi.mono e, S.src.mono e, S.fr.trans (Xc.of e), S.nw, S.iv, S.ok, S.pc⟩
theorem Sw.more {L' : List Msg} (S : Sw H0 H CG CT sr g t m pg pm G0 P G T L c) (h : ∀ x ∈ L', okM P G T x) : Sw H0 H CG CT sr g t m pg pm G0 P G T (L ++ L') c :=
  ⟨S.gv, S.tk, S.mi, S.src, S.fr, S.nw, S.iv.cat h, S.ok, S.pc⟩
theorem Sw.toT {d' : Addr} {x : Msg} (S : Sw H0 H CG CT sr g t m pg pm G0 P G T L c) (N : TkAt H CT t d T) (zd : H0 d = none) (mx : x ∈ L) (X : Xc [t, d] H H') (hd : d' = d ∨ H d' = none) (N' : TkAt H' CT t d' (tRecv T x)) :
    Sw H0 H' CG CT sr g t m pg pm G0 P G (tRecv T x) L c := by
  obtain ⟨dxg, g1, g2⟩ := S.gv.is
  obtain ⟨dxt, t1⟩ := N.is
  have t2 := N.pcs
  have m1 := S.mi.is
  have m2 := S.mi.pcs
  obtain ⟨sa, sb, s1, rs⟩ := id S.src
  have no : ∀ {a : Addr}, a ≠ t → a ≠ d → a ∉ [t, d] := fun h h2 z => by
    rcases List.mem_cons.mp z with z | z
    · exact h z
    · exact h2 (List.mem_singleton.mp z)
  have gt : HO.ins CG dxg (gFs G pg) ≠ HO.ins CT dxt (tFs T d) := fun z => by injection z with _ _ z; exact g_t z
  have md : HO.dK (mFs G0 pm) ≠ HO.dK (kvK T.kept) := fun z => by injection z with z; exact kv_mFs z.symm
  have nd : H0 d' = none := by
    rcases hd with h | h
    · rw [h]; exact zd
    · exact new_back S.fr (by rw [s1]; exact fun z => nomatch z) h
  refine ⟨S.gv.xc X (no (neq g1 t1 gt) (neq g1 t2 (fun z => nomatch z))) (no (neq g2 t1 (fun z => nomatch z)) (neq g2 t2 (fun z => nomatch z))), ⟨d', N', nd⟩, S.mi.xc X (no (neq m1 t1 (fun z => nomatch z)) (neq m1 t2 md)) (no (neq m2 t1 (fun z => nomatch z)) (neq m2 t2 (fun z => nomatch z))),
    ⟨sa, sb, X _ _ (no (neq s1 t1 (fun z => nomatch z)) (neq s1 t2 (fun z => nomatch z))) s1, rs⟩, fr_trans S.fr X fun a ma => .inr ?_, S.nw, S.iv.toT mx, S.ok, S.pc⟩
  rcases List.mem_cons.mp ma with z | z
  · rw [z]; exact S.nw.2
  · rw [List.mem_singleton.mp z]; exact zd
theorem gRecv_pcs (G : Gv) (x : Msg) : (gRecv G x).pcs = G.pcs := by
  cases x with
  | piece t i n s => rfl
  | go t => rfl
  | whole t => show (if t = G.turn ∧ G.ph = .frozen then { G with ph := .given } else G : Gv).pcs = _; split <;> rfl
  | going t => show (if t = G.turn ∧ G.ph = .given then { G with known := true } else G : Gv).pcs = _; split <;> rfl
theorem Sw.toG {x : Msg} (S : Sw H0 H CG CT sr g t m pg pm G0 P G T L c) (mx : x ∈ L) (X : Xc [g] H H') (N' : GvAt H' CG g pg (gRecv G x)) :
    Sw H0 H' CG CT sr g t m pg pm G0 P (gRecv G x) T L c := by
  obtain ⟨dxg, g1, g2⟩ := S.gv.is
  obtain ⟨d, N, zd⟩ := S.tk
  obtain ⟨dxt, t1⟩ := N.is
  have t2 := N.pcs
  have m1 := S.mi.is
  have m2 := S.mi.pcs
  obtain ⟨sa, sb, s1, rs⟩ := id S.src
  have no : ∀ {a : Addr}, a ≠ g → a ∉ [g] := fun h z => h (List.mem_singleton.mp z)
  have gt : HO.ins CT dxt (tFs T d) ≠ HO.ins CG dxg (gFs G pg) := fun z => by injection z with _ _ z; exact g_t z.symm
  refine ⟨N', ⟨d, N.xc X (no (neq t1 g1 gt)) (no (neq t2 g1 (fun z => nomatch z))), zd⟩, S.mi.xc X (no (neq m1 g1 (fun z => nomatch z))) (no (neq m2 g1 (fun z => nomatch z))),
    ⟨sa, sb, X _ _ (no (neq s1 g1 (fun z => nomatch z))) s1, rs⟩, fr_trans S.fr X fun a ma => .inr (by rw [List.mem_singleton.mp ma]; exact S.nw.1), S.nw, S.iv.toG mx, S.ok, (gRecv_pcs G x).trans S.pc⟩
theorem Wb.sw (W : Wb H0 H CG CT sr l g t m i P G T L c n) : ∃ pg pm, Sw H0 H CG CT sr g t m pg pm G P G T L c := by
  obtain ⟨pg, dt, pm, di, A, _, _, _, z1, _⟩ := W.ex
  exact ⟨pg, pm, A.gv, ⟨dt, A.tk, z1⟩, A.mi, W.src, W.fr, ⟨W.nw.2.1, W.nw.2.2.1⟩, A.iv, A.ok, rfl⟩
end
end KM
set_option Elab.async false
set_option linter.all false
set_option maxRecDepth 100000
set_option maxHeartbeats 4000000
namespace KM
open PySem PySem.Spec PyProof.Rows L2 Evl KB
section
variable {K : PySem.W.Frag} {σ : L2.St} {H H' : Hp} {ta tb te tl : TE} {D : Ends} {tu : TS} {d e : PyData} {ds : List PyData}
/-- a loop over a new list of data -/
theorem s_forNd {j : Nat} (h : EvN tl σ H (.list ds)) (Pv : Addr → List V → Nat → L2.St → Hp → Prop) (h0 : ∀ a xs H1, H a = none → Ex H H1 → H1 a = some (.lst xs) → DxAll H1 xs ds → Pv a xs 0 σ H1)
    (hl : ∀ a xs i σ' H', i ≤ xs.length → Pv a xs i σ' H' → SqL K H' a xs)
    (hs : ∀ a xs i x σ' H', xs[i]? = some x → Pv a xs i σ' H' → tu { D with nx := Pv a xs (i + 1), ct := Pv a xs (i + 1), bk := D.nx } (σ'.set j (some x)) H') (hd : ∀ a xs σ' H', Pv a xs xs.length σ' H' → D.nx σ' H') : tFor (iList K tl) (gName j) tu D σ H :=
  h H (Ex.refl H) _ fun a H1 na e g => by
    cases g with
    | @lst _ xs _ ga hx => exact ⟨a, rfl, ⟨xs, sq_of ga⟩, for_list (Pv a xs) (h0 a xs H1 na e ga hx) (hl a xs) (hs a xs) (hd a xs)⟩
theorem ev_eqXX (h1 : EvX ta σ H d) (h2 : EvX tb σ H e) (sd : SeqAt.shaped d = true) (se : SeqAt.shaped e = true) : Ev (tOp (rEqD K) ta tb) σ H (.bl (PyData.eqv d e)) := fun H1 e1 Q q =>
  h1 H1 e1 _ fun v H2 e2 dv => h2 H2 (e1.trans e2) _ fun u H3 e3 du => ⟨d, e, (dv.mono e3).dp, du.dp, sd, se, q H3 (e2.trans e3)⟩
end
theorem not_on {A B : Prop} (h : B) : (fun c : Bool => if c = true then A else B) (!true) := iteF (A := A) h
theorem fold_take {α β : Type} {f : β → α → β} {ms : List α} {k : Nat} {x : α} {b : β} (h : ms[k]? = some x) : (ms.take (k + 1)).foldl f b = f ((ms.take k).foldl f b) x := by
  rw [List.take_add_one, h]
  simp [List.foldl_append]
theorem merge_m (pm : Addr) : mergeK [] (mFs ⟨.runs, 0, [], false⟩ pm) = mFs ⟨.runs, 0, [], false⟩ pm := rfl
theorem merge_i (di : Addr) : mergeK [] (iFs ⟨0, 0, [], false⟩ di) = iFs ⟨0, 0, [], false⟩ di := rfl
abbrev sRight : Stmt := topS 28
abbrev nRight : List Str := ["_law_source", "_law_giver", "_law_taker", "_law_link", "_law_mine", "_law_its", "_law_turn", "_law_message"]
theorem scRight : FnScope nRight ["_law_source"] (defScope sRight) := ⟨rfl, rfl, rfl, by decide +kernel, rfl, by decide +kernel, by decide +kernel⟩
def spRight : Sp := fun vs H Q _ => ∃ (sr : Addr) (c : Int), vs = [.ref sr] ∧ KS.Src H sr c ∧ c < 400000 ∧ ∀ (H' : Hp) (c' : Int), Xc [sr] H H' → KS.Src H' sr c' → c ≤ c' → c' ≤ c + 7000 → Q (.bl true) H'
section
variable {P : Program} {w : World} {K : PySem.W.Frag} {mg : Str → Option Value} {base : Heap} {CG CT f : Addr} {fd : FuncData}
theorem ok_Right (F : Fun K "_law_right" "_law_right" sRight f fd) (M_Giver : Kc P w K mg base 2 CG "Giver" ["self"] (spGInit CG)) (M_Taker : Kc P w K mg base 2 CT "Taker" ["self"] (spTInit CT))
    (G_Giver_phase : Km P w K mg base 1 CG "phase" ["self"] (spGPhase CG)) (G_Giver_messages : Km P w K mg base 1 CG "messages" ["self"] (spGMs CG)) (G_Taker_messages : Km P w K mg base 2 CT "messages" ["self"] (spTMs CT)) (G_Taker_running : Km P w K mg base 1 CT "running" ["self"] (spTRun CT))
    (G_Giver_receive : Km P w K mg base 1 CG "receive" ["self", "message"] (spGRecv CG)) (G_Taker_receive : Km P w K mg base 2 CT "receive" ["self", "message"] (spTRecv CT))
    (G__law_step : Kf P w K mg base 7 "_law_step" ["_law_source", "_law_link", "_law_giver", "_law_taker", "_law_records"] (spStep CG CT)) (G__law_kept : Kf P w K mg base 6 "_law_kept" ["_law_giver", "_law_taker", "_law_mine", "_law_its"] (spKept CG CT)) (m_range : mg "range" = none) :
    FnOk P w K mg base CX0 8 f fd ["_law_source"] spRight := by
  refine F.ok scRight (fun vs H Q E h => ?_) (fun cdv A outer s H vs Q E hr h => ?_)
  · obtain ⟨sr, c, rfl, _⟩ := h
    rfl
  · obtain ⟨sr, c, rfl, S, hc, q⟩ := h
    have nd := scRight.nd
    have hu := hu_of hr
    refine ⟨_, (pss_cons (ps_par3 (i := 1) (j := 2) (l := 3) rfl nd rfl rfl rfl (by decide) (by decide) (by decide) (by rfl) (by rfl) (by rfl) (pa_cons (pe_mk0 M_Giver (hr.mono (by decide))) (pa_cons (pe_mk0 M_Taker (hr.mono (by decide))) (pa_cons (pe_lst pa_nil) pa_nil))) (by rfl))
      (pss_cons (ps_set (i := 4) nd rfl (by first | exact .inl rfl | exact .inr rfl) (pe_disp (pps_cons pe_str pe_str (pps_cons pe_str pe_int (pps_cons pe_str (pe_lst pa_nil) (pps_cons pe_str pe_bl pps_nil)))) (by rfl) (by rfl) (fun z => by cases z) (by decide)))
      (pss_cons (ps_set (i := 5) nd rfl (by first | exact .inl rfl | exact .inr rfl) (pe_disp (pps_cons pe_str pe_int (pps_cons pe_str pe_int (pps_cons pe_str pe_dnewK (pps_cons pe_str pe_bl pps_nil)))) (by rfl) (by rfl) (fun z => by cases z) (by decide)))
      (pss_cons (ps_for PassesOwn.never rfl (pi_range1 (by rfl) m_range (pa_cons pe_int pa_nil)) (pg_name (i := 6) nd rfl (by first | exact .inl rfl | exact .inr rfl)) (pss_one (ps_if (PW.pt (pw_or (pt_not (pt_val (pe_fn G__law_step (hr.mono (by decide)) (pa_cons (pv 0) (pa_cons (pv 3) (pa_cons (pv 1) (pa_cons (pv 2) (pa_cons (pe_tup (pa_cons (pv 4) (pa_cons (pv 5) pa_nil))) pa_nil)))))))) (pw_or1 (pt_not (pt_val (pe_fn G__law_kept (hr.mono (by decide)) (pa_cons (pv 1) (pa_cons (pv 2) (pa_cons (pv 4) (pa_cons (pv 5) pa_nil)))))))))) (pss_one (ps_ret pe_bl)) pss_nil)))
      (pss_cons (ps_if (pt_cmpR op_eq (pe_mt0 (pv 1) G_Giver_phase (hr.mono (by decide))) pe_str (nomark _)) (pss_one (ps_ret (pe_cmp (pc_isN (pe_mt0 (pv 2) G_Taker_running (hr.mono (by decide)))) rfl))) pss_nil)
      (pss_cons (ps_for PassesOwn.never rfl (pi_range1 (by rfl) m_range (pa_cons pe_int pa_nil)) (pg_name (i := 6) nd rfl (by first | exact .inl rfl | exact .inr rfl)) (pss_cut (ps_for PassesOwn.never rfl (pi_list (pe_mt0 (pv 1) G_Giver_messages (hr.mono (by decide)))) (pg_name (i := 7) nd rfl (by first | exact .inl rfl | exact .inr rfl)) (pss_one (ps_expr (pe_mt (pv 2) G_Taker_receive (hr.mono (by decide)) (pa_cons (pv 7) pa_nil)))))
      (pss_one (ps_for PassesOwn.never rfl (pi_list (pe_mt0 (pv 2) G_Taker_messages (hr.mono (by decide)))) (pg_name (i := 7) nd rfl (by first | exact .inl rfl | exact .inr rfl)) (pss_one (ps_expr (pe_mt (pv 1) G_Giver_receive (hr.mono (by decide)) (pa_cons (pv 7) pa_nil))))))))
      (pss_one (ps_ret (pe_cmpR (op_eqD hr.units) (pe_lst (pa_cons (pe_mt0 (pv 1) G_Giver_phase (hr.mono (by decide))) (pa_cons (pe_mt0 (pv 1) G_Giver_messages (hr.mono (by decide))) (pa_cons (pe_mt0 (pv 2) G_Taker_running (hr.mono (by decide))) pa_nil)))) (pe_lst (pa_cons pe_str (pa_cons (pe_lst pa_nil) (pa_cons (pe_join pe_str (pe_dget hu (pv 4) pe_str (fun _ _ => rfl))) pa_nil)))) (nomark _)))))))))), ?_⟩
    intro g dg ng ndg neg
    refine ⟨g, dg, rfl, upd_same, fun H1 pg x1 npg NG => ⟨rfl, ?_⟩⟩
    have eA : Ex H (upd (upd H dg (.own g)) g (.ins CG dg [])) := Ex.mut (Ex.new ndg) ng
    have e1 : Ex H H1 := fun a o ha => x1 a o (fun z => by rw [List.mem_singleton.mp z, ng] at ha; cases ha) (eA a o ha)
    intro t dt nt ndt net
    refine ⟨t, dt, rfl, upd_same, fun H2 d x2 nd2 NT => ⟨rfl, ?_⟩⟩
    have eB : Ex H1 (upd (upd H1 dt (.own t)) t (.ins CT dt [])) := Ex.mut (Ex.new ndt) nt
    have e2 : Ex H1 H2 := fun a o ha => x2 a o (fun z => by rw [List.mem_singleton.mp z, nt] at ha; cases ha) (eB a o ha)
    refine ⟨by show 0 ≤ sizeLine; decide, fun l nl => ⟨_, _, _, rfl, ?_⟩⟩
    have e4 : Ex H2 (upd H2 l (.lst [])) := Ex.new nl
    have gl4 : upd H2 l (.lst []) l = some (.lst []) := upd_same
    generalize upd H2 l (.lst []) = H4 at e4 gl4 ⊢
    intro m nm
    refine ⟨by show 0 ≤ sizeLine; decide, fun pm npm => ?_⟩
    have mpm : m ≠ pm := ne_of_none upd_same npm
    refine ⟨by rw [upd_ne mpm]; exact upd_same, mFs ⟨.runs, 0, [], false⟩ pm, rfl, by show 4 ≤ 15; decide, ?_⟩
    rw [merge_m]
    have e5 : Ex H4 (upd (upd (upd H4 m (.dK [])) pm (.lst [])) m (.dK (mFs ⟨.runs, 0, [], false⟩ pm))) := Ex.mut ((Ex.new nm).trans (Ex.new npm)) nm
    have NM : MineAt (upd (upd (upd H4 m (.dK [])) pm (.lst [])) m (.dK (mFs ⟨.runs, 0, [], false⟩ pm))) m pm ⟨.runs, 0, [], false⟩ := ⟨upd_same, by rw [upd_ne (Ne.symm mpm)]; exact upd_same⟩
    have npm4 : H4 pm = none := fresh_back (Ex.new nm) npm
    generalize upd (upd (upd H4 m (.dK [])) pm (.lst [])) m (.dK (mFs ⟨.runs, 0, [], false⟩ pm)) = H5 at e5 NM ⊢
    intro i ni di ndi
    have idi : i ≠ di := ne_of_none upd_same ndi
    refine ⟨by rw [upd_ne idi]; exact upd_same, iFs ⟨0, 0, [], false⟩ di, rfl, by show 4 ≤ 15; decide, ?_⟩
    rw [merge_i]
    have e6 : Ex H5 (upd (upd (upd H5 i (.dK [])) di (.dK [])) i (.dK (iFs ⟨0, 0, [], false⟩ di))) := Ex.mut ((Ex.new ni).trans (Ex.new ndi)) ni
    have NI : ItsAt (upd (upd (upd H5 i (.dK [])) di (.dK [])) i (.dK (iFs ⟨0, 0, [], false⟩ di))) i di ⟨0, 0, [], false⟩ := ⟨upd_same, by rw [upd_ne (Ne.symm idi)]; exact upd_same⟩
    have ndi5 : H5 di = none := fresh_back (Ex.new ni) ndi
    generalize upd (upd (upd H5 i (.dK [])) di (.dK [])) i (.dK (iFs ⟨0, 0, [], false⟩ di)) = H6 at e6 NI ⊢
    have x12 := e1.trans e2
    have x14 := x12.trans e4
    have x15 := x14.trans e5
    have x16 := x15.trans e6
    obtain ⟨sa, sb, es, _⟩ := id S
    have nsr : ∀ {a : Addr}, H a = none → a ≠ sr := fun h z => by rw [z, es] at h; cases h
    have W6 : Wb H H6 CG CT sr l g t m i (fun _ => [("" : String)]) ⟨.runs, 0, [], false⟩ ⟨0, 0, [], false⟩ [] c 0 := by
      obtain ⟨dxg, hg1, hg2⟩ := NG.is
      refine ⟨⟨pg, d, pm, di, ⟨NG.mono (e2.trans (e4.trans (e5.trans e6))), NT.mono (e4.trans (e5.trans e6)), NM.mono e6, NI, iv_init, fun _ s ms => ?_⟩, ⟨ne_of_none (e2 _ _ hg2) nl, nsr (fresh_back eA npg)⟩, ⟨Ne.symm (ne_of_none gl4 npm4), nsr (fresh_back x14 npm4)⟩, ne_of_none (e5 _ _ (e4 _ _ NT.pcs)) ndi5, fresh_back (e1.trans eB) nd2, fresh_back x15 ndi5⟩,
        S.mono x16, ⟨[], e6 _ _ (e5 _ _ gl4), .nil⟩, Nat.le_refl _, by decide, nsr (fresh_back x12 nl), Xc.of x16, fresh_back x12 nl, ng, fresh_back e1 nt, fresh_back x14 nm, fresh_back x15 ni⟩
      rw [List.mem_singleton.mp ms]
      exact ⟨cp_of "", by decide +kernel⟩
    refine q_forR1 (ea_cons ev_c ea_nil) ⟨by decide, by decide⟩ (fun k σ G6 => (∃ y, σ = [some (.ref sr), some (.ref g), some (.ref t), some (.ref l), some (.ref m), some (.ref i), y, none]) ∧ ∃ P' G' T' L' c', Wb H G6 CG CT sr l g t m i P' G' T' L' c' (40 * k) ∧ c ≤ c' ∧ c' ≤ c + 100 * k) (fun H7 e7 => ⟨⟨_, rfl⟩, _, _, _, _, c, W6.mono e7, Int.le_refl _, by omega⟩) ?_ ?_
    · rintro k σ' G6 hk ⟨⟨y, rfl⟩, P', G', T', L', c', W7, h1, h2⟩
      refine ⟨_, rfl, _, rfl, _, rfl, _, rfl, _, rfl, _, rfl, by show 2 ≤ sizeLine; decide, fun rc nrc => ⟨H, sr, l, g, t, m, i, rc, P', G', T', L', c', 40 * k, rfl, W7.new nrc, by omega, by omega, fun H8 P8 G8 T8 L8 c8 W8 f1 f2 => ⟨true, rfl, ?_⟩⟩⟩
      refine not_on ?_
      obtain ⟨pg8, dt8, pm8, di8, A8, _⟩ := W8.ex
      refine ⟨_, rfl, _, rfl, _, rfl, _, rfl, g, pg8, t, dt8, m, pm8, i, di8, P8, G8, T8, L8, rfl, A8, W8.pz, fun H9 e9 => ⟨true, rfl, ?_⟩⟩
      refine not_on ?_
      exact ⟨⟨_, rfl⟩, P8, G8, T8, L8, c8, (W8.base.mono e9), by omega, by omega⟩
    · rintro σ' H7 ⟨⟨y, rfl⟩, PP, G, T, L, c7, W7, h1, h2⟩
      have h2 : c7 ≤ c + 7000 := by
        have : ((70 : Int).toNat : Int) = 70 := by decide
        omega
      obtain ⟨pg7, pm7, S7⟩ := W7.sw
      obtain ⟨d7, N7, z7⟩ := S7.tk
      obtain ⟨dxg, hg1, hg2⟩ := S7.gv.is
      obtain ⟨dxt, ht1⟩ := N7.is
      have cPh : SpV (spGPhase CG) [.ref g] H7 (.str G.ph.w) := fun H2 e2 Q q E => ⟨g, pg7, G, rfl, S7.gv.mono e2, q⟩
      refine q_when (et_is (et_test (ev_op (ev_meth0 (ev_var rfl) hg1 rfl cPh) ev_c (rv_eq rfl))) (ph_ne G.ph .runs)) (fun hb H8 e8 => ?_) (fun hb H8 e8 => ?_)
      · have hp : G.ph = .runs := of_decide_eq_true hb
        have tv : textV T = .non := by
          unfold textV
          rw [if_neg]
          intro z
          have := S7.iv.rn z
          rw [hp] at this
          cases this
        have cTr : SpV (spTRun CT) [.ref t] H8 (textV T) := fun H2 e2 Q q E => ⟨t, d7, T, rfl, N7.mono (e8.trans e2), kok S7.iv S7.ok, q⟩
        rw [tv] at cTr
        refine s_ret (ev_isN (ev_meth0 (ev_var rfl) (e8 _ _ ht1) rfl cTr)) fun H9 e9 => ?_
        exact q H9 c7 (S7.fr.trans (Xc.of (e8.trans e9))) (S7.src.mono (e8.trans e9)) h1 h2
      · have hp : G.ph ≠ .runs := of_decide_eq_false hb
        refine q_forR1 (ea_cons ev_c ea_nil) ⟨by decide, by decide⟩ (fun k σ G6 => (∃ y z, σ = [some (.ref sr), some (.ref g), some (.ref t), some (.ref l), some (.ref m), some (.ref i), y, z]) ∧ ∃ G' T' L', Sw H G6 CG CT sr g t m pg7 pm7 G PP G' T' L' c7 ∧ Good k G') (fun H9 e9 => ⟨⟨_, _, rfl⟩, G, T, L, S7.mono (e8.trans e9), hp, fun z => absurd z (by decide), fun z => absurd z (by decide)⟩) ?_ ?_
        · rintro k σ' G6 hk ⟨⟨y, z, rfl⟩, G1, T1, L1, S9, go⟩
          have lp : G1.pcs.length ≤ 1000 := Nat.le_trans (pcs_len S9.iv go.1) (by decide)
          refine q_cut (M := fun σ2 H2 => (∃ y z, σ2 = [some (.ref sr), some (.ref g), some (.ref t), some (.ref l), some (.ref m), some (.ref i), y, z]) ∧ Sw H H2 CG CT sr g t m pg7 pm7 G PP G1 (swapT G1 T1) (L1 ++ gMsgs G1) c7) ?_ ?_
          · obtain ⟨dxg9, hg9, _⟩ := S9.gv.is
            have gm : EvN (tMeth CG "messages" (spGMs CG) [] E0 (tVar 1) tNil) [some (.ref sr), some (.ref g), some (.ref t), some (.ref l), some (.ref m), some (.ref i), some (.int (k : Int)), z] G6 (.list ((gMsgs G1).map msgD)) := fun H2 e2 Q q => ⟨_, rfl, g, dxg9, _, rfl, e2 _ _ hg9, rfl, g, pg7, G1, rfl, S9.gv.mono e2, lp, fun a H3 na e3 da => q a H3 na e3 da⟩
            refine s_forNd gm (fun b us j σ' H' => (∃ y z, σ' = [some (.ref sr), some (.ref g), some (.ref t), some (.ref l), some (.ref m), some (.ref i), y, z]) ∧ H' b = some (.lst us) ∧ Paired (fun v x => TupM H' v x) us (gMsgs G1) ∧ Sw H H' CG CT sr g t m pg7 pm7 G PP G1 (((gMsgs G1).take j).foldl tRecv T1) (L1 ++ gMsgs G1) c7)
              (fun b us H1 nb e gb dx => ⟨⟨_, _, rfl⟩, gb, paired_of_dx dx, (S9.mono e).more S9.iv.gm⟩) (fun b us j σ' H' _ pv => sq_of pv.2.1) ?_ ?_
            · rintro b us j x σ' H' hx ⟨⟨y, z, rfl⟩, gb, pu, Sj⟩
              obtain ⟨mm, em, tm⟩ := paired_get pu hx
              obtain ⟨d, N, zd⟩ := Sj.tk
              obtain ⟨dxt, ht⟩ := N.is
              have mm1 : mm ∈ L1 ++ gMsgs G1 := List.mem_append_right _ (List.mem_of_getElem? em)
              have mok := msg_ok Sj.iv Sj.ok (Sj.iv.ms mm mm1)
              obtain ⟨a, rfl, ha⟩ := tm
              have kk := (kok Sj.iv Sj.ok).2.1
              refine ⟨_, rfl, t, dxt, _, rfl, ht, rfl, _, rfl, t, d, .ref a, _, mm, rfl, N, ⟨a, rfl, .inr ha⟩, mok.2, by omega, fun H2 d' X hd N' => ?_⟩
              have nt : ∀ c ∈ [t, d], ∀ xs, H' c ≠ some (.tup xs) := fun c mc xs => by
                rcases List.mem_cons.mp mc with w | w
                · rw [w, ht]; exact fun w => nomatch w
                · rw [List.mem_singleton.mp w, N.pcs]; exact fun w => nomatch w
              refine ⟨⟨_, _, rfl⟩, X _ _ (fun w => ?_) gb, paired_mono (fun v y hy => hy.stay X nt) pu, ?_⟩
              · rcases List.mem_cons.mp w with w | w
                · exact neq gb ht (fun w => nomatch w) w
                · exact neq gb N.pcs (fun w => nomatch w) (List.mem_singleton.mp w)
              · rw [fold_take em]
                exact Sj.toT N zd mm1 X hd N'
            · rintro b us σ' H' ⟨hσ, gb, pu, Sj⟩
              rw [paired_len pu, List.take_length] at Sj
              exact ⟨hσ, Sj⟩
          · rintro σ2 H2 ⟨⟨y2, z2, rfl⟩, S2⟩
            obtain ⟨d2, N2, _⟩ := S2.tk
            obtain ⟨dxt2, ht2⟩ := N2.is
            have tmN : EvN (tMeth CT "messages" (spTMs CT) [] E0 (tVar 2) tNil) [some (.ref sr), some (.ref g), some (.ref t), some (.ref l), some (.ref m), some (.ref i), y2, z2] H2 (.list ((tMsgs (swapT G1 T1)).map msgD)) := fun H3 e3 Q q => ⟨_, rfl, t, dxt2, _, rfl, e3 _ _ ht2, rfl, t, d2, _, rfl, N2.mono e3, run_turn S2.iv, fun a H3 na e3 da => q a H3 na e3 da⟩
            refine s_forNd tmN (fun b us j σ' H' => (∃ y z, σ' = [some (.ref sr), some (.ref g), some (.ref t), some (.ref l), some (.ref m), some (.ref i), y, z]) ∧ H' b = some (.lst us) ∧ Paired (fun v x => TupM H' v x) us (tMsgs (swapT G1 T1)) ∧ Sw H H' CG CT sr g t m pg7 pm7 G PP (((tMsgs (swapT G1 T1)).take j).foldl gRecv G1) (swapT G1 T1) ((L1 ++ gMsgs G1) ++ tMsgs (swapT G1 T1)) c7)
              (fun b us H1 nb e gb dx => ⟨⟨_, _, rfl⟩, gb, paired_of_dx dx, (S2.mono e).more S2.iv.tm⟩) (fun b us j σ' H' _ pv => sq_of pv.2.1) ?_ ?_
            · rintro b us j x σ' H' hx ⟨⟨y, z, rfl⟩, gb, pu, Sj⟩
              obtain ⟨mm, em, tm⟩ := paired_get pu hx
              obtain ⟨dxg, hg, hp2⟩ := Sj.gv.is
              have mm1 : mm ∈ (L1 ++ gMsgs G1) ++ tMsgs (swapT G1 T1) := List.mem_append_right _ (List.mem_of_getElem? em)
              obtain ⟨a, rfl, ha⟩ := tm
              refine ⟨_, rfl, g, dxg, _, rfl, hg, rfl, _, rfl, g, pg7, .ref a, _, mm, rfl, Sj.gv, ⟨a, rfl, .inr ha⟩, fun H2 X N' => ?_⟩
              have nt : ∀ c ∈ [g], ∀ xs, H' c ≠ some (.tup xs) := fun c mc xs => by
                rw [List.mem_singleton.mp mc, hg]; exact fun w => nomatch w
              refine ⟨⟨_, _, rfl⟩, X _ _ (fun w => neq gb hg (fun w => nomatch w) (List.mem_singleton.mp w)) gb, paired_mono (fun v y hy => hy.stay X nt) pu, ?_⟩
              rw [fold_take em]
              exact Sj.toG mm1 X N'
            · rintro b us σ' H' ⟨⟨y, z, rfl⟩, gb, pu, Sj⟩
              rw [paired_len pu, List.take_length] at Sj
              exact ⟨⟨_, _, rfl⟩, swapG G1 T1, swapT G1 T1, _, Sj, (good_step S9.iv go).1⟩
        · rintro σ' H9 ⟨⟨y, z, rfl⟩, G1, T1, L1, S9, go⟩
          have gn : G1.ph = .given := go.2.1 (by decide)
          have kn : G1.known = true := go.2.2 (by decide)
          have run := S9.iv.kn kn
          obtain ⟨tt, wh⟩ := S9.iv.gv gn
          have gp : G1.pcs = PP G1.turn := (S9.iv.g0.resolve_left (by rw [gn]; intro z; cases z)).2
          have gm0 : gMsgs G1 = [] := by unfold gMsgs; rw [gn]; dsimp only; rw [if_pos kn]
          have tx : textV T1 = .str (Txt.join "" G.pcs) := by unfold textV; rw [if_pos run, in_order S9.iv wh, tt, ← gp, S9.pc]
          have lp : G1.pcs.length ≤ 20 := pcs_len S9.iv go.1
          have oks : ∀ x ∈ G.pcs, okS x := fun x mx => S9.ok G1.turn x (by rw [← gp, S9.pc]; exact mx)
          obtain ⟨d9, N9, z9⟩ := S9.tk
          obtain ⟨dxg9, hg9, _⟩ := S9.gv.is
          obtain ⟨dxt9, ht9⟩ := N9.is
          have cPh : SpV (spGPhase CG) [.ref g] H9 (.str "given") := fun H2 e2 Q q E => ⟨g, pg7, G1, rfl, S9.gv.mono e2, by rw [gn]; exact q⟩
          have cGm : SpX (spGMs CG) [.ref g] H9 (.list []) := fun H2 e2 Q q E => ⟨g, pg7, G1, rfl, S9.gv.mono e2, by omega, fun a H3 _ e3 da => by rw [gm0] at da; exact q _ H3 e3 da⟩
          have cTr : SpV (spTRun CT) [.ref t] H9 (.str (Txt.join "" G.pcs)) := fun H2 e2 Q q E => ⟨t, d9, T1, rfl, N9.mono e2, kok S9.iv S9.ok, by rw [tx]; exact q⟩
          have jz : (G.pcs.map (·.length)).sum + G.pcs.length * (("" : String) : Str).length ≤ 16777216 := by
            have h0 : (("" : String) : Str).length = 0 := by decide +kernel
            have s1 := sum_le (n := 100) G.pcs (fun x mx => (oks x mx).2)
            rw [S9.pc] at lp
            have s3 : G.pcs.length * 100 ≤ 20 * 100 := Nat.mul_le_mul_right _ lp
            rw [h0]
            omega
          have jn : Ev (tM1 (fun x xs H Q => ∃ a p, ∃ ys : List Str, x = .str a ∧ xs = [.ref p] ∧ (SqL K H p (ys.map V.str) ∨ SqT K H p (ys.map V.str)) ∧ (ys.map (·.length)).sum + ys.length * a.length ≤ 16777216 ∧ Q (.str (Txt.join a ys)) H) (tC (.str "")) (tDGet (tVar 4) (tC (.str "pieces")))) [some (.ref sr), some (.ref g), some (.ref t), some (.ref l), some (.ref m), some (.ref i), y, z] H9 (.str (Txt.join "" G.pcs)) := fun H7 e7 Q7 q7 =>
            ⟨⟨_, rfl⟩, (mine_ev (ta := tVar 4) (σ := [some (.ref sr), some (.ref g), some (.ref t), some (.ref l), some (.ref m), some (.ref i), y, z]) (ev_var rfl) (S9.mi.mono e7)).2.2.1 H7 (Ex.refl H7) _ fun H8 e8 => ⟨_, pm7, G.pcs, rfl, rfl, .inl (sq_of ((S9.mi.mono (e7.trans e8)).pcs)), jz, q7 H8 e8⟩⟩
          have sh : SeqAt.shaped (.list [.str "given", .list [], .str (Txt.join "" G.pcs)]) = true := by
            have a1 := lay_w "given"
            have a2 : PyData.canLay0 (.str (Txt.join "" G.pcs)) = true := cp_lay (by rw [TL.join_eq]; exact cp_join (cp_of "") fun x mx => (oks x mx).1)
            have d2 : PyData.canLay0 (.list [.str "given", .list [], .str (Txt.join "" G.pcs)]) = true := by
              show PyData.canLayAll0 _ = true
              simp only [PyData.canLayAll0]
              rw [a1, a2]
              rfl
            show (PyData.canLay0 _ && decide (PyData.depth _ ≤ 64)) = true
            rw [d2, decide_eq_true (by simp [PyData.depth, PyData.depthAll])]
            rfl
          refine s_ret (ev_is (ev_eqXX (K := K) (ex_lstA (xa_cons (ev_x (ev_meth0 (ev_var rfl) hg9 rfl cPh) (.str _)) (xa_cons (ex_meth0 (ev_var rfl) hg9 rfl cGm) (xa_cons (ev_x (ev_meth0 (ev_var rfl) ht9 rfl cTr) (.str _)) xa_nil))) (by show 3 ≤ 100000; omega)) (ex_lstA (xa_cons (ev_x ev_c (.str _)) (xa_cons (ex_lstA xa_nil (by show 0 ≤ 100000; omega)) (xa_cons (ev_x jn (.str _)) xa_nil))) (by show 3 ≤ 100000; omega)) sh sh) (congrArg V.bl (SeqAt.eqv_refl _ (SeqAt.canLay_of_shaped sh)))) fun H10 e10 => ?_
          exact q H10 c7 (S9.fr.trans (Xc.of e10)) (S9.src.mono e10) h1 h2
end
end KM
set_option Elab.async false
set_option linter.all false
set_option maxRecDepth 100000
set_option maxHeartbeats 4000000
namespace KM
open PySem PySem.Spec PyProof.Rows L2 Evl KB
abbrev sLaw : Stmt := topS 29
abbrev nLaw : List Str := ["_law_script", "_law_cells", "_law_k", "_law_source", "_law_turn"]
theorem scLaw : FnScope nLaw ["_law_script"] (defScope sLaw) := ⟨rfl, rfl, rfl, by decide +kernel, rfl, by decide +kernel, by decide +kernel⟩
def spLaw (K : PySem.W.Frag) : Sp := fun vs H Q _ => ∃ (a : Addr) (ns : List Int), vs = [.ref a] ∧ SqL K H a (ns.map V.int) ∧ ns.length ≤ 63 ∧ ∀ H', Q (.bl true) H'
section
variable {P : Program} {w : World} {K : PySem.W.Frag} {mg : Str → Option Value} {base : Heap} {CG CT f : Addr} {fd : FuncData}
theorem ok_Law (F : Fun K "law" "law" sLaw f fd) (G__law_folded : Kf P w K mg base 1 "_law_folded" ["_law_script", "_law_most"] (KS.spFolded K)) (G__law_stream : Kf P w K mg base 1 "_law_stream" ["_law_script", "_law_k"] (KS.spStream K)) (G__law_right : Kf P w K mg base 8 "_law_right" ["_law_source"] spRight)
    (m_range : mg "range" = none) (m_len : mg "len" = none) (m_all : mg "all" = none) : FnOk P w K mg base CX0 9 f fd ["_law_script"] (spLaw K) := by
  refine F.ok scLaw (fun vs H Q E h => ?_) (fun cdv A outer s H vs Q E hr h => ?_)
  · obtain ⟨a, ns, rfl, _⟩ := h
    rfl
  · obtain ⟨a, ns, rfl, hS, hn, q⟩ := h
    have nd := scLaw.nd
    refine ⟨_, (pss_cons (ps_set (i := 1) nd rfl (by first | exact .inl rfl | exact .inr rfl) (pe_fn G__law_folded (hr.mono (by decide)) (pa_cons (pv 0) (pa_cons pe_int pa_nil))))
      (pss_cons (ps_for PassesOwn.never rfl (pi_range1 (by rfl) m_range (pa_cons (pe_callB call_len_seq (by rfl) m_len (by decide +kernel) (pa_cons (pv 1) pa_nil)) pa_nil)) (pg_name (i := 2) nd rfl (by first | exact .inl rfl | exact .inr rfl)) (pss_cons (ps_set (i := 3) nd rfl (by first | exact .inl rfl | exact .inr rfl) (pe_fn G__law_stream (hr.mono (by decide)) (pa_cons (pv 1) (pa_cons (pv 2) pa_nil))))
      (pss_one (ps_if (pt_not (pt_val (pe_callB (cr_all rfl) (by rfl) m_all (by decide +kernel) (pa_cons (pe_lc (own := [("_law_turn", 4)]) (g := gName 4) (tt := tYes) (te := tCall spRight [] E0 (tCons (tVar 3) tNil)) rfl nd (pi_range1 (by rfl) m_range (pa_cons pe_int pa_nil)) (blkOk_by (N := nLaw) (sc := defScope sLaw) (by decide +kernel)) (fun _ _ _ _ _ => (pg_name (i := 4) nd rfl (by first | exact .inl rfl | exact .inr rfl))) (fun _ _ _ _ _ => pts_nil) (fun _ _ _ _ _ => (pe_fn G__law_right (hr.mono (by decide)) (pa_cons (pv 3) pa_nil)))) pa_nil)))) (pss_one (ps_ret pe_bl)) pss_nil))))
      (pss_one (ps_ret pe_bl)))), ?_⟩
    refine ⟨_, rfl, a, ns, 3, rfl, hS, hn, by decide, by decide, fun p ms H1 np s1 gp hm0 hm1 => ?_⟩
    refine ⟨_, rfl, p, _, rfl, .inl (SqL.of gp), ?_⟩
    rw [List.length_map]
    refine ⟨_, rfl, by omega, by omega, ?_⟩
    rw [Int.toNat_natCast]
    refine for_it (walk_range (lo := 0) (n := ms.length)) (fun i σ H3 => ∃ y2 y3 : Option V, σ = [some (.ref a), some (.ref p), y2, y3, none] ∧ H3 p = some (.lst (ms.map V.int))) ⟨none, none, rfl, gp⟩ (fun _ _ _ _ _ => True.intro) ?_ ?_
    · rintro i x σ H3 H4 hi ⟨y2, y3, rfl, g3⟩ ⟨rfl, rfl⟩
      refine ⟨_, rfl, _, rfl, p, ms, i, by simp, SqL.of g3, by omega, fun src H5 nsrc e5 S0 => ?_⟩
      refine ⟨3, rfl, by decide, by decide, fun D nD => ?_⟩
      have npsrc : p ≠ src := fun z => by
        rw [← z, g3] at nsrc
        cases nsrc
      have npD : p ≠ D := ne_of_none (e5 _ _ g3) nD
      have nDs : D ≠ src := fun z => by
        obtain ⟨a1, a2, e, _⟩ := S0
        rw [z, e] at nD
        cases nD
      refine lc_it (walk_range (lo := 0) (n := 3)) (fun j G => (∃ c : Int, KS.Src G src c ∧ c ≤ 7000 * (j : Int)) ∧ G p = some (.lst (ms.map V.int)) ∧ G D = some (.lst ((List.replicate j true).map V.bl)))
        ⟨⟨0, S0.mono (Ex.new nD), by omega⟩, by rw [upd_ne npD]; exact e5 _ _ g3, upd_same⟩ (fun _ _ _ _ => True.intro) ?_ ?_
      · rintro j x G G2 hj ⟨⟨c, Sc, hc⟩, gp2, gD⟩ ⟨rfl, rfl⟩
        refine ⟨rfl, ?_⟩
        refine yes_on ?_
        refine ⟨_, rfl, src, c, rfl, Sc, by omega, fun G3 c' b3 S3 c0 c1 => ?_⟩
        have no : ∀ {a : Addr}, a ≠ src → a ∉ [src] := fun h z => h (List.mem_singleton.mp z)
        refine ⟨_, b3 _ _ (no nDs) gD, ?_, ⟨c', ?_, by omega⟩, ?_, ?_⟩
        · rw [List.length_map, List.length_replicate]
          exact Nat.lt_of_le_of_lt (show j ≤ 10 by omega) (by decide)
        · obtain ⟨x1, x2, e, r⟩ := S3
          exact ⟨x1, x2, (upd_ne (Ne.symm nDs)).trans e, r⟩
        · rw [upd_ne npD]
          exact b3 _ _ (no npsrc) gp2
        · rw [upd_same, List.replicate_succ', List.map_append]
          rfl
      · rintro G ⟨_, gp2, gD⟩
        refine ⟨D, _, rfl, SqL.of gD, _, rfl, ?_⟩
        exact iteF ⟨_, _, rfl, gp2⟩
    · rintro σ H3 ⟨y2, y3, rfl, g3⟩
      exact q _
end
end KM
set_option Elab.async false
set_option linter.all false
set_option maxRecDepth 100000
set_option maxHeartbeats 4000000
namespace KY
open PySem PySem.Spec PyProof.Rows L2
section
variable {K : PySem.W.Frag} {C fI : Addr} {nm q : Str} {N : Addr} {bs : List Value} {sn : List Str} {sub : List Value} {ab : Bool} {col : Option Bool} {dd : Option Addr} {k0 k1 k2 k3 k5 : Option Value} {newId : String} {bm : List Value}
theorem cls_of (xL : K.lookup C = some (excClassObj nm q C N bs bm true sn sub ab col dd k0 k1 k2 k3 k5 newId)) : ∃ cd : ClassData, PySem.W.clsIn K C = some cd ∧ cd.mro = .ref C :: bm ∧ cd.hasDict = true := by
  refine ⟨{ mro := .ref C :: bm, name := nm, qualname := q, bases := bs, ns := N, hasDict := true, subclasses := sub, slotNames := sn, collection := col, abstract := ab, hasDel := false }, ?_, rfl, rfl⟩
  unfold PySem.W.clsIn
  rw [xL] <;> rfl
theorem kit_ty1 {T : String} (xL : K.lookup C = some (excClassObj nm q C N bs bm true sn sub ab col dd k0 k1 k2 k3 k5 newId)) (hm : PySem.W.kitMeta T = true) {r : Bool} (hr : bm.contains (.type T) = r) : PySem.W.kitOne K (.ref C) (.type T) = some r := by
  obtain ⟨cd, e1, e2, e3⟩ := cls_of xL
  have hne : (Value.ref C == Value.type T) = false := rfl
  unfold PySem.W.kitOne PySem.W.kitCls PySem.W.subIn PySem.W.mroIn
  rw [hne, if_neg Bool.false_ne_true]
  show (if PySem.W.kitMeta T = true then _ else _) = _
  rw [if_pos hm]
  show (PySem.W.clsIn K C).bind _ = _
  have hne2 : (Value.type T == Value.ref C) = false := rfl
  rw [e1, Option.bind_some, e2, if_neg (by simp), List.contains_cons, hne2, Bool.false_or, hr]
theorem kit_own {D : Addr} (xL : K.lookup C = some (excClassObj nm q C N bs bm true sn sub ab col dd k0 k1 k2 k3 k5 newId)) (hD : (PySem.W.clsIn K D).isSome = true) (tD : PySem.W.typeIn K (.ref D) = some (.type "type")) (hb : bm.contains (.ref D) = false)
    {r : Bool} (hr : (C == D) = r) : PySem.W.kitOne K (.ref C) (.ref D) = some r := by
  obtain ⟨cd, e1, e2, e3⟩ := cls_of xL
  have hne : (Value.ref C == Value.ref D) = (C == D) := by
    by_cases h : C = D
    · subst h
      rw [beq_self_eq_true, beq_self_eq_true]
    · rw [beq_eq_false_iff_ne.mpr h]
      exact beq_eq_false_iff_ne.mpr fun e => h (Value.ref.inj e)
  unfold PySem.W.kitOne PySem.W.kitCls PySem.W.subIn PySem.W.mroIn
  rw [hne, hr]
  cases r with
  | true => rw [if_pos rfl]
  | false =>
    rw [if_neg Bool.false_ne_true]
    show (if ((PySem.W.clsIn K D).isSome && PySem.W.typeIn K (.ref D) == some (.type "type")) = true then _ else _) = _
    rw [if_pos (by rw [hD, tD]; rfl)]
    show (PySem.W.clsIn K C).bind _ = _
    rw [e1, Option.bind_some, e2, if_neg (by simp), List.contains_cons, hb, Bool.or_false]
    have : (Value.ref D == Value.ref C) = false := by
      have z : C ≠ D := beq_eq_false_iff_ne.mp hr
      exact beq_eq_false_iff_ne.mpr fun e => z (Value.ref.inj e).symm
    rw [this]
theorem cls_is (xL : K.lookup C = some (excClassObj nm q C N bs bm true sn sub ab col dd k0 k1 k2 k3 k5 newId)) : (PySem.W.clsIn K C).isSome = true ∧ PySem.W.typeIn K (.ref C) = some (.type "type") := by
  obtain ⟨cd, e1, _, _⟩ := cls_of xL
  refine ⟨by rw [e1]; rfl, ?_⟩
  show (K.lookup C).map (·.cls) = _
  rw [xL]
  rfl
/-- all that is asked of a class, from what stands at its address -/
theorem exk_of (xL : K.lookup C = some (excClassObj nm q C N bs bm true sn sub ab col dd k0 k1 k2 k3 k5 newId)) (hbm : PySem.W.excTail bm bm = true) (hB : bm.contains (.type "BaseException") = true) (hO : bm.contains (.type "object") = true)
    (sa : PySem.W.findIn K (.ref C) "__setattr__" = some (some (.builtin "object.__setattr__"))) (own : PySem.W.findIn K (.ref C) "__init__" = some (some (.ref fI))) (ft : PySem.W.typeIn K (.ref fI) = some (.type "function")) (kep : PySem.W.keepIn K (.ref C) = true)
    (ga : PySem.W.findIn K (.ref C) "__getattribute__" = some (some (.builtin "BaseException.__getattribute__"))) (gg : PySem.W.findIn K (.ref C) "__getattr__" = some none) (ca : PySem.W.findIn K (.ref C) "__class__" = some (some (.builtin "object.__class__")))
    (hn : PySem.W.specialIn K (.builtin "object.__class__") "__get__" = some (some (.builtin "getset_descriptor.__get__"))) (ht : PySem.W.takesIn K (.builtin "object.__class__") = some true) : ExK K C fI bm newId := by
  obtain ⟨cd, e1, e2, e3⟩ := cls_of xL
  have mro : ∀ {T : String}, bm.contains (.type T) = true → PySem.W.mroIn K C (.type T) = some true := fun {T} h => by
    unfold PySem.W.mroIn
    rw [e1, Option.bind_some, e2, if_neg (by simp), List.contains_cons, h, Bool.or_true]
  refine ⟨?_, ?_, sa, own, ft, kep, ⟨ga, gg, mro hB, ?_, ca, hn, ht, mro hO⟩⟩
  · unfold PySem.W.excInitIn
    rw [xL]
    simp [excClassObj, hbm]
  · unfold PySem.W.excOver
    rw [e1, Option.any_some, e2]
    simp [hbm]
  · unfold PySem.W.hasDictIn
    rw [e1, Option.any_some, e3]
end
end KY
namespace KY
open PySem PySem.Spec PyProof.Rows L2 Evl
theorem all_mk {l : PySem.W.OpenLaw} {w : World} {K : PySem.W.Frag} {h : Heap} {mg : Str → Option Value} {fa : Addr} (X : K.In h) (G : h.Ns mainGlobals mg) (hfa : mg "law" = some (.ref fa))
    {cGiver cTaker cNotNow cNotRunning : Addr}
    {f0 : Addr} {oc0 kV0 dc0 pm0 cd0 ct0 : Value} {od0 an0 : Option Addr} {sl0 : Array (Option Value)}
    {f1 : Addr} {oc1 kV1 dc1 pm1 cd1 ct1 : Value} {od1 an1 : Option Addr} {sl1 : Array (Option Value)}
    {f2 : Addr} {oc2 kV2 dc2 pm2 cd2 ct2 : Value} {od2 an2 : Option Addr} {sl2 : Array (Option Value)}
    {f3 : Addr} {oc3 kV3 dc3 pm3 cd3 ct3 : Value} {od3 an3 : Option Addr} {sl3 : Array (Option Value)}
    {f4 : Addr} {oc4 kV4 dc4 pm4 cd4 ct4 : Value} {od4 an4 : Option Addr} {sl4 : Array (Option Value)}
    {f5 : Addr} {oc5 kV5 dc5 pm5 cd5 ct5 : Value} {od5 an5 : Option Addr} {sl5 : Array (Option Value)}
    {f6 : Addr} {oc6 kV6 dc6 pm6 cd6 ct6 : Value} {od6 an6 : Option Addr} {sl6 : Array (Option Value)}
    {f7 : Addr} {oc7 kV7 dc7 pm7 cd7 ct7 : Value} {od7 an7 : Option Addr} {sl7 : Array (Option Value)}
    {f8 : Addr} {oc8 kV8 dc8 pm8 cd8 ct8 : Value} {od8 an8 : Option Addr} {sl8 : Array (Option Value)}
    {f9 : Addr} {oc9 kV9 dc9 pm9 cd9 ct9 : Value} {od9 an9 : Option Addr} {sl9 : Array (Option Value)}
    {f10 : Addr} {oc10 kV10 dc10 pm10 cd10 ct10 : Value} {od10 an10 : Option Addr} {sl10 : Array (Option Value)}
    {f11 : Addr} {oc11 kV11 dc11 pm11 cd11 ct11 : Value} {od11 an11 : Option Addr} {sl11 : Array (Option Value)}
    {f12 : Addr} {oc12 kV12 dc12 pm12 cd12 ct12 : Value} {od12 an12 : Option Addr} {sl12 : Array (Option Value)}
    {f13 : Addr} {oc13 kV13 dc13 pm13 cd13 ct13 : Value} {od13 an13 : Option Addr} {sl13 : Array (Option Value)}
    {f14 : Addr} {oc14 kV14 dc14 pm14 cd14 ct14 : Value} {od14 an14 : Option Addr} {sl14 : Array (Option Value)}
    {f15 : Addr} {oc15 kV15 dc15 pm15 cd15 ct15 : Value} {od15 an15 : Option Addr} {sl15 : Array (Option Value)}
    {f16 : Addr} {oc16 kV16 dc16 pm16 cd16 ct16 : Value} {od16 an16 : Option Addr} {sl16 : Array (Option Value)}
    {f17 : Addr} {oc17 kV17 dc17 pm17 cd17 ct17 : Value} {od17 an17 : Option Addr} {sl17 : Array (Option Value)}
    {f18 : Addr} {oc18 kV18 dc18 pm18 cd18 ct18 : Value} {od18 an18 : Option Addr} {sl18 : Array (Option Value)}
    {f19 : Addr} {oc19 kV19 dc19 pm19 cd19 ct19 : Value} {od19 an19 : Option Addr} {sl19 : Array (Option Value)}
    {f20 : Addr} {oc20 kV20 dc20 pm20 cd20 ct20 : Value} {od20 an20 : Option Addr} {sl20 : Array (Option Value)}
    {f21 : Addr} {oc21 kV21 dc21 pm21 cd21 ct21 : Value} {od21 an21 : Option Addr} {sl21 : Array (Option Value)}
    {f22 : Addr} {oc22 kV22 dc22 pm22 cd22 ct22 : Value} {od22 an22 : Option Addr} {sl22 : Array (Option Value)}
    {f23 : Addr} {oc23 kV23 dc23 pm23 cd23 ct23 : Value} {od23 an23 : Option Addr} {sl23 : Array (Option Value)}
    {f24 : Addr} {oc24 kV24 dc24 pm24 cd24 ct24 : Value} {od24 an24 : Option Addr} {sl24 : Array (Option Value)}
    {f25 : Addr} {oc25 kV25 dc25 pm25 cd25 ct25 : Value} {od25 an25 : Option Addr} {sl25 : Array (Option Value)}
    {f26 : Addr} {oc26 kV26 dc26 pm26 cd26 ct26 : Value} {od26 an26 : Option Addr} {sl26 : Array (Option Value)}
    {f27 : Addr} {oc27 kV27 dc27 pm27 cd27 ct27 : Value} {od27 an27 : Option Addr} {sl27 : Array (Option Value)}
    {f28 : Addr} {oc28 kV28 dc28 pm28 cd28 ct28 : Value} {od28 an28 : Option Addr} {sl28 : Array (Option Value)}
    {f29 : Addr} {oc29 kV29 dc29 pm29 cd29 ct29 : Value} {od29 an29 : Option Addr} {sl29 : Array (Option Value)}
    {f30 : Addr} {oc30 kV30 dc30 pm30 cd30 ct30 : Value} {od30 an30 : Option Addr} {sl30 : Array (Option Value)}
    {f31 : Addr} {oc31 kV31 dc31 pm31 cd31 ct31 : Value} {od31 an31 : Option Addr} {sl31 : Array (Option Value)}
    {f32 : Addr} {oc32 kV32 dc32 pm32 cd32 ct32 : Value} {od32 an32 : Option Addr} {sl32 : Array (Option Value)}
    {f33 : Addr} {oc33 kV33 dc33 pm33 cd33 ct33 : Value} {od33 an33 : Option Addr} {sl33 : Array (Option Value)}
    {NNotNow : Addr} {nmNotNow qNotNow : Str} {bsNotNow : List Value} {snNotNow : List Str} {subNotNow : List Value} {abNotNow : Bool} {colNotNow : Option Bool} {ddNotNow : Option Addr} {kaNotNow kbNotNow kcNotNow kdNotNow keNotNow : Option Value}
    (gGiver : PySem.W.nsIn K mainGlobals "Giver" = some (some (.ref cGiver)))
    (gTaker : PySem.W.nsIn K mainGlobals "Taker" = some (some (.ref cTaker)))
    (gNotNow : PySem.W.nsIn K mainGlobals "NotNow" = some (some (.ref cNotNow)))
    (gNotRunning : PySem.W.nsIn K mainGlobals "NotRunning" = some (some (.ref cNotRunning)))
    (a0 : PySem.W.nsIn K mainGlobals "_law_same" = some (some (.ref f0)))
    (l0 : K.lookup f0 = some ⟨oc0, od0, .func (PySem.W.fnOf "_law_same" "_law_same" (defArgs KB.sSame) (defBody KB.sSame) (defScope KB.sSame) .none kV0 dc0 pm0 an0 cd0 ct0), sl0⟩)
    (c0 : PySem.W.codeIn K cd0 "_law_same" = true)
    (k0 : PySem.W.keepIn K (.ref f0) = true)
    (a1 : PySem.W.nsIn K mainGlobals "_law_draw" = some (some (.ref f1)))
    (l1 : K.lookup f1 = some ⟨oc1, od1, .func (PySem.W.fnOf "_law_draw" "_law_draw" (defArgs KS.sDraw) (defBody KS.sDraw) (defScope KS.sDraw) .none kV1 dc1 pm1 an1 cd1 ct1), sl1⟩)
    (c1 : PySem.W.codeIn K cd1 "_law_draw" = true)
    (k1 : PySem.W.keepIn K (.ref f1) = true)
    (a2 : PySem.W.nsIn K mainGlobals "_law_pick" = some (some (.ref f2)))
    (l2 : K.lookup f2 = some ⟨oc2, od2, .func (PySem.W.fnOf "_law_pick" "_law_pick" (defArgs KS.sPick) (defBody KS.sPick) (defScope KS.sPick) .none kV2 dc2 pm2 an2 cd2 ct2), sl2⟩)
    (c2 : PySem.W.codeIn K cd2 "_law_pick" = true)
    (k2 : PySem.W.keepIn K (.ref f2) = true)
    (a3 : PySem.W.nsIn K mainGlobals "_law_stream" = some (some (.ref f3)))
    (l3 : K.lookup f3 = some ⟨oc3, od3, .func (PySem.W.fnOf "_law_stream" "_law_stream" (defArgs KS.sStream) (defBody KS.sStream) (defScope KS.sStream) .none kV3 dc3 pm3 an3 cd3 ct3), sl3⟩)
    (c3 : PySem.W.codeIn K cd3 "_law_stream" = true)
    (k3 : PySem.W.keepIn K (.ref f3) = true)
    (a4 : PySem.W.nsIn K mainGlobals "_law_folded" = some (some (.ref f4)))
    (l4 : K.lookup f4 = some ⟨oc4, od4, .func (PySem.W.fnOf "_law_folded" "_law_folded" (defArgs KS.sFolded) (defBody KS.sFolded) (defScope KS.sFolded) .none kV4 dc4 pm4 an4 cd4 ct4), sl4⟩)
    (c4 : PySem.W.codeIn K cd4 "_law_folded" = true)
    (k4 : PySem.W.keepIn K (.ref f4) = true)
    (a5 : PySem.W.findIn K (.ref cNotNow) "__init__" = some (some (.ref f5)))
    (l5 : K.lookup f5 = some ⟨oc5, od5, .func (PySem.W.fnOf "__init__" "NotNow.__init__" (defArgs KM.sNotNow) (defBody KM.sNotNow) (defScope KM.sNotNow) .none kV5 dc5 pm5 an5 cd5 ct5), sl5⟩)
    (c5 : PySem.W.codeIn K cd5 "NotNow.__init__" = true)
    (k5 : PySem.W.keepIn K (.ref f5) = true)
    (a6 : PySem.W.findIn K (.ref cGiver) "__init__" = some (some (.ref f6)))
    (i6 : PySem.W.isFn K (.ref f6) = true)
    (l6 : K.lookup f6 = some ⟨oc6, od6, .func (PySem.W.fnOf "__init__" "Giver.__init__" (defArgs KM.sGInit) (defBody KM.sGInit) (defScope KM.sGInit) .none kV6 dc6 pm6 an6 cd6 ct6), sl6⟩)
    (c6 : PySem.W.codeIn K cd6 "Giver.__init__" = true)
    (k6 : PySem.W.keepIn K (.ref f6) = true)
    (a7 : PySem.W.findIn K (.ref cGiver) "phase" = some (some (.ref f7)))
    (i7 : PySem.W.isFn K (.ref f7) = true)
    (l7 : K.lookup f7 = some ⟨oc7, od7, .func (PySem.W.fnOf "phase" "Giver.phase" (defArgs KM.sGPhase) (defBody KM.sGPhase) (defScope KM.sGPhase) .none kV7 dc7 pm7 an7 cd7 ct7), sl7⟩)
    (c7 : PySem.W.codeIn K cd7 "Giver.phase" = true)
    (k7 : PySem.W.keepIn K (.ref f7) = true)
    (a8 : PySem.W.findIn K (.ref cGiver) "freeze" = some (some (.ref f8)))
    (i8 : PySem.W.isFn K (.ref f8) = true)
    (l8 : K.lookup f8 = some ⟨oc8, od8, .func (PySem.W.fnOf "freeze" "Giver.freeze" (defArgs KM.sGFreeze) (defBody KM.sGFreeze) (defScope KM.sGFreeze) .none kV8 dc8 pm8 an8 cd8 ct8), sl8⟩)
    (c8 : PySem.W.codeIn K cd8 "Giver.freeze" = true)
    (k8 : PySem.W.keepIn K (.ref f8) = true)
    (a9 : PySem.W.findIn K (.ref cGiver) "resume" = some (some (.ref f9)))
    (i9 : PySem.W.isFn K (.ref f9) = true)
    (l9 : K.lookup f9 = some ⟨oc9, od9, .func (PySem.W.fnOf "resume" "Giver.resume" (defArgs KM.sGResume) (defBody KM.sGResume) (defScope KM.sGResume) .none kV9 dc9 pm9 an9 cd9 ct9), sl9⟩)
    (c9 : PySem.W.codeIn K cd9 "Giver.resume" = true)
    (k9 : PySem.W.keepIn K (.ref f9) = true)
    (a10 : PySem.W.findIn K (.ref cGiver) "receive" = some (some (.ref f10)))
    (i10 : PySem.W.isFn K (.ref f10) = true)
    (l10 : K.lookup f10 = some ⟨oc10, od10, .func (PySem.W.fnOf "receive" "Giver.receive" (defArgs KM.sGRecv) (defBody KM.sGRecv) (defScope KM.sGRecv) .none kV10 dc10 pm10 an10 cd10 ct10), sl10⟩)
    (c10 : PySem.W.codeIn K cd10 "Giver.receive" = true)
    (k10 : PySem.W.keepIn K (.ref f10) = true)
    (a11 : PySem.W.findIn K (.ref cGiver) "messages" = some (some (.ref f11)))
    (i11 : PySem.W.isFn K (.ref f11) = true)
    (l11 : K.lookup f11 = some ⟨oc11, od11, .func (PySem.W.fnOf "messages" "Giver.messages" (defArgs KM.sGMsgs) (defBody KM.sGMsgs) (defScope KM.sGMsgs) .none kV11 dc11 pm11 an11 cd11 ct11), sl11⟩)
    (c11 : PySem.W.codeIn K cd11 "Giver.messages" = true)
    (k11 : PySem.W.keepIn K (.ref f11) = true)
    (a12 : PySem.W.findIn K (.ref cTaker) "__init__" = some (some (.ref f12)))
    (i12 : PySem.W.isFn K (.ref f12) = true)
    (l12 : K.lookup f12 = some ⟨oc12, od12, .func (PySem.W.fnOf "__init__" "Taker.__init__" (defArgs KM.sTInit) (defBody KM.sTInit) (defScope KM.sTInit) .none kV12 dc12 pm12 an12 cd12 ct12), sl12⟩)
    (c12 : PySem.W.codeIn K cd12 "Taker.__init__" = true)
    (k12 : PySem.W.keepIn K (.ref f12) = true)
    (a13 : PySem.W.nsIn K mainGlobals "is_whole" = some (some (.ref f13)))
    (l13 : K.lookup f13 = some ⟨oc13, od13, .func (PySem.W.fnOf "is_whole" "is_whole" (defArgs KM.sWhole) (defBody KM.sWhole) (defScope KM.sWhole) .none kV13 dc13 pm13 an13 cd13 ct13), sl13⟩)
    (c13 : PySem.W.codeIn K cd13 "is_whole" = true)
    (k13 : PySem.W.keepIn K (.ref f13) = true)
    (a14 : PySem.W.nsIn K mainGlobals "keep_piece" = some (some (.ref f14)))
    (l14 : K.lookup f14 = some ⟨oc14, od14, .func (PySem.W.fnOf "keep_piece" "keep_piece" (defArgs KM.sKeep) (defBody KM.sKeep) (defScope KM.sKeep) .none kV14 dc14 pm14 an14 cd14 ct14), sl14⟩)
    (c14 : PySem.W.codeIn K cd14 "keep_piece" = true)
    (k14 : PySem.W.keepIn K (.ref f14) = true)
    (a15 : PySem.W.findIn K (.ref cTaker) "receive" = some (some (.ref f15)))
    (i15 : PySem.W.isFn K (.ref f15) = true)
    (l15 : K.lookup f15 = some ⟨oc15, od15, .func (PySem.W.fnOf "receive" "Taker.receive" (defArgs KM.sTRecv) (defBody KM.sTRecv) (defScope KM.sTRecv) .none kV15 dc15 pm15 an15 cd15 ct15), sl15⟩)
    (c15 : PySem.W.codeIn K cd15 "Taker.receive" = true)
    (k15 : PySem.W.keepIn K (.ref f15) = true)
    (a16 : PySem.W.findIn K (.ref cTaker) "messages" = some (some (.ref f16)))
    (i16 : PySem.W.isFn K (.ref f16) = true)
    (l16 : K.lookup f16 = some ⟨oc16, od16, .func (PySem.W.fnOf "messages" "Taker.messages" (defArgs KM.sTMsgs) (defBody KM.sTMsgs) (defScope KM.sTMsgs) .none kV16 dc16 pm16 an16 cd16 ct16), sl16⟩)
    (c16 : PySem.W.codeIn K cd16 "Taker.messages" = true)
    (k16 : PySem.W.keepIn K (.ref f16) = true)
    (a17 : PySem.W.findIn K (.ref cTaker) "running" = some (some (.ref f17)))
    (i17 : PySem.W.isFn K (.ref f17) = true)
    (l17 : K.lookup f17 = some ⟨oc17, od17, .func (PySem.W.fnOf "running" "Taker.running" (defArgs KM.sTRun) (defBody KM.sTRun) (defScope KM.sTRun) .none kV17 dc17 pm17 an17 cd17 ct17), sl17⟩)
    (c17 : PySem.W.codeIn K cd17 "Taker.running" = true)
    (k17 : PySem.W.keepIn K (.ref f17) = true)
    (a18 : PySem.W.nsIn K mainGlobals "_law_given" = some (some (.ref f18)))
    (l18 : K.lookup f18 = some ⟨oc18, od18, .func (PySem.W.fnOf "_law_given" "_law_given" (defArgs KM.sGiven) (defBody KM.sGiven) (defScope KM.sGiven) .none kV18 dc18 pm18 an18 cd18 ct18), sl18⟩)
    (c18 : PySem.W.codeIn K cd18 "_law_given" = true)
    (k18 : PySem.W.keepIn K (.ref f18) = true)
    (a19 : PySem.W.nsIn K mainGlobals "_law_whole" = some (some (.ref f19)))
    (l19 : K.lookup f19 = some ⟨oc19, od19, .func (PySem.W.fnOf "_law_whole" "_law_whole" (defArgs KM.sLWhole) (defBody KM.sLWhole) (defScope KM.sLWhole) .none kV19 dc19 pm19 an19 cd19 ct19), sl19⟩)
    (c19 : PySem.W.codeIn K cd19 "_law_whole" = true)
    (k19 : PySem.W.keepIn K (.ref f19) = true)
    (a20 : PySem.W.nsIn K mainGlobals "_law_text" = some (some (.ref f20)))
    (l20 : K.lookup f20 = some ⟨oc20, od20, .func (PySem.W.fnOf "_law_text" "_law_text" (defArgs KM.sLText) (defBody KM.sLText) (defScope KM.sLText) .none kV20 dc20 pm20 an20 cd20 ct20), sl20⟩)
    (c20 : PySem.W.codeIn K cd20 "_law_text" = true)
    (k20 : PySem.W.keepIn K (.ref f20) = true)
    (a21 : PySem.W.nsIn K mainGlobals "_law_taker_sends" = some (some (.ref f21)))
    (l21 : K.lookup f21 = some ⟨oc21, od21, .func (PySem.W.fnOf "_law_taker_sends" "_law_taker_sends" (defArgs KM.sTSends) (defBody KM.sTSends) (defScope KM.sTSends) .none kV21 dc21 pm21 an21 cd21 ct21), sl21⟩)
    (c21 : PySem.W.codeIn K cd21 "_law_taker_sends" = true)
    (k21 : PySem.W.keepIn K (.ref f21) = true)
    (a22 : PySem.W.nsIn K mainGlobals "_law_giver_sends" = some (some (.ref f22)))
    (l22 : K.lookup f22 = some ⟨oc22, od22, .func (PySem.W.fnOf "_law_giver_sends" "_law_giver_sends" (defArgs KM.sGSends) (defBody KM.sGSends) (defScope KM.sGSends) .none kV22 dc22 pm22 an22 cd22 ct22), sl22⟩)
    (c22 : PySem.W.codeIn K cd22 "_law_giver_sends" = true)
    (k22 : PySem.W.keepIn K (.ref f22) = true)
    (a23 : PySem.W.nsIn K mainGlobals "_law_taken" = some (some (.ref f23)))
    (l23 : K.lookup f23 = some ⟨oc23, od23, .func (PySem.W.fnOf "_law_taken" "_law_taken" (defArgs KM.sTaken) (defBody KM.sTaken) (defScope KM.sTaken) .none kV23 dc23 pm23 an23 cd23 ct23), sl23⟩)
    (c23 : PySem.W.codeIn K cd23 "_law_taken" = true)
    (k23 : PySem.W.keepIn K (.ref f23) = true)
    (a24 : PySem.W.nsIn K mainGlobals "_law_refused" = some (some (.ref f24)))
    (l24 : K.lookup f24 = some ⟨oc24, od24, .func (PySem.W.fnOf "_law_refused" "_law_refused" (defArgs KM.sRefused) (defBody KM.sRefused) (defScope KM.sRefused) .none kV24 dc24 pm24 an24 cd24 ct24), sl24⟩)
    (c24 : PySem.W.codeIn K cd24 "_law_refused" = true)
    (k24 : PySem.W.keepIn K (.ref f24) = true)
    (a25 : PySem.W.nsIn K mainGlobals "_law_begin" = some (some (.ref f25)))
    (l25 : K.lookup f25 = some ⟨oc25, od25, .func (PySem.W.fnOf "_law_begin" "_law_begin" (defArgs KM.sBegin) (defBody KM.sBegin) (defScope KM.sBegin) .none kV25 dc25 pm25 an25 cd25 ct25), sl25⟩)
    (c25 : PySem.W.codeIn K cd25 "_law_begin" = true)
    (k25 : PySem.W.keepIn K (.ref f25) = true)
    (a26 : PySem.W.nsIn K mainGlobals "cut" = some (some (.ref f26)))
    (l26 : K.lookup f26 = some ⟨oc26, od26, .func (PySem.W.fnOf "cut" "cut" (defArgs KM.sCut) (defBody KM.sCut) (defScope KM.sCut) .none kV26 dc26 pm26 an26 cd26 ct26), sl26⟩)
    (c26 : PySem.W.codeIn K cd26 "cut" = true)
    (k26 : PySem.W.keepIn K (.ref f26) = true)
    (a27 : PySem.W.nsIn K mainGlobals "_law_cut" = some (some (.ref f27)))
    (l27 : K.lookup f27 = some ⟨oc27, od27, .func (PySem.W.fnOf "_law_cut" "_law_cut" (defArgs KM.sLCut) (defBody KM.sLCut) (defScope KM.sLCut) .none kV27 dc27 pm27 an27 cd27 ct27), sl27⟩)
    (c27 : PySem.W.codeIn K cd27 "_law_cut" = true)
    (k27 : PySem.W.keepIn K (.ref f27) = true)
    (a28 : PySem.W.nsIn K mainGlobals "_law_kept" = some (some (.ref f28)))
    (l28 : K.lookup f28 = some ⟨oc28, od28, .func (PySem.W.fnOf "_law_kept" "_law_kept" (defArgs KM.sKept) (defBody KM.sKept) (defScope KM.sKept) .none kV28 dc28 pm28 an28 cd28 ct28), sl28⟩)
    (c28 : PySem.W.codeIn K cd28 "_law_kept" = true)
    (k28 : PySem.W.keepIn K (.ref f28) = true)
    (a29 : PySem.W.nsIn K mainGlobals "_law_sent" = some (some (.ref f29)))
    (l29 : K.lookup f29 = some ⟨oc29, od29, .func (PySem.W.fnOf "_law_sent" "_law_sent" (defArgs KM.sSent) (defBody KM.sSent) (defScope KM.sSent) .none kV29 dc29 pm29 an29 cd29 ct29), sl29⟩)
    (c29 : PySem.W.codeIn K cd29 "_law_sent" = true)
    (k29 : PySem.W.keepIn K (.ref f29) = true)
    (a30 : PySem.W.nsIn K mainGlobals "_law_delivered" = some (some (.ref f30)))
    (l30 : K.lookup f30 = some ⟨oc30, od30, .func (PySem.W.fnOf "_law_delivered" "_law_delivered" (defArgs KM.sDeliv) (defBody KM.sDeliv) (defScope KM.sDeliv) .none kV30 dc30 pm30 an30 cd30 ct30), sl30⟩)
    (c30 : PySem.W.codeIn K cd30 "_law_delivered" = true)
    (k30 : PySem.W.keepIn K (.ref f30) = true)
    (a31 : PySem.W.nsIn K mainGlobals "_law_step" = some (some (.ref f31)))
    (l31 : K.lookup f31 = some ⟨oc31, od31, .func (PySem.W.fnOf "_law_step" "_law_step" (defArgs KM.sStep) (defBody KM.sStep) (defScope KM.sStep) .none kV31 dc31 pm31 an31 cd31 ct31), sl31⟩)
    (c31 : PySem.W.codeIn K cd31 "_law_step" = true)
    (k31 : PySem.W.keepIn K (.ref f31) = true)
    (a32 : PySem.W.nsIn K mainGlobals "_law_right" = some (some (.ref f32)))
    (l32 : K.lookup f32 = some ⟨oc32, od32, .func (PySem.W.fnOf "_law_right" "_law_right" (defArgs KM.sRight) (defBody KM.sRight) (defScope KM.sRight) .none kV32 dc32 pm32 an32 cd32 ct32), sl32⟩)
    (c32 : PySem.W.codeIn K cd32 "_law_right" = true)
    (k32 : PySem.W.keepIn K (.ref f32) = true)
    (a33 : PySem.W.nsIn K mainGlobals "law" = some (some (.ref f33)))
    (l33 : K.lookup f33 = some ⟨oc33, od33, .func (PySem.W.fnOf "law" "law" (defArgs KM.sLaw) (defBody KM.sLaw) (defScope KM.sLaw) .none kV33 dc33 pm33 an33 cd33 ct33), sl33⟩)
    (c33 : PySem.W.codeIn K cd33 "law" = true)
    (k33 : PySem.W.keepIn K (.ref f33) = true)
    (z0 : PySem.W.nsIn K mainGlobals "isinstance" = some none)
    (z1 : PySem.W.nsIn K mainGlobals "list" = some none)
    (z2 : PySem.W.nsIn K mainGlobals "tuple" = some none)
    (z3 : PySem.W.nsIn K mainGlobals "len" = some none)
    (z4 : PySem.W.nsIn K mainGlobals "all" = some none)
    (z5 : PySem.W.nsIn K mainGlobals "zip" = some none)
    (z6 : PySem.W.nsIn K mainGlobals "bool" = some none)
    (z7 : PySem.W.nsIn K mainGlobals "str" = some none)
    (z8 : PySem.W.nsIn K mainGlobals "int" = some none)
    (z9 : PySem.W.nsIn K mainGlobals "abs" = some none)
    (z10 : PySem.W.nsIn K mainGlobals "enumerate" = some none)
    (z11 : PySem.W.nsIn K mainGlobals "RuntimeError" = some none)
    (z12 : PySem.W.nsIn K mainGlobals "sorted" = some none)
    (z13 : PySem.W.nsIn K mainGlobals "range" = some none)
    (z14 : PySem.W.nsIn K mainGlobals "max" = some none)
    (pgGiver : PySem.W.plainGet K cGiver Str.empty = true)
    (hdGiver : PySem.W.hasDictIn K cGiver = true)
    (poGiver : PySem.W.plainOver K cGiver = true)
    (saGiver : PySem.W.findIn K (.ref cGiver) "__setattr__" = some (some (.builtin "object.__setattr__")))
    (mkGiver : PySem.W.makesIn K cGiver = true)
    (kpGiver : PySem.W.keepIn K (.ref cGiver) = true)
    (nGiver_word : PySem.W.findIn K (.ref cGiver) "word" = some none)
    (nGiver_turn : PySem.W.findIn K (.ref cGiver) "turn" = some none)
    (nGiver_pieces : PySem.W.findIn K (.ref cGiver) "pieces" = some none)
    (nGiver_known : PySem.W.findIn K (.ref cGiver) "known" = some none)
    (pgTaker : PySem.W.plainGet K cTaker Str.empty = true)
    (hdTaker : PySem.W.hasDictIn K cTaker = true)
    (poTaker : PySem.W.plainOver K cTaker = true)
    (saTaker : PySem.W.findIn K (.ref cTaker) "__setattr__" = some (some (.builtin "object.__setattr__")))
    (mkTaker : PySem.W.makesIn K cTaker = true)
    (kpTaker : PySem.W.keepIn K (.ref cTaker) = true)
    (nTaker_turn : PySem.W.findIn K (.ref cTaker) "turn" = some none)
    (nTaker_many : PySem.W.findIn K (.ref cTaker) "many" = some none)
    (nTaker_pieces : PySem.W.findIn K (.ref cTaker) "pieces" = some none)
    (nTaker_begun : PySem.W.findIn K (.ref cTaker) "begun" = some none)
    (xLNotNow : K.lookup cNotNow = some (excClassObj nmNotNow qNotNow cNotNow NNotNow bsNotNow mroR true snNotNow subNotNow abNotNow colNotNow ddNotNow kaNotNow kbNotNow kcNotNow kdNotNow keNotNow "RuntimeError.__new__"))
    (saNotNow : PySem.W.findIn K (.ref cNotNow) "__setattr__" = some (some (.builtin "object.__setattr__")))
    (ftNotNow : PySem.W.typeIn K (.ref f5) = some (.type "function"))
    (kCNotNow : PySem.W.keepIn K (.ref cNotNow) = true)
    (gaNotNow : PySem.W.findIn K (.ref cNotNow) "__getattribute__" = some (some (.builtin "BaseException.__getattribute__")))
    (ggNotNow : PySem.W.findIn K (.ref cNotNow) "__getattr__" = some none)
    (caNotNow : PySem.W.findIn K (.ref cNotNow) "__class__" = some (some (.builtin "object.__class__")))
    (tyNotNow : PySem.W.typeIn K (.ref cNotNow) = some (.type "type"))
    (noNotNow : PySem.W.findIn K (.ref cNotNow) "word" = some none)
    (hgn : PySem.W.specialIn K (.builtin "object.__class__") "__get__" = some (some (.builtin "getset_descriptor.__get__")))
    (htk : PySem.W.takesIn K (.builtin "object.__class__") = some true)
    (fcRuntimeError : PySem.W.findCls K (.type "RuntimeError") (.type "type") "__init__" = some (.val (.builtin "RuntimeError.__init__")))
    (exm : PySem.W.exmAny K (.ref cNotNow) [.ref cNotNow, .ref cNotRunning] = some true)
    (kit1 : PySem.W.kitOne K (.ref cNotNow) (.ref cNotNow) = some true)
    (kit2 : PySem.W.kitOne K (.ref cNotNow) (.type "RuntimeError") = some true) :
    ∃ fd : FuncData, (∀ (s : Shared) (v : Value), BindsTo s fd ⟨[v], []⟩ [("_law_script", v)]) ∧ ∀ base : Heap, K.In base → base.Ns mainGlobals mg → FnOk l.prog w K mg base CX0 9 fa fd ["_law_script"] (KM.spLaw K) := by
  have e := hfa.symm.trans (PySem.W.mg_of X G a33)
  cases e
  have TGiver : KM.GT K cGiver := ⟨⟨pgGiver, hdGiver, poGiver, saGiver⟩, nGiver_word, nGiver_turn, nGiver_pieces, nGiver_known⟩
  have TTaker : KM.TT K cTaker := ⟨⟨pgTaker, hdTaker, poTaker, saTaker⟩, nTaker_turn, nTaker_many, nTaker_pieces, nTaker_begun⟩
  have TNotNow := KY.exk_of xLNotNow (by decide +kernel) (by decide +kernel) (by decide +kernel) saNotNow a5 ftNotNow kCNotNow gaNotNow ggNotNow caNotNow hgn htk
  have F0 := fun_mk (st := KB.sSame) l0 c0 k0
  have b0 := F0.binds (ps := ["_law_found", "_law_due"]) fun _ _ _ _ _ _ us hl => match us, hl with | [_, _], _ => rfl
  have F1 := fun_mk (st := KS.sDraw) l1 c1 k1
  have b1 := F1.binds (ps := ["_law_source", "_law_bound"]) fun _ _ _ _ _ _ us hl => match us, hl with | [_, _], _ => rfl
  have F2 := fun_mk (st := KS.sPick) l2 c2 k2
  have b2 := F2.binds (ps := ["_law_source", "_law_some"]) fun _ _ _ _ _ _ us hl => match us, hl with | [_, _], _ => rfl
  have F3 := fun_mk (st := KS.sStream) l3 c3 k3
  have b3 := F3.binds (ps := ["_law_script", "_law_k"]) fun _ _ _ _ _ _ us hl => match us, hl with | [_, _], _ => rfl
  have F4 := fun_mk (st := KS.sFolded) l4 c4 k4
  have b4 := F4.binds (ps := ["_law_script", "_law_most"]) fun _ _ _ _ _ _ us hl => match us, hl with | [_, _], _ => rfl
  have F5 := fun_mk (st := KM.sNotNow) l5 c5 k5
  have b5 := F5.binds (ps := ["self", "word"]) fun _ _ _ _ _ _ us hl => match us, hl with | [_, _], _ => rfl
  have F6 := fun_mk (st := KM.sGInit) l6 c6 k6
  have b6 := F6.binds (ps := ["self"]) fun _ _ _ _ _ _ us hl => match us, hl with | [_], _ => rfl
  have F7 := fun_mk (st := KM.sGPhase) l7 c7 k7
  have b7 := F7.binds (ps := ["self"]) fun _ _ _ _ _ _ us hl => match us, hl with | [_], _ => rfl
  have F8 := fun_mk (st := KM.sGFreeze) l8 c8 k8
  have b8 := F8.binds (ps := ["self", "pieces"]) fun _ _ _ _ _ _ us hl => match us, hl with | [_, _], _ => rfl
  have F9 := fun_mk (st := KM.sGResume) l9 c9 k9
  have b9 := F9.binds (ps := ["self"]) fun _ _ _ _ _ _ us hl => match us, hl with | [_], _ => rfl
  have F10 := fun_mk (st := KM.sGRecv) l10 c10 k10
  have b10 := F10.binds (ps := ["self", "message"]) fun _ _ _ _ _ _ us hl => match us, hl with | [_, _], _ => rfl
  have F11 := fun_mk (st := KM.sGMsgs) l11 c11 k11
  have b11 := F11.binds (ps := ["self"]) fun _ _ _ _ _ _ us hl => match us, hl with | [_], _ => rfl
  have F12 := fun_mk (st := KM.sTInit) l12 c12 k12
  have b12 := F12.binds (ps := ["self"]) fun _ _ _ _ _ _ us hl => match us, hl with | [_], _ => rfl
  have F13 := fun_mk (st := KM.sWhole) l13 c13 k13
  have b13 := F13.binds (ps := ["taker"]) fun _ _ _ _ _ _ us hl => match us, hl with | [_], _ => rfl
  have F14 := fun_mk (st := KM.sKeep) l14 c14 k14
  have b14 := F14.binds (ps := ["taker", "message"]) fun _ _ _ _ _ _ us hl => match us, hl with | [_, _], _ => rfl
  have F15 := fun_mk (st := KM.sTRecv) l15 c15 k15
  have b15 := F15.binds (ps := ["self", "message"]) fun _ _ _ _ _ _ us hl => match us, hl with | [_, _], _ => rfl
  have F16 := fun_mk (st := KM.sTMsgs) l16 c16 k16
  have b16 := F16.binds (ps := ["self"]) fun _ _ _ _ _ _ us hl => match us, hl with | [_], _ => rfl
  have F17 := fun_mk (st := KM.sTRun) l17 c17 k17
  have b17 := F17.binds (ps := ["self"]) fun _ _ _ _ _ _ us hl => match us, hl with | [_], _ => rfl
  have F18 := fun_mk (st := KM.sGiven) l18 c18 k18
  have b18 := F18.binds (ps := ["_law_mine", "_law_message"]) fun _ _ _ _ _ _ us hl => match us, hl with | [_, _], _ => rfl
  have F19 := fun_mk (st := KM.sLWhole) l19 c19 k19
  have b19 := F19.binds (ps := ["_law_its"]) fun _ _ _ _ _ _ us hl => match us, hl with | [_], _ => rfl
  have F20 := fun_mk (st := KM.sLText) l20 c20 k20
  have b20 := F20.binds (ps := ["_law_its"]) fun _ _ _ _ _ _ us hl => match us, hl with | [_], _ => rfl
  have F21 := fun_mk (st := KM.sTSends) l21 c21 k21
  have b21 := F21.binds (ps := ["_law_its"]) fun _ _ _ _ _ _ us hl => match us, hl with | [_], _ => rfl
  have F22 := fun_mk (st := KM.sGSends) l22 c22 k22
  have b22 := F22.binds (ps := ["_law_mine"]) fun _ _ _ _ _ _ us hl => match us, hl with | [_], _ => rfl
  have F23 := fun_mk (st := KM.sTaken) l23 c23 k23
  have b23 := F23.binds (ps := ["_law_its", "_law_message"]) fun _ _ _ _ _ _ us hl => match us, hl with | [_, _], _ => rfl
  have F24 := fun_mk (st := KM.sRefused) l24 c24 k24
  have b24 := F24.binds (ps := ["_law_giver", "_law_word", "_law_pieces"]) fun _ _ _ _ _ _ us hl => match us, hl with | [_, _, _], _ => rfl
  have F25 := fun_mk (st := KM.sBegin) l25 c25 k25
  have b25 := F25.binds (ps := ["_law_mine", "_law_giver", "_law_word", "_law_pieces"]) fun _ _ _ _ _ _ us hl => match us, hl with | [_, _, _, _], _ => rfl
  have F26 := fun_mk (st := KM.sCut) l26 c26 k26
  have b26 := F26.binds (ps := ["text", "size"]) fun _ _ _ _ _ _ us hl => match us, hl with | [_, _], _ => rfl
  have F27 := fun_mk (st := KM.sLCut) l27 c27 k27
  have b27 := F27.binds (ps := ["_law_words", "_law_size"]) fun _ _ _ _ _ _ us hl => match us, hl with | [_, _], _ => rfl
  have F28 := fun_mk (st := KM.sKept) l28 c28 k28
  have b28 := F28.binds (ps := ["_law_giver", "_law_taker", "_law_mine", "_law_its"]) fun _ _ _ _ _ _ us hl => match us, hl with | [_, _, _, _], _ => rfl
  have F29 := fun_mk (st := KM.sSent) l29 c29 k29
  have b29 := F29.binds (ps := ["_law_source", "_law_link", "_law_some"]) fun _ _ _ _ _ _ us hl => match us, hl with | [_, _, _], _ => rfl
  have F30 := fun_mk (st := KM.sDeliv) l30 c30 k30
  have b30 := F30.binds (ps := ["_law_source", "_law_link", "_law_giver", "_law_taker", "_law_records"]) fun _ _ _ _ _ _ us hl => match us, hl with | [_, _, _, _, _], _ => rfl
  have F31 := fun_mk (st := KM.sStep) l31 c31 k31
  have b31 := F31.binds (ps := ["_law_source", "_law_link", "_law_giver", "_law_taker", "_law_records"]) fun _ _ _ _ _ _ us hl => match us, hl with | [_, _, _, _, _], _ => rfl
  have F32 := fun_mk (st := KM.sRight) l32 c32 k32
  have b32 := F32.binds (ps := ["_law_source"]) fun _ _ _ _ _ _ us hl => match us, hl with | [_], _ => rfl
  have F33 := fun_mk (st := KM.sLaw) l33 c33 k33
  refine ⟨PySem.W.fnOf "law" "law" (defArgs KM.sLaw) (defBody KM.sLaw) (defScope KM.sLaw) .none kV33 dc33 pm33 an33 cd33 ct33, fun s v => .of_eq rfl, fun base _ _ => ?_⟩
  have g0_1 := KB.ok_same (P := l.prog) (w := w) (mg := mg) (base := base) F0 KB.no_same b0 (PySem.W.mg_of X G a0) (PySem.W.mg_none_of X G z0) (PySem.W.mg_none_of X G z1) (PySem.W.mg_none_of X G z2) (PySem.W.mg_none_of X G z3) (PySem.W.mg_none_of X G z4) (PySem.W.mg_none_of X G z5) (PySem.W.mg_none_of X G z6) (PySem.W.mg_none_of X G z7) (PySem.W.mg_none_of X G z8)
  have g0_2 := KB.ok_same (P := l.prog) (w := w) (mg := mg) (base := base) F0 g0_1 b0 (PySem.W.mg_of X G a0) (PySem.W.mg_none_of X G z0) (PySem.W.mg_none_of X G z1) (PySem.W.mg_none_of X G z2) (PySem.W.mg_none_of X G z3) (PySem.W.mg_none_of X G z4) (PySem.W.mg_none_of X G z5) (PySem.W.mg_none_of X G z6) (PySem.W.mg_none_of X G z7) (PySem.W.mg_none_of X G z8)
  have g0_3 := KB.ok_same (P := l.prog) (w := w) (mg := mg) (base := base) F0 g0_2 b0 (PySem.W.mg_of X G a0) (PySem.W.mg_none_of X G z0) (PySem.W.mg_none_of X G z1) (PySem.W.mg_none_of X G z2) (PySem.W.mg_none_of X G z3) (PySem.W.mg_none_of X G z4) (PySem.W.mg_none_of X G z5) (PySem.W.mg_none_of X G z6) (PySem.W.mg_none_of X G z7) (PySem.W.mg_none_of X G z8)
  have g0_4 := KB.ok_same (P := l.prog) (w := w) (mg := mg) (base := base) F0 g0_3 b0 (PySem.W.mg_of X G a0) (PySem.W.mg_none_of X G z0) (PySem.W.mg_none_of X G z1) (PySem.W.mg_none_of X G z2) (PySem.W.mg_none_of X G z3) (PySem.W.mg_none_of X G z4) (PySem.W.mg_none_of X G z5) (PySem.W.mg_none_of X G z6) (PySem.W.mg_none_of X G z7) (PySem.W.mg_none_of X G z8)
  have g0 := KB.ok_same (P := l.prog) (w := w) (mg := mg) (base := base) F0 g0_4 b0 (PySem.W.mg_of X G a0) (PySem.W.mg_none_of X G z0) (PySem.W.mg_none_of X G z1) (PySem.W.mg_none_of X G z2) (PySem.W.mg_none_of X G z3) (PySem.W.mg_none_of X G z4) (PySem.W.mg_none_of X G z5) (PySem.W.mg_none_of X G z6) (PySem.W.mg_none_of X G z7) (PySem.W.mg_none_of X G z8)
  have g1 := KS.ok_draw (P := l.prog) (w := w) (mg := mg) (base := base) F1
  have g2 := KS.ok_pick (P := l.prog) (w := w) (mg := mg) (base := base) F2 ⟨⟨_, _, _, by decide, g1, b1, k1, PySem.W.mg_of X G a1⟩⟩ (PySem.W.mg_none_of X G z3)
  have g3 := KS.ok_stream (P := l.prog) (w := w) (mg := mg) (base := base) F3 (PySem.W.mg_none_of X G z3) (PySem.W.mg_none_of X G z9) (PySem.W.mg_none_of X G z8)
  have g4 := KS.ok_folded (P := l.prog) (w := w) (mg := mg) (base := base) F4 (PySem.W.mg_none_of X G z1) (PySem.W.mg_none_of X G z10)
  have g5 := KM.ok_NotNow (P := l.prog) (w := w) (mg := mg) (base := base) F5 TNotNow noNotNow (PySem.W.mg_none_of X G z11) fcRuntimeError
  have g6 := KM.ok_GInit (P := l.prog) (w := w) (mg := mg) (base := base) F6 TGiver
  have g7 := KM.ok_GPhase (P := l.prog) (w := w) (mg := mg) (base := base) F7 TGiver
  have g8 := KM.ok_GFreeze (P := l.prog) (w := w) (mg := mg) (base := base) F8 TGiver ⟨⟨_, _, _, _, _, _, _, _, by decide, PySem.F.excBase_RuntimeError, TNotNow, tyNotNow, g5, b5, PySem.W.mg_of X G gNotNow⟩⟩ (PySem.W.mg_none_of X G z1)
  have g9 := KM.ok_GResume (P := l.prog) (w := w) (mg := mg) (base := base) F9 TGiver ⟨⟨_, _, _, _, _, _, _, _, by decide, PySem.F.excBase_RuntimeError, TNotNow, tyNotNow, g5, b5, PySem.W.mg_of X G gNotNow⟩⟩
  have g10 := KM.ok_GRecv (P := l.prog) (w := w) (mg := mg) (base := base) F10 TGiver
  have g11 := KM.ok_GMsgs (P := l.prog) (w := w) (mg := mg) (base := base) F11 TGiver (PySem.W.mg_none_of X G z10) (PySem.W.mg_none_of X G z3)
  have g12 := KM.ok_TInit (P := l.prog) (w := w) (mg := mg) (base := base) F12 TTaker
  have g13 := KM.ok_Whole (P := l.prog) (w := w) (mg := mg) (base := base) F13 TTaker (PySem.W.mg_none_of X G z3)
  have g14 := KM.ok_Keep (P := l.prog) (w := w) (mg := mg) (base := base) F14 TTaker
  have g15 := KM.ok_TRecv (P := l.prog) (w := w) (mg := mg) (base := base) F15 TTaker ⟨⟨_, _, _, by decide, g14, b14, k14, PySem.W.mg_of X G a14⟩⟩ ⟨⟨_, _, _, by decide, g13, b13, k13, PySem.W.mg_of X G a13⟩⟩
  have g16 := KM.ok_TMsgs (P := l.prog) (w := w) (mg := mg) (base := base) F16 TTaker ⟨⟨_, _, _, by decide, g13, b13, k13, PySem.W.mg_of X G a13⟩⟩
  have g17 := KM.ok_TRun (P := l.prog) (w := w) (mg := mg) (base := base) F17 TTaker (PySem.W.mg_none_of X G z12)
  have g18 := KM.ok_Given (P := l.prog) (w := w) (mg := mg) (base := base) F18
  have g19 := KM.ok_LWhole (P := l.prog) (w := w) (mg := mg) (base := base) F19 (PySem.W.mg_none_of X G z3)
  have g20 := KM.ok_LText (P := l.prog) (w := w) (mg := mg) (base := base) F20 (PySem.W.mg_none_of X G z12)
  have g21 := KM.ok_TSends (P := l.prog) (w := w) (mg := mg) (base := base) F21 ⟨⟨_, _, _, by decide, g19, b19, k19, PySem.W.mg_of X G a19⟩⟩
  have g22 := KM.ok_GSends (P := l.prog) (w := w) (mg := mg) (base := base) F22 (PySem.W.mg_none_of X G z10) (PySem.W.mg_none_of X G z3)
  have g23 := KM.ok_Taken (P := l.prog) (w := w) (mg := mg) (base := base) F23 ⟨⟨_, _, _, by decide, g19, b19, k19, PySem.W.mg_of X G a19⟩⟩
  have g24 := KM.ok_Refused (P := l.prog) (w := w) (mg := mg) (base := base) F24 ⟨⟨_, _, _, by decide, g8, b8, ⟨a8, i8, k8⟩⟩, TGiver.cls⟩ ⟨⟨_, _, _, by decide, g9, b9, ⟨a9, i9, k9⟩⟩, TGiver.cls⟩ TNotNow.isc noNotNow (PySem.W.mg_of X G gNotNow) (PySem.W.mg_of X G gNotRunning) exm kit1 kit2 (PySem.W.mg_none_of X G z0) (PySem.W.mg_none_of X G z11)
  have g25 := KM.ok_Begin (P := l.prog) (w := w) (mg := mg) (base := base) F25 ⟨⟨_, _, _, by decide, g24, b24, k24, PySem.W.mg_of X G a24⟩⟩ ⟨⟨_, _, _, by decide, g0, b0, k0, PySem.W.mg_of X G a0⟩⟩ (PySem.W.mg_none_of X G z1)
  have g26 := KM.ok_Cut (P := l.prog) (w := w) (mg := mg) (base := base) F26 (PySem.W.mg_none_of X G z13) (PySem.W.mg_none_of X G z3)
  have g27 := KM.ok_LCut (P := l.prog) (w := w) (mg := mg) (base := base) F27 (PySem.W.mg_none_of X G z13) (PySem.W.mg_none_of X G z14) (PySem.W.mg_none_of X G z3)
  have g28 := KM.ok_KeptL (P := l.prog) (w := w) (mg := mg) (base := base) F28 ⟨⟨_, _, _, by decide, g7, b7, ⟨a7, i7, k7⟩⟩, TGiver.cls⟩ ⟨⟨_, _, _, by decide, g11, b11, ⟨a11, i11, k11⟩⟩, TGiver.cls⟩ ⟨⟨_, _, _, by decide, g16, b16, ⟨a16, i16, k16⟩⟩, TTaker.cls⟩ ⟨⟨_, _, _, by decide, g17, b17, ⟨a17, i17, k17⟩⟩, TTaker.cls⟩ ⟨⟨_, _, _, by decide, g22, b22, k22, PySem.W.mg_of X G a22⟩⟩ ⟨⟨_, _, _, by decide, g21, b21, k21, PySem.W.mg_of X G a21⟩⟩ ⟨⟨_, _, _, by decide, g20, b20, k20, PySem.W.mg_of X G a20⟩⟩ ⟨⟨_, _, _, by decide, g0, b0, k0, PySem.W.mg_of X G a0⟩⟩
  have g29 := KM.ok_Sent (P := l.prog) (w := w) (mg := mg) (base := base) F29 ⟨⟨_, _, _, by decide, g2, b2, k2, PySem.W.mg_of X G a2⟩⟩
  have g30 := KM.ok_Deliv (P := l.prog) (w := w) (mg := mg) (base := base) F30 ⟨⟨_, _, _, by decide, g1, b1, k1, PySem.W.mg_of X G a1⟩⟩ ⟨⟨_, _, _, by decide, g10, b10, ⟨a10, i10, k10⟩⟩, TGiver.cls⟩ ⟨⟨_, _, _, by decide, g15, b15, ⟨a15, i15, k15⟩⟩, TTaker.cls⟩ ⟨⟨_, _, _, by decide, g18, b18, k18, PySem.W.mg_of X G a18⟩⟩ ⟨⟨_, _, _, by decide, g23, b23, k23, PySem.W.mg_of X G a23⟩⟩ (PySem.W.mg_none_of X G z1) (PySem.W.mg_none_of X G z3)
  have g31 := KM.ok_Step (P := l.prog) (w := w) (mg := mg) (base := base) F31 ⟨⟨_, _, _, by decide, g1, b1, k1, PySem.W.mg_of X G a1⟩⟩ ⟨⟨_, _, _, by decide, g2, b2, k2, PySem.W.mg_of X G a2⟩⟩ ⟨⟨_, _, _, by decide, g26, b26, k26, PySem.W.mg_of X G a26⟩⟩ ⟨⟨_, _, _, by decide, g27, b27, k27, PySem.W.mg_of X G a27⟩⟩ ⟨⟨_, _, _, by decide, g0, b0, k0, PySem.W.mg_of X G a0⟩⟩ ⟨⟨_, _, _, by decide, g25, b25, k25, PySem.W.mg_of X G a25⟩⟩ ⟨⟨_, _, _, by decide, g29, b29, k29, PySem.W.mg_of X G a29⟩⟩ ⟨⟨_, _, _, by decide, g11, b11, ⟨a11, i11, k11⟩⟩, TGiver.cls⟩ ⟨⟨_, _, _, by decide, g16, b16, ⟨a16, i16, k16⟩⟩, TTaker.cls⟩ ⟨⟨_, _, _, by decide, g30, b30, k30, PySem.W.mg_of X G a30⟩⟩ (PySem.W.mg_none_of X G z13)
  have g32 := KM.ok_Right (P := l.prog) (w := w) (mg := mg) (base := base) F32 ⟨⟨_, _, _, by decide, g6, b6, ⟨mkGiver, a6, i6, kpGiver⟩, PySem.W.mg_of X G gGiver⟩⟩ ⟨⟨_, _, _, by decide, g12, b12, ⟨mkTaker, a12, i12, kpTaker⟩, PySem.W.mg_of X G gTaker⟩⟩ ⟨⟨_, _, _, by decide, g7, b7, ⟨a7, i7, k7⟩⟩, TGiver.cls⟩ ⟨⟨_, _, _, by decide, g11, b11, ⟨a11, i11, k11⟩⟩, TGiver.cls⟩ ⟨⟨_, _, _, by decide, g16, b16, ⟨a16, i16, k16⟩⟩, TTaker.cls⟩ ⟨⟨_, _, _, by decide, g17, b17, ⟨a17, i17, k17⟩⟩, TTaker.cls⟩ ⟨⟨_, _, _, by decide, g10, b10, ⟨a10, i10, k10⟩⟩, TGiver.cls⟩ ⟨⟨_, _, _, by decide, g15, b15, ⟨a15, i15, k15⟩⟩, TTaker.cls⟩ ⟨⟨_, _, _, by decide, g31, b31, k31, PySem.W.mg_of X G a31⟩⟩ ⟨⟨_, _, _, by decide, g28, b28, k28, PySem.W.mg_of X G a28⟩⟩ (PySem.W.mg_none_of X G z13)
  exact KM.ok_Law F33 ⟨⟨_, _, _, by decide, g4, b4, k4, PySem.W.mg_of X G a4⟩⟩ ⟨⟨_, _, _, by decide, g3, b3, k3, PySem.W.mg_of X G a3⟩⟩ ⟨⟨_, _, _, by decide, g32, b32, k32, PySem.W.mg_of X G a32⟩⟩ (PySem.W.mg_none_of X G z13) (PySem.W.mg_none_of X G z3) (PySem.W.mg_none_of X G z4)
end KY
set_option Elab.async false
set_option linter.all false
set_option maxRecDepth 100000
open PySem PySem.W PyProof.Rows
set_option maxHeartbeats 0 in
theorem PySem.Challenge.cw_treethaw_k70_whole_moving_over_a_bad_lin_holds : PySem.Challenge.rw_treethaw_k70_whole_moving_over_a_bad_lin.Holds := by
  w_on; o_law; k_head; (case hw => w_witness2)
  k_fill
  refine L2.walk_of (l := PySem.Challenge.rw_treethaw_k70_whole_moving_over_a_bad_lin) (n := 63) (k := 9) (x := "_law_script") (CX := fun _ => L2.CX0) (sp := fun w => KM.spLaw _) rfl (by decide) rfl ⟨rfl, by decide, by decide⟩ (fun w h Y => PySem.W.kIn_of Y) ?F (fun _ _ a ns hl _ hS => ⟨a, ns, rfl, hS, hl, fun _ => rfl⟩) (fun _ _ _ _ _ h => h)
  case F =>
    intro w mg fa h KX G hmg
    refine' KY.all_mk KX G hmg ?gGiver ?gTaker ?gNotNow ?gNotRunning ?a0 ?l0 ?c0 ?k0 ?a1 ?l1 ?c1 ?k1 ?a2 ?l2 ?c2 ?k2 ?a3 ?l3 ?c3 ?k3 ?a4 ?l4 ?c4 ?k4 ?a5 ?l5 ?c5 ?k5 ?a6 ?i6 ?l6 ?c6 ?k6 ?a7 ?i7 ?l7 ?c7 ?k7 ?a8 ?i8 ?l8 ?c8 ?k8 ?a9 ?i9 ?l9 ?c9 ?k9 ?a10 ?i10 ?l10 ?c10 ?k10 ?a11 ?i11 ?l11 ?c11 ?k11 ?a12 ?i12 ?l12 ?c12 ?k12 ?a13 ?l13 ?c13 ?k13 ?a14 ?l14 ?c14 ?k14 ?a15 ?i15 ?l15 ?c15 ?k15 ?a16 ?i16 ?l16 ?c16 ?k16 ?a17 ?i17 ?l17 ?c17 ?k17 ?a18 ?l18 ?c18 ?k18 ?a19 ?l19 ?c19 ?k19 ?a20 ?l20 ?c20 ?k20 ?a21 ?l21 ?c21 ?k21 ?a22 ?l22 ?c22 ?k22 ?a23 ?l23 ?c23 ?k23 ?a24 ?l24 ?c24 ?k24 ?a25 ?l25 ?c25 ?k25 ?a26 ?l26 ?c26 ?k26 ?a27 ?l27 ?c27 ?k27 ?a28 ?l28 ?c28 ?k28 ?a29 ?l29 ?c29 ?k29 ?a30 ?l30 ?c30 ?k30 ?a31 ?l31 ?c31 ?k31 ?a32 ?l32 ?c32 ?k32 ?a33 ?l33 ?c33 ?k33 ?z0 ?z1 ?z2 ?z3 ?z4 ?z5 ?z6 ?z7 ?z8 ?z9 ?z10 ?z11 ?z12 ?z13 ?z14 ?pgGiver ?hdGiver ?poGiver ?saGiver ?mkGiver ?kpGiver ?nGiver_word ?nGiver_turn ?nGiver_pieces ?nGiver_known ?pgTaker ?hdTaker ?poTaker ?saTaker ?mkTaker ?kpTaker ?nTaker_turn ?nTaker_many ?nTaker_pieces ?nTaker_begun ?xLNotNow ?saNotNow ?ftNotNow ?kCNotNow ?gaNotNow ?ggNotNow ?caNotNow ?tyNotNow ?noNotNow ?hgn ?htk ?fcRuntimeError ?exm ?kit1 ?kit2
    (case gGiver => k_is)
    (case gTaker => k_is)
    (case gNotNow => k_is)
    (case gNotRunning => k_is)
    (case a0 => k_is)
    (case l0 => k_is)
    (case c0 => k_is)
    (case k0 => k_is)
    (case a1 => k_is)
    (case l1 => k_is)
    (case c1 => k_is)
    (case k1 => k_is)
    (case a2 => k_is)
    (case l2 => k_is)
    (case c2 => k_is)
    (case k2 => k_is)
    (case a3 => k_is)
    (case l3 => k_is)
    (case c3 => k_is)
    (case k3 => k_is)
    (case a4 => k_is)
    (case l4 => k_is)
    (case c4 => k_is)
    (case k4 => k_is)
    (case a5 => k_is)
    (case l5 => k_is)
    (case c5 => k_is)
    (case k5 => k_is)
    (case a6 => k_is)
    (case i6 => k_is)
    (case l6 => k_is)
    (case c6 => k_is)
    (case k6 => k_is)
    (case a7 => k_is)
    (case i7 => k_is)
    (case l7 => k_is)
    (case c7 => k_is)
    (case k7 => k_is)
    (case a8 => k_is)
    (case i8 => k_is)
    (case l8 => k_is)
    (case c8 => k_is)
    (case k8 => k_is)
    (case a9 => k_is)
    (case i9 => k_is)
    (case l9 => k_is)
    (case c9 => k_is)
    (case k9 => k_is)
    (case a10 => k_is)
    (case i10 => k_is)
    (case l10 => k_is)
    (case c10 => k_is)
    (case k10 => k_is)
    (case a11 => k_is)
    (case i11 => k_is)
    (case l11 => k_is)
    (case c11 => k_is)
    (case k11 => k_is)
    (case a12 => k_is)
    (case i12 => k_is)
    (case l12 => k_is)
    (case c12 => k_is)
    (case k12 => k_is)
    (case a13 => k_is)
    (case l13 => k_is)
    (case c13 => k_is)
    (case k13 => k_is)
    (case a14 => k_is)
    (case l14 => k_is)
    (case c14 => k_is)
    (case k14 => k_is)
    (case a15 => k_is)
    (case i15 => k_is)
    (case l15 => k_is)
    (case c15 => k_is)
    (case k15 => k_is)
    (case a16 => k_is)
    (case i16 => k_is)
    (case l16 => k_is)
    (case c16 => k_is)
    (case k16 => k_is)
    (case a17 => k_is)
    (case i17 => k_is)
    (case l17 => k_is)
    (case c17 => k_is)
    (case k17 => k_is)
    (case a18 => k_is)
    (case l18 => k_is)
    (case c18 => k_is)
    (case k18 => k_is)
    (case a19 => k_is)
    (case l19 => k_is)
    (case c19 => k_is)
    (case k19 => k_is)
    (case a20 => k_is)
    (case l20 => k_is)
    (case c20 => k_is)
    (case k20 => k_is)
    (case a21 => k_is)
    (case l21 => k_is)
    (case c21 => k_is)
    (case k21 => k_is)
    (case a22 => k_is)
    (case l22 => k_is)
    (case c22 => k_is)
    (case k22 => k_is)
    (case a23 => k_is)
    (case l23 => k_is)
    (case c23 => k_is)
    (case k23 => k_is)
    (case a24 => k_is)
    (case l24 => k_is)
    (case c24 => k_is)
    (case k24 => k_is)
    (case a25 => k_is)
    (case l25 => k_is)
    (case c25 => k_is)
    (case k25 => k_is)
    (case a26 => k_is)
    (case l26 => k_is)
    (case c26 => k_is)
    (case k26 => k_is)
    (case a27 => k_is)
    (case l27 => k_is)
    (case c27 => k_is)
    (case k27 => k_is)
    (case a28 => k_is)
    (case l28 => k_is)
    (case c28 => k_is)
    (case k28 => k_is)
    (case a29 => k_is)
    (case l29 => k_is)
    (case c29 => k_is)
    (case k29 => k_is)
    (case a30 => k_is)
    (case l30 => k_is)
    (case c30 => k_is)
    (case k30 => k_is)
    (case a31 => k_is)
    (case l31 => k_is)
    (case c31 => k_is)
    (case k31 => k_is)
    (case a32 => k_is)
    (case l32 => k_is)
    (case c32 => k_is)
    (case k32 => k_is)
    (case a33 => k_is)
    (case l33 => k_is)
    (case c33 => k_is)
    (case k33 => k_is)
    (case z0 => k_is)
    (case z1 => k_is)
    (case z2 => k_is)
    (case z3 => k_is)
    (case z4 => k_is)
    (case z5 => k_is)
    (case z6 => k_is)
    (case z7 => k_is)
    (case z8 => k_is)
    (case z9 => k_is)
    (case z10 => k_is)
    (case z11 => k_is)
    (case z12 => k_is)
    (case z13 => k_is)
    (case z14 => k_is)
    (case pgGiver => k_is)
    (case hdGiver => k_is)
    (case poGiver => k_is)
    (case saGiver => k_is)
    (case mkGiver => k_is)
    (case kpGiver => k_is)
    (case nGiver_word => k_is)
    (case nGiver_turn => k_is)
    (case nGiver_pieces => k_is)
    (case nGiver_known => k_is)
    (case pgTaker => k_is)
    (case hdTaker => k_is)
    (case poTaker => k_is)
    (case saTaker => k_is)
    (case mkTaker => k_is)
    (case kpTaker => k_is)
    (case nTaker_turn => k_is)
    (case nTaker_many => k_is)
    (case nTaker_pieces => k_is)
    (case nTaker_begun => k_is)
    (case xLNotNow => k_is)
    (case saNotNow => k_is)
    (case ftNotNow => k_is)
    (case kCNotNow => k_is)
    (case gaNotNow => k_is)
    (case ggNotNow => k_is)
    (case caNotNow => k_is)
    (case tyNotNow => k_is)
    (case noNotNow => k_is)
    (case hgn => first | k_is | rfl | decide +kernel)
    (case htk => first | k_is | rfl | decide +kernel)
    (case fcRuntimeError => first | k_is | rfl | decide +kernel)
    (case exm => first | k_is | rfl | decide +kernel)
    (case kit1 => first | k_is | rfl | decide +kernel)
    (case kit2 => first | k_is | rfl | decide +kernel)

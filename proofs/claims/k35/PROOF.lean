import PyProof.Rows.All
import Wide.All
import OpenK.AllK
import Wide.FinOn
import HandS.ForMost
import HandS.IsInst
import HandS.Wide
import HandS.Walk
import HandS.Flow
import HandS.Conv
import HandS.Zip
import HandS.NoneIn
import HandS.More
import HandS.DictComp
import HandS.Star
import HandS.Strs
import HandS.Evl
import PyProof.ReprRoads
import HandS.RaiseMore
import HandS.SetFor
import HandS.FStrTup
import HandS.Style
import HandS.TupAny
import HandS.SortKw
import KE.DataMinMax
import KE.SortData
import PySem.Challenge.RW_treethaw_k35_known_families
set_option Elab.async false
set_option linter.all false
namespace KB
/-! ### ascending lists -/
def ins (a : Int) : List Int → List Int
  | [] => [a]
  | b :: l => if a < b then a :: b :: l else if a = b then b :: l else b :: ins a l
def asc (l : List Int) : List Int := l.foldr ins []
theorem mem_ins {a k : Int} : ∀ {l : List Int}, k ∈ ins a l ↔ k = a ∨ k ∈ l
  | [] => by simp [ins]
  | b :: l => by
    unfold ins
    split
    · simp
    · split
      · rename_i h; subst h; simp
      · simp only [List.mem_cons, mem_ins]
        constructor
        · rintro (h | h | h) <;> simp [h]
        · rintro (h | h | h) <;> simp [h]
theorem ins_asc {a : Int} : ∀ {l : List Int}, l.Pairwise (· < ·) → (ins a l).Pairwise (· < ·)
  | [], _ => by simp [ins]
  | b :: l, h => by
    rw [List.pairwise_cons] at h
    unfold ins
    split
    · rename_i z
      refine List.pairwise_cons.mpr ⟨fun x m => ?_, List.pairwise_cons.mpr h⟩
      rcases List.mem_cons.mp m with m | m
      · rw [m]; exact z
      · exact Int.lt_trans z (h.1 x m)
    · split
      · exact List.pairwise_cons.mpr h
      · rename_i z1 z2
        refine List.pairwise_cons.mpr ⟨fun x m => ?_, ins_asc h.2⟩
        rcases mem_ins.mp m with m | m
        · rw [m]; omega
        · exact h.1 x m
theorem mem_asc {k : Int} : ∀ {l : List Int}, k ∈ asc l ↔ k ∈ l
  | [] => by simp [asc]
  | a :: l => by
    show k ∈ ins a (asc l) ↔ _
    rw [mem_ins, mem_asc, List.mem_cons]
theorem asc_asc : ∀ (l : List Int), (asc l).Pairwise (· < ·)
  | [] => by simp [asc]
  | a :: l => ins_asc (asc_asc l)
theorem len_ins (a : Int) : ∀ (l : List Int), (ins a l).length ≤ l.length + 1
  | [] => by simp [ins]
  | b :: l => by
    unfold ins
    split
    · simp
    · split
      · simp
      · have := len_ins a l
        simp only [List.length_cons]
        omega
theorem len_asc : ∀ (l : List Int), (asc l).length ≤ l.length
  | [] => by simp [asc]
  | a :: l => by
    have := len_asc l
    have := len_ins a (asc l)
    show (ins a (asc l)).length ≤ _
    simp only [List.length_cons]
    omega
theorem asc_uniq {a b : List Int} (ha : a.Pairwise (· < ·)) (hb : b.Pairwise (· < ·)) (h : ∀ k, k ∈ a ↔ k ∈ b) : a = b := by
  have na : a.Nodup := ha.imp fun h => Int.ne_of_lt h
  have nb : b.Nodup := hb.imp fun h => Int.ne_of_lt h
  have p : a.Perm b := by
    rw [List.perm_iff_count]
    intro k
    rw [na.count, nb.count]
    simp only [h]
  exact p.eq_of_pairwise (le := fun x y => x ≤ y) (fun x y _ _ h1 h2 => Int.le_antisymm h1 h2) (ha.imp fun h => Int.le_of_lt h) (hb.imp fun h => Int.le_of_lt h)
theorem asc_eq {a l : List Int} (ha : a.Pairwise (· < ·)) (h : ∀ k, k ∈ a ↔ k ∈ l) : a = asc l := asc_uniq ha (asc_asc l) fun k => (h k).trans mem_asc.symm
theorem asc_congr {l m : List Int} (h : ∀ k, k ∈ l ↔ k ∈ m) : asc l = asc m := asc_eq (asc_asc l) fun k => mem_asc.trans (h k)
/-! ### families -/
structure Rw where
  n : Int
  up : Int
  s : Int
  g : Int
  ad : Bool
  w : Nat
abbrev Fam := List Rw
def keys (M : Fam) : List Int := M.map (·.n)
def look (M : Fam) (n : Int) : Option Rw := M.find? fun r => decide (r.n = n)
def up (M : Fam) (n : Int) : Int := ((look M n).map (·.up)).getD 1
def ses (M : Fam) (n : Int) : Int := ((look M n).map (·.s)).getD 1
def grp (M : Fam) (n : Int) : Int := ((look M n).map (·.g)).getD 1
def ado (M : Fam) (n : Int) : Bool := ((look M n).map (·.ad)).getD true
def end? (M : Fam) (n : Int) : Bool := ((look M n).map fun r => decide (r.w = 1)).getD false
structure WF (M : Fam) : Prop where
  asc : (keys M).Pairwise (· < ·)
  low : ∀ r ∈ M, 2 ≤ r.n
  par : ∀ r ∈ M, r.up = 1 ∨ r.up ∈ keys M
  root : ∃ root ∈ keys M, ∀ n ∈ keys M, up M n = 1 ↔ n = root
  rk : ∃ rk : Int → Nat, (∀ r ∈ M, rk r.n < 60) ∧ ∀ r ∈ M, r.up ≠ 1 → rk r.up < rk r.n
  few : M.length ≤ 20
theorem look_of {M : Fam} (h : (keys M).Pairwise (· < ·)) {r : Rw} (m : r ∈ M) : look M r.n = some r := by
  induction M with
  | nil => cases m
  | cons x M ih =>
    have h' := List.pairwise_cons.mp h
    unfold look
    rw [List.find?_cons]
    rcases List.mem_cons.mp m with m | m
    · rw [m]; simp
    · have : x.n < r.n := h'.1 r.n (List.mem_map_of_mem (f := fun r : Rw => r.n) m)
      have e : decide (x.n = r.n) = false := decide_eq_false (by omega)
      rw [e]
      exact ih h'.2 m
theorem look_mem {M : Fam} {n : Int} {r : Rw} (h : look M n = some r) : r ∈ M ∧ r.n = n :=
  ⟨List.mem_of_find?_eq_some h, of_decide_eq_true (List.find?_some (p := fun r : Rw => decide (r.n = n)) h)⟩
theorem look_some {M : Fam} {n : Int} (h : n ∈ keys M) : ∃ r, look M n = some r := by
  obtain ⟨r, m, e⟩ := List.mem_map.mp h
  cases z : look M n with
  | some r => exact ⟨r, rfl⟩
  | none => exact absurd (decide_eq_true e) (List.find?_eq_none.mp z r m)
theorem look_none {M : Fam} {n : Int} (h : n ∉ keys M) : look M n = none :=
  List.find?_eq_none.mpr fun r m e => h (by rw [← of_decide_eq_true e]; exact List.mem_map_of_mem (f := fun r : Rw => r.n) m)
section
variable {M : Fam} {n : Int} {r : Rw}
theorem WF.up (W : WF M) (m : r ∈ M) : up M r.n = r.up := by unfold KB.up; rw [look_of W.asc m]; rfl
theorem WF.ses (W : WF M) (m : r ∈ M) : ses M r.n = r.s := by unfold KB.ses; rw [look_of W.asc m]; rfl
theorem WF.grp (W : WF M) (m : r ∈ M) : grp M r.n = r.g := by unfold KB.grp; rw [look_of W.asc m]; rfl
theorem WF.ado (W : WF M) (m : r ∈ M) : ado M r.n = r.ad := by unfold KB.ado; rw [look_of W.asc m]; rfl
theorem WF.row (W : WF M) (h : n ∈ keys M) : ∃ r ∈ M, r.n = n := by
  obtain ⟨r, m, e⟩ := List.mem_map.mp h
  exact ⟨r, m, e⟩
theorem WF.one (W : WF M) : (1 : Int) ∉ keys M := fun h => by
  obtain ⟨r, m, e⟩ := W.row h
  have := W.low r m
  omega
theorem WF.up_in (W : WF M) (h : n ∈ keys M) (z : KB.up M n ≠ 1) : KB.up M n ∈ keys M := by
  obtain ⟨r, m, rfl⟩ := W.row h
  rw [W.up m] at z ⊢
  exact (W.par r m).resolve_left z
theorem up1 (W : WF M) : up M 1 = 1 := by unfold up; rw [look_none W.one]; rfl
theorem ado1 (W : WF M) : ado M 1 = true := by unfold ado; rw [look_none W.one]; rfl
theorem ses1 (W : WF M) : ses M 1 = 1 := by unfold ses; rw [look_none W.one]; rfl
theorem grp1 (W : WF M) : grp M 1 = 1 := by unfold grp; rw [look_none W.one]; rfl
end
/-! ### what is above -/
def go (M : Fam) : Nat → Int → List Int
  | 0, _ => []
  | k + 1, n => up M n :: if up M n = 1 then [] else go M k (up M n)
def above (M : Fam) (n : Int) : List Int := go M 64 n
section
variable {M : Fam} {n : Int}
theorem go_more (W : WF M) {rk : Int → Nat} (h : ∀ r ∈ M, r.up ≠ 1 → rk r.up < rk r.n) : ∀ (k j : Nat) (n : Int), n ∈ keys M → rk n < k → rk n < j → go M k n = go M j n
  | 0, _, _, _, h1, _ => absurd h1 (Nat.not_lt_zero _)
  | _ + 1, 0, _, _, _, h2 => absurd h2 (Nat.not_lt_zero _)
  | k + 1, j + 1, n, m, h1, h2 => by
    show (up M n :: _) = (up M n :: _)
    split
    · rfl
    · rename_i z
      obtain ⟨r, mr, rfl⟩ := W.row m
      have e := W.up mr
      rw [e] at z
      have := h r mr z
      rw [e, go_more W h k j r.up ((W.par r mr).resolve_left z) (by omega) (by omega)]
theorem above_eq (W : WF M) (m : n ∈ keys M) : above M n = up M n :: if up M n = 1 then [] else above M (up M n) := by
  obtain ⟨rk, h1, h2⟩ := W.rk
  show go M 64 n = _
  show (up M n :: _) = _
  split
  · rfl
  · rename_i z
    have mu := W.up_in m z
    obtain ⟨r, mr, e⟩ := W.row mu
    have := h1 r mr
    rw [e] at this
    show _ = up M n :: go M 64 (up M n)
    rw [go_more W h2 63 64 _ mu (by omega) (by omega)]
/-- by what is above -/
theorem up_ind (W : WF M) {P : Int → Prop} (h0 : ∀ n ∈ keys M, up M n = 1 → P n) (h1 : ∀ n ∈ keys M, up M n ≠ 1 → P (up M n) → P n) : ∀ n ∈ keys M, P n := by
  obtain ⟨rk, r1, r2⟩ := W.rk
  have : ∀ (k : Nat) (n : Int), n ∈ keys M → rk n < k → P n := by
    intro k
    induction k with
    | zero => exact fun _ _ h => absurd h (Nat.not_lt_zero _)
    | succ k ih =>
      intro n m h
      by_cases z : up M n = 1
      · exact h0 n m z
      · obtain ⟨r, mr, rfl⟩ := W.row m
        have e := W.up mr
        refine h1 _ m z (ih _ (W.up_in m z) ?_)
        rw [e] at z ⊢
        have := r2 r mr z
        omega
  exact fun n m => this _ n m (Nat.lt_succ_self _)
theorem above_len (W : WF M) : ∀ n ∈ keys M, (above M n).length ≤ 64 := by
  intro n _
  have : ∀ (k : Nat) (n : Int), (go M k n).length ≤ k := by
    intro k
    induction k with
    | zero => exact fun _ => Nat.le_refl 0
    | succ k ih =>
      intro n
      show (up M n :: _).length ≤ _
      split
      · simp
      · have := ih (up M n)
        simp only [List.length_cons]
        omega
  exact this 64 n
def adopter (M : Fam) (n : Int) : Int := ((above M n).find? fun a => ado M a).getD 1
theorem adopter_eq (W : WF M) (m : n ∈ keys M) : adopter M n = if up M n = 1 ∨ ado M (up M n) = true then up M n else adopter M (up M n) := by
  unfold adopter
  rw [above_eq W m]
  by_cases z : up M n = 1
  · rw [if_pos z, z]
    simp [ado1 W]
  · rw [if_neg z, List.find?_cons]
    cases a : ado M (up M n) <;> simp [z]
theorem above_in (W : WF M) : ∀ n ∈ keys M, ∀ a ∈ above M n, a = 1 ∨ a ∈ keys M := by
  refine up_ind W (fun n m z a h => ?_) (fun n m z ih a h => ?_)
  · rw [above_eq W m, if_pos z] at h
    exact .inl ((List.mem_singleton.mp h).trans z)
  · rw [above_eq W m, if_neg z] at h
    rcases List.mem_cons.mp h with h | h
    · exact .inr (by rw [h]; exact W.up_in m z)
    · exact ih a h
theorem above_one (W : WF M) : ∀ n ∈ keys M, (1 : Int) ∈ above M n := by
  refine up_ind W (fun n m z => ?_) (fun n m z ih => ?_)
  · rw [above_eq W m, z]
    exact List.mem_cons_self
  · rw [above_eq W m, if_neg z]
    exact List.mem_cons_of_mem _ ih
/-- nothing is above itself -/
theorem above_rk (W : WF M) {rk : Int → Nat} (h : ∀ r ∈ M, r.up ≠ 1 → rk r.up < rk r.n) : ∀ n ∈ keys M, ∀ a ∈ above M n, a ≠ 1 → rk a < rk n := by
  refine up_ind W (fun n m z a h z1 => ?_) (fun n m z ih a h' z1 => ?_)
  · rw [above_eq W m, if_pos z] at h
    exact absurd ((List.mem_singleton.mp h).trans z) z1
  · obtain ⟨r, mr, rfl⟩ := W.row m
    have e := W.up mr
    have lt := h r mr (by rw [← e]; exact z)
    rw [above_eq W m, if_neg z] at h'
    rcases List.mem_cons.mp h' with h' | h'
    · rw [h', e]; exact lt
    · have := ih a h' z1
      rw [e] at this
      omega
theorem above_self (W : WF M) (m : n ∈ keys M) : n ∉ above M n := fun h => by
  obtain ⟨rk, _, r2⟩ := W.rk
  have z : n ≠ 1 := fun z => W.one (z ▸ m)
  exact absurd (above_rk W r2 n m n h z) (Nat.lt_irrefl _)
end
/-! ### tops -/
def topB (M : Fam) (s n : Int) : Bool := decide (ses M n = s) && (decide (up M n = 1) || !decide (ses M (up M n) = s))
def tops (M : Fam) (s : Int) : List Int := (keys M).filter (topB M s)
def sessions (M : Fam) : List Int := asc (M.map (·.s))
def groups (M : Fam) : List Int := asc (M.map (·.g))
/-- whether n bars the session s -/
def barsS (M : Fam) (s n : Int) : Bool :=
  if s ∈ keys M then
    if n = s then !(decide (ses M n = s) && decide (grp M n = s)) else decide (n ∈ tops M s) && !decide (up M n = adopter M s)
  else if n ∈ tops M s then
    if s = 1 then !decide (up M n = 1) else !decide (up M n = up M ((tops M s).headD 1)) || !ado M (up M n)
  else false
theorem mem_tops {M : Fam} {s n : Int} : n ∈ tops M s ↔ n ∈ keys M ∧ topB M s n = true := List.mem_filter
def owners (M : Fam) (g : Int) : List Int := asc ((M.filter fun r => decide (r.g = g)).map (·.s))
def splitB (M : Fam) (g : Int) : Bool :=
  decide (1 < (owners M g).length) || (decide (g ∈ keys M) && !decide (ses M g = (owners M g).headD 1))
    || ((decide (g = 1) || decide (g ∈ M.map (·.s))) && !decide (g = (owners M g).headD 1))
/-- the child of n's parent that is the leader of n's session or above it -/
def need (M : Fam) (n : Int) : Option Int :=
  if ses M n ∈ keys M ∧ ses M n ≠ n ∧ topB M (ses M n) n = true then (ses M n :: above M (ses M n)).find? fun a => !decide (a = 1) && decide (up M a = up M n) else none
def ringGo (M : Fam) : Nat → List Int → Option Int → List Int × Option Int
  | 0, row, l => (row, l)
  | _ + 1, row, none => (row, none)
  | k + 1, row, some x => if x ∈ row then (row, some x) else ringGo M k (row ++ [x]) (need M x)
def ring (M : Fam) (n : Int) : Option (List Int) :=
  let z := ringGo M 64 [n] (need M n)
  if z.2 = some n ∧ z.1.all (fun a => decide (n ≤ a)) = true then some z.1 else none
inductive Rs where
  | session (s n : Int) | group (g : Int) | ring (row : List Int)
def reasons (M : Fam) : List Rs :=
  (sessions M).flatMap (fun s => ((keys M).filter (barsS M s)).map (Rs.session s)) ++ ((groups M).filter (splitB M)).map Rs.group ++ ((keys M).filterMap (ring M)).map Rs.ring
end KB
set_option Elab.async false
set_option linter.all false
set_option maxRecDepth 100000
set_option maxHeartbeats 4000000
namespace PySem
theorem codeAny_g {M : Model} {A : Around} {c : Code} {R : Result → Shared → Prop} {s : Shared} (h : ∀ g, codeAny M { A with guards := some g } c R s) : codeAny M A c R s :=
  fun Γ p e b => h (guardsOf Γ.below) Γ p e ⟨b.1, b.2.1, b.2.2.1, fun g hg => by cases hg; rfl, b.2.2.2.2⟩
end PySem
namespace L2
open PySem PySem.Spec PyProof.Rows
theorem room_g {k : Nat} {A : Around} {g : List Code} (r : Room k A) : Room k { A with guards := some g } := ⟨r.hd, r.dp, r.un⟩
theorem env0_g {P : Program} {w : World} {K : PySem.W.Frag} {mg : Str → Option Value} {base : Heap} {A : Around} {outer : List Env} {s : Shared} {H : Hp} {g : List Code} (e : Env0 P w K mg base A outer s H) : Env0 P w K mg base { A with guards := some g } outer s H :=
  ⟨e.frames, e.mod, e.bs, e.bsz, e.funs, e.frf, e.hok, e.bare⟩
section
variable {P : Program} {w : World} {K : PySem.W.Frag} {mg : Str → Option Value} {base : Heap}
/-- a def, its body walked where the guards around it are known -/
theorem Fun.okG {x qual : Str} {st : Stmt} {f : Addr} {fd : FuncData} {N ps : List Str} {k : Nat} {sp : Sp} (F : Fun K x qual st f fd) (S : FnScope N ps (defScope st)) (len : ∀ vs H Q E, sp vs H Q E → vs.length = ps.length)
    (body : ∀ (cdv : Value) (A : Around) (outer : List Env) (s : Shared) (H : Hp) (vs : List V) (Q : VK) (E : XK), (∃ g, A.guards = some g) → Room k (A.deeper (envOfC qual (defScope st) s.heap.objs.size f cdv)) → sp vs H Q E →
      ∃ t, PSs (cxOf CX0 P w K mg base N qual (defScope st) f cdv A outer s H E).nox (defBody st) t ∧ t { nx := fun _ H' => Q .non H', rt := Q } (start N vs) H) : FnOk P w K mg base CX0 (k + 1) f fd ps sp := by
  obtain ⟨oc, od, kV, doc, pm, an, cdv, ct, osl, rfl, lk, hcd⟩ := F.ex
  refine ⟨len, fun A outer s H args us vs Q E hr e0 hb r hsp => codeAny_g fun g => ?_⟩
  have hr' := room_g (g := g) hr
  have e1 := env0_g (g := g) e0
  have at_ : (∃ g', ({ A with guards := some g } : Around).guards = some g') := ⟨g, rfl⟩
  generalize ({ A with guards := some g } : Around) = B at hr' e1 at_ ⊢
  have hl := len _ _ _ _ hsp
  have up : ∀ b o, base.get? b = some o → s.heap.get? b = some o := fun b o z => (e1.bs b o z).1
  have KX : K.In s.heap := e1.mod.kin.keeps up
  have lim : s.heap.NoLimit := e1.mod.nolimit.keeps up
  have kinds : ∀ y ∈ ps.zip us, (defScope st).names.lookup y.1 = some .local ∨ ((defScope st).names.lookup y.1 = some .cell ∧ ((cellsFrom (s.heap.objs.size + 1) (defScope st).names []).lookup y.1).isSome = true) := fun y hy => by
    rcases S.par y.1 (List.of_mem_zip hy).1 with z | z
    · exact .inl z
    · exact .inr ⟨z, PySem.W.cellsFrom_some _ _ _ (.inl z)⟩
  refine codeAny_call_function hr'.depth (KX _ _ lk) rfl S.co S.gen rfl (PySem.W.codeRec_of KX hcd) (hb _ _ _ _ ?_)
  refine wpAny_newFunctionEnv_cells S.kind kinds fun env he s1 y => ?_
  subst he
  refine ⟨lim.keeps y.toInCall.keep, codeAny_func ?_⟩
  obtain ⟨t, ht, hq⟩ := body cdv B outer s H vs Q E at_ (hr'.deeper _) hsp
  have I : Inv (cxOf CX0 P w K mg base N qual (defScope st) f cdv B outer s H E) [] (start N vs) H s1 := inv_start S hr'.hd e1 hl r y
  refine wpAny_mono (ht.nox.run [] s1 (start N vs) H _ I hq) (fun fl s' z => ?_) fun _ _ z => z
  have fin : ∀ {σ' : St} {H' : Hp} {v : V} {u : Value}, Inv (cxOf CX0 P w K mg base N qual (defScope st) f cdv B outer s H E) [] σ' H' s' → RelV v u → Q v H' → CE outer P w H s Q u s' :=
    fun J rv q => ⟨_, _, J.os, J.bare, J.base, J.hok, rv, q⟩
  match fl, z with
  | .ret u, ⟨v, σ', H', J, rv, q⟩ => exact fin J rv q
  | .next, ⟨σ', H', J, q⟩ => exact fin (v := V.non) (u := Value.none) J rfl q
  | .brk, ⟨_, _, _, q⟩ => exact q.elim
  | .cont, ⟨_, _, _, q⟩ => exact q.elim
end
end L2

namespace L2
open PySem PySem.Spec PyProof.Rows
/-- a def's promise where nothing is being shown around it -/
structure FnG (P : Program) (w : World) (K : PySem.W.Frag) (mg : Str → Option Value) (base : Heap) (k : Nat) (f : Addr) (fd : FuncData) (ps : List Str) (sp : Sp) : Prop where
  len : ∀ vs H Q E, sp vs H Q E → vs.length = ps.length
  go : ∀ (A : Around) (outer : List Env) (s : Shared) (H : Hp) (args : Args) (us : List Value) (vs : List V) (Q : VK) (E : XK), A.guards = some [] → Room k A → Env0 P w K mg base A outer s H → BindsTo s fd args (ps.zip us) → Vals vs us → sp vs H Q E →
    codeAny (model P w) A (.call (.ref f) args) (CR CX0 outer P w H s Q E) s
theorem deeper_g {A : Around} {e : Env} (h : A.guards = some []) : (A.deeper e).guards = some [] := by
  first | exact h | (simp [Around.deeper, h]) | (unfold Around.deeper; simp [Around.under, h])
section
variable {P : Program} {w : World} {K : PySem.W.Frag} {mg : Str → Option Value} {base : Heap}
theorem Fun.okN {x qual : Str} {st : Stmt} {f : Addr} {fd : FuncData} {N ps : List Str} {k : Nat} {sp : Sp} (F : Fun K x qual st f fd) (S : FnScope N ps (defScope st)) (len : ∀ vs H Q E, sp vs H Q E → vs.length = ps.length)
    (body : ∀ (cdv : Value) (A : Around) (outer : List Env) (s : Shared) (H : Hp) (vs : List V) (Q : VK) (E : XK), (A.deeper (envOfC qual (defScope st) s.heap.objs.size f cdv)).guards = some [] → Room k (A.deeper (envOfC qual (defScope st) s.heap.objs.size f cdv)) → sp vs H Q E →
      ∃ t, PSs (cxOf CX0 P w K mg base N qual (defScope st) f cdv A outer s H E).nox (defBody st) t ∧ t { nx := fun _ H' => Q .non H', rt := Q } (start N vs) H) : FnG P w K mg base (k + 1) f fd ps sp := by
  obtain ⟨oc, od, kV, doc, pm, an, cdv, ct, osl, rfl, lk, hcd⟩ := F.ex
  refine ⟨len, fun A outer s H args us vs Q E hg hr e1 hb r hsp => ?_⟩
  have hl := len _ _ _ _ hsp
  have up : ∀ b o, base.get? b = some o → s.heap.get? b = some o := fun b o z => (e1.bs b o z).1
  have KX : K.In s.heap := e1.mod.kin.keeps up
  have lim : s.heap.NoLimit := e1.mod.nolimit.keeps up
  have kinds : ∀ y ∈ ps.zip us, (defScope st).names.lookup y.1 = some .local ∨ ((defScope st).names.lookup y.1 = some .cell ∧ ((cellsFrom (s.heap.objs.size + 1) (defScope st).names []).lookup y.1).isSome = true) := fun y hy => by
    rcases S.par y.1 (List.of_mem_zip hy).1 with z | z
    · exact .inl z
    · exact .inr ⟨z, PySem.W.cellsFrom_some _ _ _ (.inl z)⟩
  refine codeAny_call_function hr.depth (KX _ _ lk) rfl S.co S.gen rfl (PySem.W.codeRec_of KX hcd) (hb _ _ _ _ ?_)
  refine wpAny_newFunctionEnv_cells S.kind kinds fun env he s1 y => ?_
  subst he
  refine ⟨lim.keeps y.toInCall.keep, codeAny_func ?_⟩
  obtain ⟨t, ht, hq⟩ := body cdv A outer s H vs Q E (deeper_g hg) (hr.deeper _) hsp
  have I : Inv (cxOf CX0 P w K mg base N qual (defScope st) f cdv A outer s H E) [] (start N vs) H s1 := inv_start S hr.hd e1 hl r y
  refine wpAny_mono (ht.nox.run [] s1 (start N vs) H _ I hq) (fun fl s' z => ?_) fun _ _ z => z
  have fin : ∀ {σ' : St} {H' : Hp} {v : V} {u : Value}, Inv (cxOf CX0 P w K mg base N qual (defScope st) f cdv A outer s H E) [] σ' H' s' → RelV v u → Q v H' → CE outer P w H s Q u s' :=
    fun J rv q => ⟨_, _, J.os, J.bare, J.base, J.hok, rv, q⟩
  match fl, z with
  | .ret u, ⟨v, σ', H', J, rv, q⟩ => exact fin J rv q
  | .next, ⟨σ', H', J, q⟩ => exact fin (v := V.non) (u := Value.none) J rfl q
  | .brk, ⟨_, _, _, q⟩ => exact q.elim
  | .cont, ⟨_, _, _, q⟩ => exact q.elim
end
section
variable {X : Cx} {k : Nat} {f : Addr} {fd : FuncData} {ps : List Str} {sp : Sp} {x : Str} {p pos : Pos} {e : Expr} {es : List Expr} {t : TA}
theorem pe_callN (F : FnG X.prog X.w X.K X.mg X.base k f fd ps sp) (hN : X.A.guards = some []) (hr : Room k X.A) (hg : Gl X x) (hm : X.mg x = some (.ref f)) (hk : PySem.W.keepIn X.K (.ref f) = true) (hb : Binds X.K fd ps []) (ha : PA X (e :: es) t)
    (nd : (x == ("__debug__" : Str)) = false := by decide) (he : starEach (e :: es) X.env = (false, eval e X.env) :: starEach es X.env := by rfl) (np : (backTo pos (starEach es X.env)).any (·.1) = false := by rfl) :
    PE X (.Call (.Name x p) (e :: es) [] pos) (tCall sp [] E0 t) := by
  refine ⟨fun pins s σ H Q I h => wpAny_Call_Name_kw (ld_glob I hg hm ?_ nd)⟩
  refine PySem.W.callWith_K (h₀ := X.base) I.ok.mod.kin hk (thn (ha.run pos pins s σ H _ I h) fun us s1 hu => ?_) he np
  obtain ⟨vs, H1, I1, r1, q⟩ := hu
  refine ⟨I1.kIn, ?_⟩
  rw [List.append_nil] at q
  have hl : (us ++ []).length = ps.length := by
    rw [List.append_nil, ← r1.length]
    exact F.len _ _ _ _ q
  have bnd := hb s1 us I1.kIn hl
  rw [List.append_nil] at bnd
  refine wpAny_call (codeAny_mono (F.go X.A X.stack s1 H1 ⟨us, []⟩ us vs Q E0 hN hr I1.env0 bnd r1 q) fun r s' z => ?_)
  match r, z with
  | .error _, z => exact z.elim
  | .ok (.ret u), z => exact I1.after z
  | .ok .next, z => exact z.elim
  | .ok .brk, z => exact z.elim
  | .ok .cont, z => exact z.elim
end
end L2

namespace L2
open PySem PySem.Spec PyProof.Rows
theorem law_callN {P : Program} {w : World} {K : PySem.W.Frag} {mg mb : Str → Option Value} {k : Nat} {fa a : Addr} {fd : FuncData} {x : Str} {sp : Sp} {z : Shared} {vs : List Value} {ns : List Int}
    (KX : K.In z.heap) (h1 : z.heap.Ns mainGlobals mg) (h2 : z.heap.Ns builtinsNs mb) (h3 : ∀ x : Str, x ≠ "__name__" → mb x = bootBuiltins x) (h4 : z.heap.NoLimit) (h5 : z.gens = #[])
    (ha : z.heap.get? a = some { cls := .type "list", data := .seq vs.toArray }) (hi : IntsAre vs ns) (hl : ns.length ≤ sizeLine) (hr : Room k callerA)
    (F : ∀ base : Heap, K.In base → base.Ns mainGlobals mg → FnG P w K mg base k fa fd [x] sp) (bnd : ∀ (s : Shared) (u : Value), BindsTo s fd ⟨[u], []⟩ [(x, u)])
    (hsp : ∀ H : Hp, Only H → SqL K H a (ns.map V.int) → sp [.ref a] H (fun v _ => v = .bl true) fun _ _ _ => False) :
    codeAny (model P w) callerA (.call (.ref fa) ⟨[.ref a], []⟩) (fun r s' => r = .ok (.ret (.bool true)) ∧ OldK z.heap s'.heap ∧ s'.os = z.os ∧ AllBare s'.gens) z := by
  have rv := vals_ints hi
  have lv := hi.length
  have main : ∀ H : Hp, Only H → SqL K H a (ns.map V.int) → HOk P w H z.heap → (∀ b, H b ≠ none → b = a) → (H a ≠ none → K.lookup a = none) →
      codeAny (model P w) callerA (.call (.ref fa) ⟨[.ref a], []⟩) (fun r s' => r = .ok (.ret (.bool true)) ∧ OldK z.heap s'.heap ∧ s'.os = z.os ∧ AllBare s'.gens) z := by
    intro H only hS hok alone apart
    have stay : ∀ {b : Addr} {o : Obj}, z.heap.get? b = some o → H b = none → (hidT z.heap H).get? b = some o := fun e n => hidT_get e n
    have untracked : ∀ {b : Addr} {o : Obj} {es : Array DictEntry} {ep : Nat}, z.heap.get? b = some o → o.data = .dict es ep → H b = none := fun {b o es ep} e d => by
      by_cases q : H b = none
      · exact q
      · obtain rfl := alone b q
        rw [ha] at e
        cases e
        cases (show Data.seq vs.toArray _ = Data.dict es ep from d)
    have names : ∀ {b : Addr} {m : Str → Option Value}, z.heap.Ns b m → (hidT z.heap H).Ns b m := fun ⟨o, es, ep, e, d, r⟩ => ⟨o, es, ep, stay e (untracked e d), d, r⟩
    have KB : K.In (hidT z.heap H) := fun b o e => stay (KX b o e) (by
      by_cases q : H b = none
      · exact q
      · obtain rfl := alone b q
        rw [apart q] at e
        cases e)
    have md : Mod K mg (hidT z.heap H) := by
      obtain ⟨mc, n1, n2⟩ := h4
      exact ⟨KB, names h1, ⟨mb, names h2, h3⟩, ⟨mc, names n1, n2⟩⟩
    have e0 : Env0 P w K mg (hidT z.heap H) callerA [] z H :=
      ⟨rfl, md, fun b o e => of_hidT e, Nat.le_of_eq (hidT_size _ _), trivial, fun b hb => absurd (show b ∈ ([] : List Addr) from hb) List.not_mem_nil, hok, .of_eq h5⟩
    refine codeAny_mono ((F _ KB (names h1)).go callerA [] z H ⟨[.ref a], []⟩ [.ref a] [.ref a] _ _ rfl hr e0 (bnd z (.ref a)) (.cons rfl .nil) (hsp H only hS)) fun r s' y => ?_
    match r, y with
    | .error _, y => exact y.elim
    | .ok .next, y => exact y.elim
    | .ok .brk, y => exact y.elim
    | .ok .cont, y => exact y.elim
    | .ok (.ret u), ⟨v, H', os, bare, un, hok', rr, q⟩ =>
      obtain rfl : v = .bl true := q
      obtain rfl : u = Value.bool true := rr
      refine ⟨rfl, OldK.of_keep fun b o e => ?_, os, bare⟩
      rcases only b with n | ⟨ob, xs, n⟩
      · exact un.keep b o e n (fun q => absurd (show b ∈ ([] : List Addr) from q) List.not_mem_nil) List.not_mem_nil
      · have n2 := un.frzs b ob _ n
        obtain ⟨e1, _⟩ := hok b _ n
        obtain ⟨e2, _⟩ := hok' b _ n2
        rw [e] at e1
        cases e1
        exact e2
  cases hk : K.lookup a with
  | some o =>
    have e := KX a o hk
    rw [ha] at e
    cases e
    refine main (fun _ => none) (fun _ => .inl rfl) (.inr ⟨_, vs.toArray, _, hk, rfl, rfl, rfl, ?_, ?_⟩) (fun b u q => nomatch (show (none : Option HO) = some u from q)) (fun b q => absurd rfl q) (fun q => absurd rfl q)
    · rw [List.size_toArray, lv]
      exact hl
    · simpa using rv
  | none =>
    have here : ∀ b, (fun b => if b = a then some (HO.frz { cls := .type "list", data := .seq vs.toArray } (.lst (ns.map V.int))) else none) b ≠ none → b = a := fun b q => by
      by_cases hb : b = a
      · exact hb
      · exact absurd (if_neg hb) q
    refine main (fun b => if b = a then some (.frz { cls := .type "list", data := .seq vs.toArray } (.lst (ns.map V.int))) else none) (fun b => ?_) (.inl (.inr ⟨{ cls := .type "list", data := .seq vs.toArray }, if_pos rfl⟩)) (fun b u q => ?_) here (fun _ => hk)
    · by_cases hb : b = a
      · exact .inr ⟨_, _, if_pos hb⟩
      · exact .inl (if_neg hb)
    · by_cases hb : b = a
      · subst hb
        have q2 := (if_pos rfl).symm.trans q
        cases q2
        exact ⟨ha, by rw [List.length_map]; exact hl, vs, _, rv, ha⟩
      · cases (if_neg hb).symm.trans q
theorem walk_ofN {l : PySem.W.OpenLaw} {n k : Nat} {q : Program} {loose : List Str} {XP : (Str → Option Value) → Heap → Prop} {YP : World → Heap → Prop} {d : DefRec} {K : Params → PySem.W.Frag} {sp : World → Sp} {x : Str}
    (hn : l.most = some n) (hz : n ≤ sizeLine) (nd : d.params.defaults = []) (hr : Room k callerA) (hY : ∀ (w : World) (h : Heap), YP w h → (K w.params).In h)
    (F : ∀ (w : World) (mg : Str → Option Value) (fa : Addr) (h : Heap), (K w.params).In h → h.Ns mainGlobals mg → mg d.name = some (.ref fa) →
      ∃ fd : FuncData, (∀ (s : Shared) (u : Value), BindsTo s fd ⟨[u], []⟩ [(x, u)]) ∧ ∀ base : Heap, (K w.params).In base → base.Ns mainGlobals mg → FnG l.prog w (K w.params) mg base k fa fd [x] (sp w))
    (hsp : ∀ (w : World) (H : Hp) (a : Addr) (ns : List Int), ns.length ≤ n → Only H → SqL (K w.params) H a (ns.map V.int) → sp w [.ref a] H (fun v _ => v = .bl true) fun _ _ _ => False) :
    PySem.W.WalkO q loose XP YP l.row.toRowW d [] (fun f vs => PySem.call f vs) := by
  refine Att.attach_call hn nd fun w t0 t1 mg mb fa o pm cd doc a vs ns G Y ho hd hcd hmg hobj hints hlen hg => ?_
  have KX := hY w _ Y
  obtain ⟨fd, hb, hF⟩ := F w mg fa _ KX G.T.g hmg
  exact law_callN KX G.T.g G.T.b G.T.builtins G.T.nolimit hg hobj hints (Nat.le_trans hlen hz) hr hF hb fun H hO hS => hsp w H a ns hlen hO hS
end L2

namespace L2
open PySem PySem.Spec PyProof.Rows
section
variable {X : Cx}
/-- repr(x), nothing being shown around -/
def rRepr (K : PySem.W.Frag) : List V → Hp → VK → Prop := fun xs H Q => ∃ (v : V) (d : PyData), xs = [v] ∧ Dp K H v d ∧ SeqAt.shaped d = true ∧ d.showable = true ∧ d.hasDict = false ∧ d.shown.length ≤ sizeLine ∧ (∀ i, d = .int i → i.natAbs.log2 < 1920) ∧ Q (.str d.shown) H
theorem call_reprN (hN : X.A.guards = some []) {k : Nat} (hr : Room k X.A) : CallR X (.builtin "repr") (rRepr X.K) := by
  intro pins s σ H xs us Q I r h
  obtain ⟨v, d, rfl, hd, sh, hs, hh, hz, hi, q⟩ := h
  obtain ⟨u, rfl, ru⟩ := vals1 r
  have hu := hr.un
  have dp : d.depth ≤ 64 := by
    have e : (d.canLay0 && decide (d.depth ≤ 64)) = true := sh
    rw [Bool.and_eq_true] at e
    exact of_decide_eq_true e.2
  cases hd with
  | non =>
    obtain rfl : u = Value.none := ru
    exact PySem.P.repr_of_none ⟨.str _, H, I.tok _, ⟨_, rfl⟩, q⟩
  | bl b =>
    obtain rfl : u = Value.bool b := ru
    refine PySem.P.repr_of_bool ⟨.str _, H, I.tok _, ⟨_, rfl⟩, ?_⟩
    cases b <;> exact q
  | int i =>
    obtain ⟨t, rfl⟩ := ru
    exact PySem.P.repr_of_int (hi i rfl) ⟨.str _, H, I.tok _, ⟨_, rfl⟩, q⟩
  | str x =>
    obtain ⟨t, rfl⟩ := ru
    exact PySem.P.repr_of_str ⟨.str _, H, I.tok _, ⟨_, rfl⟩, q⟩ hz
  | @lst a xs ds h1 h2 =>
    obtain ⟨as, rd⟩ := Dp.reads I (.list ds) (.ref a) u (.lst h1 h2) ru
    obtain rfl : u = Value.ref a := ru
    exact repr_of_reads' rd hs (fun z => by rw [hh] at z; cases z) hN (by omega) (fun _ _ e => e) (fun h' u tk k => ⟨.str _, H, I.kept (t' := tk) k, ⟨u, rfl⟩, q⟩) hz
  | @tup a xs ds h1 h2 =>
    obtain ⟨as, rd⟩ := Dp.reads I (.tuple ds) (.ref a) u (.tup h1 h2) ru
    obtain rfl : u = Value.ref a := ru
    exact repr_of_reads' rd hs (fun z => by rw [hh] at z; cases z) hN (by omega) (fun _ _ e => e) (fun h' u tk k => ⟨.str _, H, I.kept (t' := tk) k, ⟨u, rfl⟩, q⟩) hz
end
end L2
set_option Elab.async false
set_option linter.all false
set_option maxRecDepth 100000
set_option maxHeartbeats 4000000
namespace L2
open PySem PySem.Spec PyProof.Rows
/-- an empty set, as set() lays it -/
abbrev noneIn (w : World) : Obj := { cls := .type "set", dict := none, data := .set #[] 0 (.fresh 0 0 (!w.params.followText "set-order")) }
abbrev lay1 (w : World) (h : Heap) : Heap := h.push (noneIn w)
section
variable {P : Program} {w : World} {A : Around} {E : Value → Shared → Prop} {s : Shared}
set_option maxHeartbeats 3200000 in
/-- set(xs) of a list of ints -/
theorem set_ofList {l : Addr} {its : Array Value} (ns : List Int) {Q : Value → Shared → Prop} (calm : A.handled = none) (isl : s.heap.IsList l its) (isI : IntsAre its.toList ns) (few : ns.length + 1 < scanBound)
    (fin : ∀ (g : Heap) (tk m : Nat), SetR w g s.heap.objs.size (fun j => decide (j ∈ ns)) m → m ≤ ns.length → (∀ b o, s.heap.get? b = some o → g.get? b = some o) → Q (.ref s.heap.objs.size) { s with heap := g, toks := tk }) :
    wpAny (model P w) A (call (.type "set") [.ref l]) Q E s := by
  have size : its.size = ns.length := (Array.length_toList (xs := its)).symm.trans (IntsAre.length isI)
  obtain ⟨c0, t0, mro0⟩ := F.called_set.mro
  have made0 := F.called_set.made
  have sub0 := F.called_set.sub
  refine wpAny_call (codeAny_of_tree ?_)
  show wpAny _ _ (callAny (.type "set") _) _ _ _
  refine wpAny_pure ⟨Code.quiet_builtin _ (by decide +kernel), codeAny_builtin F.entry_type_call ?_⟩
  rw [Around.under_plain (weight_type_call_type "set" [.ref l] []) rfl]
  have k1 := F.called_set.notType
  have k2 := F.called_set.canCreate
  have k3 := F.typeCall_set_1 (.ref l)
  repeat (any_goals (first | assumption | wp_step))
  refine codeAny_mono (code_set_led1 (.ref l) (E := E) (Q₁ := fun v u => v = .ref s.heap.objs.size ∧ u = { s with heap := lay1 w s.heap }) ⟨rfl, rfl⟩) fun r u hr => ?_
  cases r with
  | error e => exact hr
  | ok fl =>
    cases fl with
    | ret v =>
      obtain ⟨rfl, rfl⟩ := hr
      have at0 : (lay1 w s.heap).get? s.heap.objs.size = some (noneIn w) := Heap.get?_push_size _ rfl
      have isT : Shared.TypeIs { s with heap := lay1 w s.heap } (.ref s.heap.objs.size) "set" := ⟨_, at0, rfl⟩
      have k4 := F.called_set.init.lookup
      have k5 := F.called_set.init.bind (.ref s.heap.objs.size)
      repeat (any_goals (first | assumption | wp_step))
      refine codeAny_mono (codeAny_call_builtin (R := wants (fun r u => r = .none ∧ ∃ g tk m, u = { s with heap := g, toks := tk } ∧ SetR w g s.heap.objs.size (fun j => decide (j ∈ ns)) m ∧ m ≤ ns.length ∧ (∀ b o, s.heap.get? b = some o → g.get? b = some o)) E)
        F.called_set.init.plain F.entry_set_init (check_set_init_1 isT ?_)) fun r2 u2 hr2 => ?_
      · obtain ⟨⟨cl, di, da, sl⟩, el, hcl, nl, hda⟩ := isl
        simp only at hcl hda
        subst hcl
        subst hda
        have el1 : (lay1 w s.heap).get? l = some { cls := .type "list", dict := di, data := .seq its nl, slots := sl } := Heap.get?_push_of_some _ el
        have k6 := F.sub_list_set
        have k7 := F.sub_list_frozenset
        have k8 : (Value.type "list" == Value.type "dict") = false := by decide
        have isl1 : (lay1 w s.heap).IsList l its := ⟨_, el1, rfl, nl, rfl⟩
        unfold Builtin.«set.__init__» noKeywords Builtin.Frozenset.updateFrom
        generalize hPI : pyIter = PI
        wp_walk
        subst hPI
        refine wpAny_pyIter_list isl1 (wpAny_bind (wpAny_runValue ?_))
        have old : l < s.heap.objs.size := Heap.lt_size el
        have calm3 : A.in1.in1.in1.handled = none := by simp [calm]
        have sz1 : (lay1 w s.heap).objs.size = s.heap.objs.size + 1 := Heap.size_push ..
        have apart : l ≠ (lay1 w s.heap).objs.size := by rw [sz1]; exact Nat.ne_of_lt (Nat.lt_succ_of_lt old)
        have clear : s.heap.objs.size ∉ [(lay1 w s.heap).objs.size, l] := by
          rw [sz1]
          simp only [List.mem_cons, List.not_mem_nil, or_false, not_or]
          exact ⟨Nat.ne_of_lt (Nat.lt_succ_self _), Nat.ne_of_gt old⟩
        have vals : ∀ (i : Nat) (v : Value), its[i]? = some v → ∃ k t, ns[i]? = some k ∧ v = .int k t := fun i v hv => by
          have lt : i < ns.length := by rw [← size]; exact (Array.getElem?_eq_some_iff.mp hv).1
          obtain ⟨t, e⟩ := PyProof.Rows.IntsAre.int_at isI i v (by rw [Array.getElem?_toList]; exact hv)
          exact ⟨ns[i], t, List.getElem?_eq_getElem lt, by rw [e, List.getD_eq_getElem?_getD, List.getElem?_eq_getElem lt]; rfl⟩
        refine set_update_ints ((Walks.list calm3 _ l apart its).toS) s.heap.objs.size clear ns size few vals (its.size - 0) 0 _ (by omega) (Nat.zero_le _) ⟨⟨_, Heap.get?_push_size _ rfl, rfl, rfl⟩, isl1.push _⟩ ?first ?last
        case first => exact ⟨0, Nat.le_refl 0, setR_new_at (Heap.get?_push_of_some _ at0)⟩
        case last =>
          intro u m mv hm R
          obtain ⟨g, g2, d2, tk, os2⟩ := u
          obtain rfl : g2 = s.gens := mv.gens
          obtain rfl : d2 = s.drawn := mv.drawn
          obtain rfl : os2 = s.os := mv.os
          show wpAny _ _ _ _ _ _
          refine wpAny_pure ?_
          show wpAny _ _ (ret Value.none) _ _ _
          rw [size] at hm
          refine wpAny_pure ⟨rfl, g, tk, m, rfl, R, hm, fun b o e => ?_⟩
          have lt := Heap.lt_size e
          refine mv.heap b o ?_ (Heap.get?_push_of_some _ (Heap.get?_push_of_some _ e))
          simp only [List.mem_cons, List.not_mem_nil, or_false, not_or]
          rw [sz1]
          exact ⟨Nat.ne_of_lt lt, Nat.ne_of_lt (Nat.lt_succ_of_lt lt)⟩
      · cases r2 with
        | error e => exact hr2
        | ok f2 =>
          cases f2 with
          | ret r =>
            obtain ⟨rfl, g, tk, m, rfl, R, hm, kp⟩ := hr2
            repeat (any_goals (first | assumption | wp_step))
            exact fin _ _ _ R hm kp
          | _ => exact hr2.elim
    | _ => exact hr.elim
end
section
variable {X : Cx}
/-- set(xs), a list of ints -/
def rSetOf (K : PySem.W.Frag) (w : World) : List V → Hp → VK → Prop := fun xs H Q => ∃ (l : Addr) (ns : List Int), xs = [V.ref l] ∧ SqL K H l (ns.map V.int) ∧ ns.length < 64 ∧
  ∀ (a : Addr) (S : Int → Bool) (n : Nat), H a = none → (∀ k, S k = true ↔ k ∈ ns) → n ≤ ns.length → Q (.ref a) (upd H a (SetO w a S n))
theorem cr_setL (hc : X.calm = true) : CallR X (.type "set") (rSetOf X.K X.w) := by
  intro pins s σ H xs us Q I r h
  obtain ⟨l, ns, rfl, hq, few, q⟩ := h
  rw [Vals.ref1 r]
  obtain ⟨its, rv, pl, hz⟩ := I.list hq
  refine set_ofList ns (I.ok.hd hc) pl.isList (by simpa using ints_of_vals rv) (by unfold scanBound; omega) fun g tk m R hm kp => ?_
  have nH : H s.heap.objs.size = none := I.hok.fresh (Nat.le_refl _)
  exact ⟨.ref _, _, I.laid (t' := tk) kp (Nat.le_refl _) (setO_new R), rfl, q _ _ m nH (fun k => decide_eq_true_iff) hm⟩
end
end L2
set_option Elab.async false
set_option linter.all false
set_option maxRecDepth 100000
set_option maxHeartbeats 4000000
namespace L2
open PySem PySem.Spec PyProof.Rows
section
variable {X : Cx}
/-- the walk of a list or a tuple -/
theorem pi_or {tg iter : Expr} {w1 w2 : TI} (h1 : PI X tg iter w1) (h2 : PI X tg iter w2) : PI X tg iter (fun σ H R => w1 σ H R ∨ w2 σ H R) :=
  ⟨fun pins s σ H R I h => h.elim (h1.run pins s σ H R I) (h2.run pins s σ H R I)⟩
end
end L2
namespace Evl
open PySem L2
def EvD (te : TE) (σ : L2.St) (H : Hp) (kvs : List (Key × V)) : Prop := ∀ H1, Ex H H1 → ∀ Q : VK, (∀ p H2, H1 p = none → Ex H1 H2 → H2 p = some (.dK kvs) → Q (.ref p) H2) → te σ H1 Q
section
variable {K : PySem.W.Frag} {σ : L2.St} {H H' : Hp} {ta tb te tx : TE} {t u : TT} {x y z v : V}
theorem EvU.mono {xs : List V} (e : Ex H H') (h : EvU te σ H xs) : EvU te σ H' xs := fun H1 a Q q => h H1 (e.trans a) Q q
theorem ev_fld {f : Str} {a C dx : Addr} {fs : List (Str × V)} (ha : Ev ta σ H (.ref a)) (he : H a = some (.ins C dx fs)) (c : Cls K C) (n : NoAttr K C f) (l : fs.lookup f = some v) : Ev (tFld K ta f) σ H v := fun H1 e Q q =>
  ha H1 e _ fun H2 e2 => ⟨a, C, dx, fs, v, rfl, (e.trans e2) _ _ he, c, n, l, q H2 e2⟩
theorem ev_dget {d : Addr} {kvs : List (Key × V)} {i : Int} (hd : Ev ta σ H (.ref d)) (hk : Ev tb σ H (.int i)) (e0 : H d = some (.dK kvs)) (h : valV kvs (Sum.inl i) = some v) : Ev (tDGet ta tb) σ H v := fun H1 e Q q =>
  hd H1 e _ fun H2 e2 => hk H2 (e.trans e2) _ fun H3 e3 => ⟨d, v, rfl, by
    have g := DGet.k (k := Sum.inl i) (((e.trans e2).trans e3) _ _ e0)
    rw [h] at g
    exact g, q H3 (e2.trans e3)⟩
theorem ev_din {d : Addr} {kvs : List (Key × V)} {i : Int} (hk : Ev tb σ H (.int i)) (hd : Ev ta σ H (.ref d)) (e0 : H d = some (.dK kvs)) : Ev (tDIn tb ta) σ H (.bl (valV kvs (Sum.inl i)).isSome) := fun H1 e Q q =>
  hk H1 e _ fun H2 e2 => hd H2 (e.trans e2) _ fun H3 e3 => ⟨d, _, rfl, DGet.k (k := Sum.inl i) (((e.trans e2).trans e3) _ _ e0), q H3 (e2.trans e3)⟩
theorem ev_isN (h : Ev ta σ H x) : Ev (tIsN ta) σ H (.bl (decide (x = .non))) := fun H1 e Q q => h H1 e _ fun H2 e2 => q H2 e2
/-- which items of xs give -/
def pick {α : Type} (xs : List α) (p : α → Bool) (i : Nat) : Bool := match xs[i]? with
  | some a => p a
  | none => false
def pickV {α : Type} (xs : List α) (g : α → V) (i : Nat) : V := match xs[i]? with
  | some a => g a
  | none => .non
theorem given_pick {α : Type} (p : α → Bool) (g : α → V) : ∀ (xs : List α), given xs.length (pick xs p) (pickV xs g) = (xs.filter p).map g := by
  intro xs
  have key : ∀ n, n ≤ xs.length → given n (pick xs p) (pickV xs g) = ((xs.take n).filter p).map g := by
    intro n
    induction n with
    | zero => intro _; simp [given]
    | succ n ih =>
      intro hn
      have hlt : n < xs.length := hn
      have e : xs[n]? = some xs[n] := List.getElem?_eq_getElem hlt
      have tk : xs.take (n + 1) = xs.take n ++ [xs[n]] := by rw [List.take_add_one, e]; rfl
      have pk : pick xs p n = p xs[n] := by unfold pick; rw [e]
      have pv : pickV xs g n = g xs[n] := by unfold pickV; rw [e]
      rw [tk, List.filter_append, List.map_append]
      cases hp : p xs[n] with
      | true =>
        rw [given_yes (by rw [pk]; exact hp), ih (Nat.le_of_lt hlt), pv]
        simp [hp]
      | false =>
        rw [given_no (by rw [pk]; exact hp), ih (Nat.le_of_lt hlt)]
        simp [hp]
  rw [key xs.length (Nat.le_refl _), List.take_length]
/-- [e for x in xs if t], xs a list that stands: by its items -/
theorem el_lcG {α : Type} {a : Addr} {xs : List α} {tl : TE} {j : Nat} {vs : List Nat} (emb : α → V) (p : α → Bool) (g : α → V) (h : Ev tl σ H (.ref a)) (hx : SqL K H a (xs.map emb)) (hz : xs.length ≤ 40000) (hw : ∀ x, wipe ((wipe σ vs).set j (some x)) vs = wipe σ vs)
    (ht : ∀ b ∈ xs, ∀ H1, Ex H H1 → EvT t ((wipe σ vs).set j (some (emb b))) H1 (p b)) (he : ∀ b ∈ xs, p b = true → ∀ H1, Ex H H1 → Ev te ((wipe σ vs).set j (some (emb b))) H1 (g b)) :
    EvL (tLc (iList K tl) (gName j) t te vs) σ H ((xs.filter p).map g) := by
  have len : (xs.map emb).length = xs.length := List.length_map _
  have at_ : ∀ {i : Nat} {x : V}, (xs.map emb)[i]? = some x → ∃ b, xs[i]? = some b ∧ b ∈ xs ∧ x = emb b := fun {i x} e => by
    rw [List.getElem?_map] at e
    obtain ⟨b, e1, e2⟩ := Option.map_eq_some_iff.mp e
    exact ⟨b, e1, List.mem_of_getElem? e1, e2.symm⟩
  have r := el_lcL (K := K) (xs := xs.map emb) (te := te) (t := t) (j := j) (vs := vs) (pick xs p) (pickV xs g) h hx (by rw [len]; exact hz) hw (fun i x H1 e1 hi => by
      obtain ⟨b, eb, mb, rfl⟩ := at_ hi
      have pk : pick xs p i = p b := by unfold pick; rw [eb]
      rw [pk]
      exact ht b mb H1 e1) (fun i x H1 e1 hi hf => by
      obtain ⟨b, eb, mb, rfl⟩ := at_ hi
      have pk : pick xs p i = p b := by unfold pick; rw [eb]
      have pv : pickV xs g i = g b := by unfold pickV; rw [eb]
      rw [pv]
      exact he b mb (by rw [← pk]; exact hf) H1 e1)
  rw [len, given_pick] at r
  exact r
/-- the same over a new list -/
theorem el_lcGN {α : Type} {xs : List α} {tl : TE} {j : Nat} {vs : List Nat} (emb : α → V) (p : α → Bool) (g : α → V) (h : EvL tl σ H (xs.map emb)) (hz : xs.length ≤ 40000) (hw : ∀ x, wipe ((wipe σ vs).set j (some x)) vs = wipe σ vs)
    (ht : ∀ b ∈ xs, ∀ H1, Ex H H1 → EvT t ((wipe σ vs).set j (some (emb b))) H1 (p b)) (he : ∀ b ∈ xs, p b = true → ∀ H1, Ex H H1 → Ev te ((wipe σ vs).set j (some (emb b))) H1 (g b)) :
    EvL (tLc (iList K tl) (gName j) t te vs) σ H ((xs.filter p).map g) := by
  have len : (xs.map emb).length = xs.length := List.length_map _
  have at_ : ∀ {i : Nat} {x : V}, (xs.map emb)[i]? = some x → ∃ b, xs[i]? = some b ∧ b ∈ xs ∧ x = emb b := fun {i x} e => by
    rw [List.getElem?_map] at e
    obtain ⟨b, e1, e2⟩ := Option.map_eq_some_iff.mp e
    exact ⟨b, e1, List.mem_of_getElem? e1, e2.symm⟩
  have r := el_lcNL (K := K) (xs := xs.map emb) (te := te) (t := t) (j := j) (vs := vs) (pick xs p) (pickV xs g) h (by rw [len]; exact hz) hw (fun i x H1 e1 hi => by
      obtain ⟨b, eb, mb, rfl⟩ := at_ hi
      have pk : pick xs p i = p b := by unfold pick; rw [eb]
      rw [pk]
      exact ht b mb H1 e1) (fun i x H1 e1 hi hf => by
      obtain ⟨b, eb, mb, rfl⟩ := at_ hi
      have pk : pick xs p i = p b := by unfold pick; rw [eb]
      have pv : pickV xs g i = g b := by unfold pickV; rw [eb]
      rw [pv]
      exact he b mb (by rw [← pk]; exact hf) H1 e1)
  rw [len, given_pick] at r
  exact r
theorem et_yes : EvT tYes σ H true := fun H1 _ _ q => q H1 (Ex.refl H1)
theorem filter_all {α : Type} (xs : List α) : xs.filter (fun _ => true) = xs := List.filter_eq_self.mpr fun _ _ => rfl
/-- sorted(set(xs)) of a new list of ints -/
theorem el_sset {w : World} {ns : List Int} {tl : TE} (h : EvL tl σ H (ns.map V.int)) (hz : ns.length < 64) : EvL (tCB (rSortedSet w) (tCons (tCB (rSetOf K w) (tCons tl tNil)) tNil)) σ H ((KB.asc ns).map V.int) := fun H1 e Q q =>
  h H1 e _ fun p H2 np e2 hp => ⟨p, ns, rfl, sq_of hp, hz, fun a S n na hS hn => ⟨a, S, n, rfl, upd_same, by omega, fun ys r so hm hl nr => by
    have ey : ys = KB.asc ns := KB.asc_eq so fun k => (hm k).trans (hS k)
    subst ey
    have e3 : Ex H1 (upd H2 a (SetO w a S n)) := e2.trans (Ex.new na)
    exact q r _ (fresh_back e3 nr) (e3.trans (Ex.new nr)) upd_same⟩⟩
end
end Evl
set_option Elab.async false
set_option linter.all false
set_option maxRecDepth 100000
set_option maxHeartbeats 4000000
namespace KB
open PySem PySem.Spec PyProof.Rows L2 Evl
def topS (i : Nat) : Stmt := PySem.Challenge.pw_treethaw_k35_known_families.main.body.getD i (.Pass ⟨0, 0, 0, 0⟩)
/-- the class Kin -/
structure KT (K : PySem.W.Frag) (C : Addr) : Prop where
  cls : Cls K C
  n1 : NoAttr K C "rows"
  n2 : NoAttr K C "members"
  n3 : NoAttr K C "parents"
  n4 : NoAttr K C "sessions"
  n5 : NoAttr K C "groups"
  n6 : NoAttr K C "adopting"
  n7 : NoAttr K C "root"
def wordOf (n : Nat) : Str := if n = 1 then "ended" else if n = 2 then "stopped" else "runs"
/-- a row of an image, a tuple or a list -/
def RowAt (H : Hp) (v : V) (r : Rw) : Prop := ∃ (a : Addr) (xs : List V), v = .ref a ∧ (H a = some (.tup xs) ∨ H a = some (.lst xs)) ∧ xs.length = 10 ∧ xs[0]? = some (.int r.n) ∧ xs[1]? = some (if r.up = 1 then .non else .int r.up) ∧
  xs[2]? = some (.int r.s) ∧ xs[3]? = some (.int r.g) ∧ xs[4]? = some (.bl r.ad) ∧ xs[5]? = some (.str (wordOf r.w))
theorem RowAt.mono {H H' : Hp} {v : V} {r : Rw} (e : Ex H H') (h : RowAt H v r) : RowAt H' v r := by
  obtain ⟨a, xs, h1, h2, h3⟩ := h
  exact ⟨a, xs, h1, h2.imp (e _ _) (e _ _), h3⟩
/-- the families of an image as the program keeps them -/
structure Kn (H : Hp) (C k : Addr) (M : Fam) : Prop where
  is : ∃ (dx a1 a2 a3 a4 a5 a6 : Addr) (root : Int) (k1 k3 k4 k5 k6 : List (Key × V)),
    H k = some (.ins C dx [("rows", .ref a1), ("members", .ref a2), ("parents", .ref a3), ("sessions", .ref a4), ("groups", .ref a5), ("adopting", .ref a6), ("root", .int root)]) ∧
    H a1 = some (.dK k1) ∧ H a2 = some (.lst ((keys M).map V.int)) ∧ H a3 = some (.dK k3) ∧ H a4 = some (.dK k4) ∧ H a5 = some (.dK k5) ∧ H a6 = some (.dK k6) ∧
    (∀ n, (valV k1 (Sum.inl n)).isSome = decide (n ∈ keys M)) ∧ (∀ r ∈ M, ∃ v, valV k1 (Sum.inl r.n) = some v ∧ RowAt H v r) ∧ (∀ n ∈ keys M, valV k3 (Sum.inl n) = some (.int (up M n))) ∧
    (∀ n, n = 1 ∨ n ∈ keys M → valV k4 (Sum.inl n) = some (.int (ses M n))) ∧ (∀ n, n = 1 ∨ n ∈ keys M → valV k5 (Sum.inl n) = some (.int (grp M n))) ∧ (∀ n, n = 1 ∨ n ∈ keys M → valV k6 (Sum.inl n) = some (.bl (ado M n))) ∧
    root ∈ keys M ∧ (∀ n ∈ keys M, decide (n = root) = decide (up M n = 1))
section
variable {K : PySem.W.Frag} {σ : L2.St} {H H' : Hp} {C k : Addr} {M : Fam} {ta tb : TE} {n : Int}
theorem Kn.mono (e : Ex H H') (h : Kn H C k M) : Kn H' C k M := by
  obtain ⟨dx, a1, a2, a3, a4, a5, a6, root, k1, k3, k4, k5, k6, h0, h1, h2, h3, h4, h5, h6, r1, r2, r3⟩ := h.is
  exact ⟨dx, a1, a2, a3, a4, a5, a6, root, k1, k3, k4, k5, k6, e _ _ h0, e _ _ h1, e _ _ h2, e _ _ h3, e _ _ h4, e _ _ h5, e _ _ h6, r1, fun r m => by
    obtain ⟨v, z1, z2⟩ := r2 r m
    exact ⟨v, z1, z2.mono e⟩, r3⟩
variable (T : KT K C) (N : Kn H C k M) (hk : Ev ta σ H (.ref k))
include T N hk
theorem kn_members : ∃ a, Ev (tFld K ta "members") σ H (.ref a) ∧ SqL K H a ((keys M).map V.int) := by
  obtain ⟨dx, a1, a2, a3, a4, a5, a6, root, k1, k3, k4, k5, k6, h0, h1, h2, _⟩ := N.is
  exact ⟨a2, ev_fld hk h0 T.cls T.n2 rfl, sq_of h2⟩
theorem kn_in (hb : Ev tb σ H (.int n)) : Ev (tDIn tb (tFld K ta "rows")) σ H (.bl (decide (n ∈ keys M))) := by
  obtain ⟨dx, a1, a2, a3, a4, a5, a6, root, k1, k3, k4, k5, k6, h0, h1, h2, h3, h4, h5, h6, r1, _⟩ := N.is
  rw [← r1 n]
  exact ev_din hb (ev_fld hk h0 T.cls T.n1 rfl) h1
theorem kn_par (hb : Ev tb σ H (.int n)) (m : n ∈ keys M) : Ev (tDGet (tFld K ta "parents") tb) σ H (.int (up M n)) := by
  obtain ⟨dx, a1, a2, a3, a4, a5, a6, root, k1, k3, k4, k5, k6, h0, h1, h2, h3, h4, h5, h6, r1, r2, r3, _⟩ := N.is
  exact ev_dget (ev_fld hk h0 T.cls T.n3 rfl) hb h3 (r3 n m)
theorem kn_ses (hb : Ev tb σ H (.int n)) (m : n = 1 ∨ n ∈ keys M) : Ev (tDGet (tFld K ta "sessions") tb) σ H (.int (ses M n)) := by
  obtain ⟨dx, a1, a2, a3, a4, a5, a6, root, k1, k3, k4, k5, k6, h0, h1, h2, h3, h4, h5, h6, r1, r2, r3, r4, _⟩ := N.is
  exact ev_dget (ev_fld hk h0 T.cls T.n4 rfl) hb h4 (r4 n m)
theorem kn_grp (hb : Ev tb σ H (.int n)) (m : n = 1 ∨ n ∈ keys M) : Ev (tDGet (tFld K ta "groups") tb) σ H (.int (grp M n)) := by
  obtain ⟨dx, a1, a2, a3, a4, a5, a6, root, k1, k3, k4, k5, k6, h0, h1, h2, h3, h4, h5, h6, r1, r2, r3, r4, r5, _⟩ := N.is
  exact ev_dget (ev_fld hk h0 T.cls T.n5 rfl) hb h5 (r5 n m)
theorem kn_ado (hb : Ev tb σ H (.int n)) (m : n = 1 ∨ n ∈ keys M) : Ev (tDGet (tFld K ta "adopting") tb) σ H (.bl (ado M n)) := by
  obtain ⟨dx, a1, a2, a3, a4, a5, a6, root, k1, k3, k4, k5, k6, h0, h1, h2, h3, h4, h5, h6, r1, r2, r3, r4, r5, r6, _⟩ := N.is
  exact ev_dget (ev_fld hk h0 T.cls T.n6 rfl) hb h6 (r6 n m)
theorem kn_root : ∃ root, Ev (tFld K ta "root") σ H (.int root) ∧ root ∈ keys M ∧ ∀ n ∈ keys M, decide (n = root) = decide (up M n = 1) := by
  obtain ⟨dx, a1, a2, a3, a4, a5, a6, root, k1, k3, k4, k5, k6, h0, h1, h2, h3, h4, h5, h6, r1, r2, r3, r4, r5, r6, r7, r8⟩ := N.is
  exact ⟨root, ev_fld hk h0 T.cls T.n7 rfl, r7, r8⟩
end
theorem dec_int (a b : Int) : decide (V.int a = V.int b) = decide (a = b) := by
  by_cases h : a = b
  · simp [h]
  · simp [h]
/-! ### sessions_of, groups_of, is_led, is_top -/
abbrev sSessions : Stmt := topS 3
abbrev sGroups : Stmt := topS 4
abbrev sIsLed : Stmt := topS 5
abbrev sIsTop : Stmt := topS 7
abbrev sTops : Stmt := topS 8
abbrev sOthers : Stmt := topS 9
theorem scSessions : FnScope ["kin", "at"] ["kin"] (defScope sSessions) := ⟨rfl, rfl, rfl, by decide +kernel, rfl, by decide +kernel, by decide +kernel⟩
theorem scGroups : FnScope ["kin", "at"] ["kin"] (defScope sGroups) := ⟨rfl, rfl, rfl, by decide +kernel, rfl, by decide +kernel, by decide +kernel⟩
theorem scIsLed : FnScope ["kin", "session"] ["kin", "session"] (defScope sIsLed) := ⟨rfl, rfl, rfl, by decide +kernel, rfl, by decide +kernel, by decide +kernel⟩
theorem scIsTop : FnScope ["kin", "number"] ["kin", "number"] (defScope sIsTop) := ⟨rfl, rfl, rfl, by decide +kernel, rfl, by decide +kernel, by decide +kernel⟩
theorem scTops : FnScope ["kin", "session", "at"] ["kin", "session"] (defScope sTops) := ⟨rfl, rfl, rfl, by decide +kernel, rfl, by decide +kernel, by decide +kernel⟩
theorem scOthers : FnScope ["kin", "session", "at"] ["kin", "session"] (defScope sOthers) := ⟨rfl, rfl, rfl, by decide +kernel, rfl, by decide +kernel, by decide +kernel⟩
def spSessions (C : Addr) : Sp := fun vs H Q _ => ∃ k M, vs = [.ref k] ∧ Kn H C k M ∧ WF M ∧ RetL ((sessions M).map V.int) H Q
def spGroups (C : Addr) : Sp := fun vs H Q _ => ∃ k M, vs = [.ref k] ∧ Kn H C k M ∧ WF M ∧ RetL ((groups M).map V.int) H Q
def spIsLed (C : Addr) : Sp := fun vs H Q _ => ∃ k M n, vs = [.ref k, .int n] ∧ Kn H C k M ∧ RetV (.bl (decide (n ∈ keys M))) H Q
def spIsTop (C : Addr) : Sp := fun vs H Q _ => ∃ k M n, vs = [.ref k, .int n] ∧ Kn H C k M ∧ WF M ∧ n ∈ keys M ∧ RetV (.bl (topB M (ses M n) n)) H Q
def spTops (C : Addr) : Sp := fun vs H Q _ => ∃ k M s, vs = [.ref k, .int s] ∧ Kn H C k M ∧ WF M ∧ RetL ((tops M s).map V.int) H Q
def spOthers (C : Addr) : Sp := fun vs H Q _ => ∃ k M s, vs = [.ref k, .int s] ∧ Kn H C k M ∧ WF M ∧ RetL (((tops M s).filter fun n => !decide (n = s)).map V.int) H Q
theorem len_keys (M : Fam) : (keys M).length = M.length := List.length_map _
theorem ses_map (W : WF M) : (keys M).map (ses M) = M.map (·.s) := by
  unfold keys
  rw [List.map_map]
  exact List.map_congr_left fun r m => W.ses m
theorem grp_map (W : WF M) : (keys M).map (grp M) = M.map (·.g) := by
  unfold keys
  rw [List.map_map]
  exact List.map_congr_left fun r m => W.grp m
section
variable {P : Program} {w : World} {K : PySem.W.Frag} {mg : Str → Option Value} {base : Heap} {f fT : Addr} {fd dT : FuncData} {C : Addr}
theorem ok_sessions (F : Fun K "sessions_of" "sessions_of" sSessions f fd) (T : KT K C) (mo : mg "sorted" = none) (ms : mg "set" = none) : FnOk P w K mg base CX0 1 f fd ["kin"] (spSessions C) := by
  refine F.ok scSessions (fun vs H Q E h => ?_) (fun cdv A outer s H vs Q E hr h => ?_)
  · obtain ⟨k, M, rfl, _⟩ := h
    rfl
  · obtain ⟨k, M, rfl, N, W, q⟩ := h
    have hu := hu_of hr
    refine ⟨_, pss_one (ps_ret (pe_callB (cr_sortedSet rfl) (by rfl) mo (by decide +kernel) (pa_cons (pe_callTy (cr_setL rfl) (by rfl) ms (by decide +kernel) (pa_cons
      (pe_lc (own := [("at", 1)]) (g := gName 1) (tt := tYes) (te := tDGet (tFld K (tVar 0) "sessions") (tVar 1)) rfl scSessions.nd (pi_list (pe_fld (pv 0) rfl)) (blkOk_by (N := ["kin", "at"]) (sc := defScope sSessions) (by decide +kernel))
        (fun _ _ _ _ _ => pg_name (i := 1) scSessions.nd rfl (Or.inl rfl)) (fun _ _ _ _ _ => pts_nil) (fun _ _ _ _ _ => pe_dget hu (pe_fld (pv 0) rfl) (pv 1) (fun _ _ => rfl))) pa_nil)) pa_nil))), ?_⟩
    obtain ⟨a, ea, la⟩ := kn_members (σ := start ["kin", "at"] [.ref k]) T N (ev_var (i := 0) rfl)
    have few : (keys M).length < 64 := by rw [len_keys]; have := W.few; omega
    have lc := el_lcG (K := K) (te := tDGet (tFld K (tVar 0) "sessions") (tVar 1)) (t := tYes) (j := 1) (vs := [1]) V.int (fun _ => true) (fun n => .int (ses M n)) ea la (by omega) (fun x => rfl) (fun b _ H1 _ => et_yes) (fun b mb _ H1 e1 => kn_ses T (N.mono e1) (ev_var rfl) (ev_var rfl) (.inr mb))
    rw [Evl.filter_all] at lc
    have e2 : (keys M).map (fun n => V.int (ses M n)) = ((keys M).map (ses M)).map V.int := by rw [List.map_map]; rfl
    rw [e2] at lc
    refine s_retL (el_sset lc (by rw [List.length_map]; exact few)) fun p H1 hp e h1 => ?_
    rw [ses_map W] at h1
    exact q p H1 hp e h1
theorem ok_groups (F : Fun K "groups_of" "groups_of" sGroups f fd) (T : KT K C) (mo : mg "sorted" = none) (ms : mg "set" = none) : FnOk P w K mg base CX0 1 f fd ["kin"] (spGroups C) := by
  refine F.ok scGroups (fun vs H Q E h => ?_) (fun cdv A outer s H vs Q E hr h => ?_)
  · obtain ⟨k, M, rfl, _⟩ := h
    rfl
  · obtain ⟨k, M, rfl, N, W, q⟩ := h
    have hu := hu_of hr
    refine ⟨_, pss_one (ps_ret (pe_callB (cr_sortedSet rfl) (by rfl) mo (by decide +kernel) (pa_cons (pe_callTy (cr_setL rfl) (by rfl) ms (by decide +kernel) (pa_cons
      (pe_lc (own := [("at", 1)]) (g := gName 1) (tt := tYes) (te := tDGet (tFld K (tVar 0) "groups") (tVar 1)) rfl scGroups.nd (pi_list (pe_fld (pv 0) rfl)) (blkOk_by (N := ["kin", "at"]) (sc := defScope sGroups) (by decide +kernel))
        (fun _ _ _ _ _ => pg_name (i := 1) scGroups.nd rfl (Or.inl rfl)) (fun _ _ _ _ _ => pts_nil) (fun _ _ _ _ _ => pe_dget hu (pe_fld (pv 0) rfl) (pv 1) (fun _ _ => rfl))) pa_nil)) pa_nil))), ?_⟩
    obtain ⟨a, ea, la⟩ := kn_members (σ := start ["kin", "at"] [.ref k]) T N (ev_var (i := 0) rfl)
    have few : (keys M).length < 64 := by rw [len_keys]; have := W.few; omega
    have lc := el_lcG (K := K) (te := tDGet (tFld K (tVar 0) "groups") (tVar 1)) (t := tYes) (j := 1) (vs := [1]) V.int (fun _ => true) (fun n => .int (grp M n)) ea la (by omega) (fun x => rfl) (fun b _ H1 _ => et_yes) (fun b mb _ H1 e1 => kn_grp T (N.mono e1) (ev_var rfl) (ev_var rfl) (.inr mb))
    rw [Evl.filter_all] at lc
    have e2 : (keys M).map (fun n => V.int (grp M n)) = ((keys M).map (grp M)).map V.int := by rw [List.map_map]; rfl
    rw [e2] at lc
    refine s_retL (el_sset lc (by rw [List.length_map]; exact few)) fun p H1 hp e h1 => ?_
    rw [grp_map W] at h1
    exact q p H1 hp e h1
theorem ok_isled (F : Fun K "is_led" "is_led" sIsLed f fd) (T : KT K C) : FnOk P w K mg base CX0 1 f fd ["kin", "session"] (spIsLed C) := by
  refine F.ok scIsLed (fun vs H Q E h => ?_) (fun cdv A outer s H vs Q E hr h => ?_)
  · obtain ⟨k, M, n, rfl, _⟩ := h
    rfl
  · obtain ⟨k, M, n, rfl, N, q⟩ := h
    have hu := hu_of hr
    refine ⟨_, pss_one (ps_ret (pe_cmp (pc_din hu (pv 1) (pe_fld (pv 0) rfl)) rfl)), ?_⟩
    exact s_ret (kn_in T N (ev_var rfl) (ev_var rfl)) q
theorem ok_istop (F : Fun K "is_top" "is_top" sIsTop f fd) (T : KT K C) : FnOk P w K mg base CX0 1 f fd ["kin", "number"] (spIsTop C) := by
  refine F.ok scIsTop (fun vs H Q E h => ?_) (fun cdv A outer s H vs Q E hr h => ?_)
  · obtain ⟨k, M, n, rfl, _⟩ := h
    rfl
  · obtain ⟨k, M, n, rfl, N, W, m, q⟩ := h
    have hu := hu_of hr
    refine ⟨_, pss_one (ps_ret (pe_or (pe_cmpR op_eq (pv 1) (pe_fld (pv 0) rfl) (nomark _)) (pe_one (pe_cmpR op_ne (pe_dget hu (pe_fld (pv 0) rfl) (pe_dget hu (pe_fld (pv 0) rfl) (pv 1) (fun _ _ => rfl)) (fun _ _ => rfl)) (pe_dget hu (pe_fld (pv 0) rfl) (pv 1) (fun _ _ => rfl)) (nomark _))))), ?_⟩
    obtain ⟨root, er, _, hroot⟩ := kn_root (σ := start ["kin", "number"] [.ref k, .int n]) T N (ev_var (i := 0) rfl)
    have mu : up M n = 1 ∨ up M n ∈ keys M := by
      by_cases z : up M n = 1
      · exact .inl z
      · exact .inr (W.up_in m z)
    have v : (V.bl (decide (V.int n = V.int root) || !decide (V.int (ses M (up M n)) = V.int (ses M n)))) = .bl (topB M (ses M n) n) := by
      rw [dec_int, dec_int, hroot n m]
      unfold topB
      rw [decide_eq_true (rfl : ses M n = ses M n), Bool.true_and]
    refine s_ret (ev_is (ev_orV (ev_op (ev_var rfl) er (rv_eq rfl)) (fun _ => ev_op (kn_ses T N (ev_var rfl) (kn_par T N (ev_var rfl) (ev_var rfl) m) mu) (kn_ses T N (ev_var rfl) (ev_var rfl) (.inr m)) (rv_ne rfl))) v) q
theorem ok_tops (F : Fun K "tops" "tops" sTops f fd) (T : KT K C) (G : FnOk P w K mg base CX0 1 fT dT ["kin", "number"] (spIsTop C)) (bG : Binds K dT ["kin", "number"] []) (kG : PySem.W.keepIn K (.ref fT) = true) (mG : mg "is_top" = some (.ref fT)) : FnOk P w K mg base CX0 2 f fd ["kin", "session"] (spTops C) := by
  refine F.ok scTops (fun vs H Q E h => ?_) (fun cdv A outer s H vs Q E hr h => ?_)
  · obtain ⟨k, M, s, rfl, _⟩ := h
    rfl
  · obtain ⟨k, M, n, rfl, N, W, q⟩ := h
    have hu := hu_of hr
    refine ⟨_, pss_one (ps_ret (pe_lc (own := [("at", 2)]) (g := gName 2) (tt := tAnd (tTest (tOp rEq (tDGet (tFld K (tVar 0) "sessions") (tVar 2)) (tVar 1))) (tTest (tCall (spIsTop C) [] E0 (tCons (tVar 0) (tCons (tVar 2) tNil))))) (te := tVar 2) rfl scTops.nd (pi_list (pe_fld (pv 0) rfl)) (blkOk_by (N := ["kin", "session", "at"]) (sc := defScope sTops) (by decide +kernel))
        (fun _ _ _ _ _ => pg_name (i := 2) scTops.nd rfl (Or.inl rfl)) (fun _ _ _ _ _ => pts_one (PW.pt (pw_and (pt_cmpR op_eq (pe_dget hu (pe_fld (pv 0) rfl) (pv 2) (fun _ _ => rfl)) (pv 1) (nomark _)) (pw_and1 (pt_val (pe_call G hr rfl mG kG bG .nil pass0 (pa_cons (pv 0) (pa_cons (pv 2) pa_nil)))))))) (fun _ _ _ _ _ => pv 2))), ?_⟩
    obtain ⟨a, ea, la⟩ := kn_members (σ := start ["kin", "session", "at"] [.ref k, .int n]) T N (ev_var (i := 0) rfl)
    have few : (keys M).length < 64 := by rw [len_keys]; have := W.few; omega
    refine s_retL (el_lcG (K := K) (j := 2) (vs := [2]) V.int (topB M n) V.int ea la (by omega) (fun x => rfl) (fun b mb H1 e1 => ?_) (fun b mb _ H1 e1 => ev_var rfl)) fun p H1 hp e h1 => q p H1 hp e h1
    have N1 := N.mono e1
    have c : SpV (spIsTop C) ([.ref k, .int b] ++ []) H1 (.bl (topB M (ses M b) b)) := fun H2 e2 Q q E => ⟨k, M, b, rfl, N1.mono e2, W, mb, q⟩
    refine et_is (et_and (et_test (ev_op (kn_ses T N1 (ev_var rfl) (ev_var rfl) (.inr mb)) (ev_var rfl) (rv_eq rfl))) (fun _ => et_test (ev_call (ea_cons (ev_var rfl) (ea_cons (ev_var rfl) ea_nil)) c))) ?_
    rw [dec_int]
    unfold topB
    by_cases z : ses M b = n
    · subst z
      simp
    · simp [z]
theorem ok_others (F : Fun K "other_tops" "other_tops" sOthers f fd) (T : KT K C) (G : FnOk P w K mg base CX0 2 fT dT ["kin", "session"] (spTops C)) (bG : Binds K dT ["kin", "session"] []) (kG : PySem.W.keepIn K (.ref fT) = true) (mG : mg "tops" = some (.ref fT)) : FnOk P w K mg base CX0 3 f fd ["kin", "session"] (spOthers C) := by
  refine F.ok scOthers (fun vs H Q E h => ?_) (fun cdv A outer s H vs Q E hr h => ?_)
  · obtain ⟨k, M, s, rfl, _⟩ := h
    rfl
  · obtain ⟨k, M, n, rfl, N, W, q⟩ := h
    refine ⟨_, pss_one (ps_ret (pe_lc (own := [("at", 2)]) (g := gName 2) (tt := tTest (tOp rNe (tVar 2) (tVar 1))) (te := tVar 2) rfl scOthers.nd (pi_list (pe_call G hr rfl mG kG bG .nil pass0 (pa_cons (pv 0) (pa_cons (pv 1) pa_nil)))) (blkOk_by (N := ["kin", "session", "at"]) (sc := defScope sOthers) (by decide +kernel))
        (fun _ _ _ _ _ => pg_name (i := 2) scOthers.nd rfl (Or.inl rfl)) (fun _ _ _ _ _ => pts_one (pt_cmpR op_ne (pv 2) (pv 1) (nomark _))) (fun _ _ _ _ _ => pv 2))), ?_⟩
    have few : (tops M n).length ≤ 40000 := by
      have := List.length_filter_le (topB M n) (keys M)
      rw [len_keys] at this
      have := W.few
      unfold tops
      omega
    have c : SpL (spTops C) ([.ref k, .int n] ++ []) H ((tops M n).map V.int) := fun H2 e2 Q q E => ⟨k, M, n, rfl, N.mono e2, W, q⟩
    refine s_retL (el_lcGN (K := K) (j := 2) (vs := [2]) V.int (fun b => !decide (b = n)) V.int (el_call (ea_cons (ev_var rfl) (ea_cons (ev_var rfl) ea_nil)) c) few (fun x => rfl) (fun b mb H1 e1 => ?_) (fun b mb _ H1 e1 => ev_var rfl)) fun p H1 hp e h1 => q p H1 hp e h1
    refine et_is (et_test (ev_op (ev_var rfl) (ev_var rfl) (rv_ne rfl))) ?_
    rw [dec_int]
end
end KB
set_option Elab.async false
set_option linter.all false
set_option maxRecDepth 100000
set_option maxHeartbeats 4000000
namespace Evl
open PySem L2
theorem inV_ints (n : Int) (xs : List Int) : inV (.int n) (xs.map V.int) = decide (n ∈ xs) := by
  unfold inV
  rw [List.any_map, Bool.eq_iff_iff, List.any_eq_true, decide_eq_true_iff]
  constructor
  · rintro ⟨y, m, e⟩
    have e2 : (y == n) = true := e
    rw [← beq_iff_eq.mp e2]
    exact m
  · intro m
    exact ⟨n, m, show (n == n) = true from beq_self_eq_true n⟩
theorem flat_ints (xs : List Int) : (xs.map V.int).all flatV = true := by
  rw [List.all_map, List.all_eq_true]
  exact fun _ _ => rfl
section
variable {K : PySem.W.Frag} {σ : L2.St} {H H' : Hp} {ta tb te tx : TE} {t u : TT} {x y z v : V}
/-- n in xs, n not in xs: a list of ints -/
theorem rv_inI {p : Addr} {xs : List Int} {n : Int} (h : SqL K H p (xs.map V.int)) : RV (rIn K false) (.int n) (.ref p) H (.bl (decide (n ∈ xs))) := by
  have r := rv_isL (x := .int n) h rfl (flat_ints xs)
  rw [inV_ints] at r
  exact r
theorem rv_niI {p : Addr} {xs : List Int} {n : Int} (h : SqL K H p (xs.map V.int)) : RV (rIn K true) (.int n) (.ref p) H (.bl (!decide (n ∈ xs))) := by
  have r := rv_niL (x := .int n) h rfl (flat_ints xs)
  rw [inV_ints] at r
  exact r
theorem rv_ixLast {p : Addr} {xs : List V} {v : V} (h : SqL K H p (xs ++ [v])) : RV (rIxL K) (.ref p) (.int (-1)) H v := rv_ixL h (atI_last xs v)
theorem rv_ix0 {p : Addr} {xs : List V} {v : V} (h : SqL K H p (v :: xs)) : RV (rIxL K) (.ref p) (.int 0) H v := rv_ixL h (atI_nat (j := 0) rfl)
end
end Evl
namespace KB
open PySem PySem.Spec PyProof.Rows L2 Evl
abbrev sAbove : Stmt := topS 10
abbrev sAdopter : Stmt := topS 11
theorem scAbove : FnScope ["kin", "number", "above"] ["kin", "number"] (defScope sAbove) := ⟨rfl, rfl, rfl, by decide +kernel, rfl, by decide +kernel, by decide +kernel⟩
theorem scAdopter : FnScope ["kin", "number", "at"] ["kin", "number"] (defScope sAdopter) := ⟨rfl, rfl, rfl, by decide +kernel, rfl, by decide +kernel, by decide +kernel⟩
def spAbove (C : Addr) : Sp := fun vs H Q _ => ∃ k M n, vs = [.ref k, .int n] ∧ Kn H C k M ∧ WF M ∧ n ∈ keys M ∧ RetL ((above M n).map V.int) H Q
def spAdopter (C : Addr) : Sp := fun vs H Q _ => ∃ k M n, vs = [.ref k, .int n] ∧ Kn H C k M ∧ WF M ∧ n ∈ keys M ∧ RetV (.int (adopter M n)) H Q
section
variable {P : Program} {w : World} {K : PySem.W.Frag} {mg : Str → Option Value} {base : Heap} {f fT : Addr} {fd dT : FuncData} {C : Addr}
theorem ok_above {t0 : Tok} (F : Fun K "all_above" "all_above" sAbove f fd) (T : KT K C) (m1 : mg "FIRST" = some (.int 1 t0)) : FnOk P w K mg base CX0 1 f fd ["kin", "number"] (spAbove C) := by
  refine F.ok scAbove (fun vs H Q E h => ?_) (fun cdv A outer s H vs Q E hr h => ?_)
  · obtain ⟨k, M, n, rfl, _⟩ := h
    rfl
  · obtain ⟨k, M, n, rfl, N, W, m, q⟩ := h
    have hu := hu_of hr
    refine ⟨_, pss_cons (ps_set (i := 2) scAbove.nd rfl (.inl rfl) (pe_lst (pa_cons (pe_dget hu (pe_fld (pv 0) rfl) (pv 1) (fun _ _ => rfl)) pa_nil)))
      (pss_cons (ps_while PassesOwn.never (pt_cmpR op_ne (pe_ix ix_list (pv 2) (pe_un un_neg pe_int) (fun _ _ => rfl)) (pe_glob (v := .int 1) rfl m1 ⟨_, rfl⟩) (nomark _))
        (pss_one (ps_expr (pe_bm PySem.F.plainAttrs_list PySem.F.slot_list_append PySem.F.type_list_append mt_append (pv 2) (pa_cons (pe_dget hu (pe_fld (pv 0) rfl) (pe_ix ix_list (pv 2) (pe_un un_neg pe_int) (fun _ _ => rfl)) (fun _ _ => rfl)) pa_nil)))))
      (pss_one (ps_ret (pv 2)))), ?_⟩
    refine q_asgL (el_lst (ea_cons (kn_par T N (ev_var rfl) (ev_var rfl) m) ea_nil) (by show 1 ≤ 100000; omega)) fun p H1 np e1 g1 => ?_
    refine q_while (fun c σ G => σ = [some (.ref k), some (.int n), some (.ref p)] ∧ Ex H G ∧ ∃ pre a, G p = some (.lst (pre.map V.int ++ [.int a])) ∧ pre.length + c = 65 ∧ ((a = 1 ∧ pre ++ [a] = above M n) ∨ (a ≠ 1 ∧ a ∈ keys M ∧ pre ++ [a] ++ above M a = above M n)))
      65 ⟨rfl, e1, [], up M n, g1, rfl, ?_⟩ ?_
    · have e := above_eq W m
      by_cases z : up M n = 1
      · rw [if_pos z] at e
        exact .inl ⟨z, e.symm⟩
      · rw [if_neg z] at e
        exact .inr ⟨z, W.up_in m z, e.symm⟩
    · rintro c σ G ⟨rfl, eG, pre, a, gp, hc, alt⟩
      have N1 := N.mono eG
      refine ⟨!decide (V.int a = V.int 1), et_test (ev_op (ev_op (ev_var rfl) (ev_un ev_c ru_neg) (rv_ixLast (sq_of gp))) ev_c (rv_ne rfl)), fun hb H2 e2 => ?_, fun hb H2 e2 => ?_⟩
      · have z : a ≠ 1 := fun z => by rw [z] at hb; simp at hb
        obtain ⟨_, ma, ea⟩ := alt.resolve_left fun h => z h.1
        have N2 := N1.mono e2
        have len := above_len W n m
        have ea2 := above_eq W ma
        have lp : pre.length + 1 < 64 := by
          rw [← ea, ea2] at len
          simp only [List.length_append, List.length_cons, List.length_nil] at len
          omega
        refine ⟨fun σ2 H3 => σ2 = [some (.ref k), some (.int n), some (.ref p)] ∧ Ex H H3 ∧ H3 p = some (.lst ((pre ++ [a]).map V.int ++ [.int (up M a)])), ?_, ?_⟩
        · rintro σ2 H3 ⟨rfl, e3, g3⟩
          refine ⟨c - 1, by omega, rfl, e3, pre ++ [a], up M a, g3, by rw [List.length_append]; simp; omega, ?_⟩
          by_cases z2 : up M a = 1
          · rw [if_pos z2] at ea2
            rw [ea2] at ea
            exact .inl ⟨z2, ea⟩
          · rw [if_neg z2] at ea2
            rw [ea2] at ea
            exact .inr ⟨z2, W.up_in ma z2, by simpa using ea⟩
        · refine s_app (e2 _ _ gp) (ev_var rfl) (kn_par T N2 (ev_var rfl) (ev_op (ev_var rfl) (ev_un ev_c ru_neg) (rv_ixLast (sq_of (e2 _ _ gp)))) ma) (by simp; omega) fun H3 e3 => ⟨rfl, Ex.mut ((eG.trans e2).trans e3) np, ?_⟩
          rw [upd_same, List.map_append]
          rfl
      · have z : a = 1 := by
          have h := hb
          rw [dec_int] at h
          simpa using h
        have ea := (alt.resolve_right fun h => h.1 z).2
        refine s_ret (ev_var rfl) fun H3 e3 => q p H3 np ((eG.trans e2).trans e3) ?_
        rw [← ea, List.map_append]
        exact e3 _ _ (e2 _ _ gp)
theorem ok_adopter (F : Fun K "adopter_over" "adopter_over" sAdopter f fd) (T : KT K C) (G : FnOk P w K mg base CX0 1 fT dT ["kin", "number"] (spAbove C)) (bG : Binds K dT ["kin", "number"] []) (kG : PySem.W.keepIn K (.ref fT) = true) (mG : mg "all_above" = some (.ref fT)) : FnOk P w K mg base CX0 2 f fd ["kin", "number"] (spAdopter C) := by
  refine F.ok scAdopter (fun vs H Q E h => ?_) (fun cdv A outer s H vs Q E hr h => ?_)
  · obtain ⟨k, M, n, rfl, _⟩ := h
    rfl
  · obtain ⟨k, M, n, rfl, N, W, m, q⟩ := h
    have hu := hu_of hr
    refine ⟨_, pss_one (ps_ret (pe_ix ix_list (pe_lc (own := [("at", 2)]) (g := gName 2) (tt := tTest (tDGet (tFld K (tVar 0) "adopting") (tVar 2))) (te := tVar 2) rfl scAdopter.nd (pi_list (pe_call G hr rfl mG kG bG .nil pass0 (pa_cons (pv 0) (pa_cons (pv 1) pa_nil)))) (blkOk_by (N := ["kin", "number", "at"]) (sc := defScope sAdopter) (by decide +kernel))
        (fun _ _ _ _ _ => pg_name (i := 2) scAdopter.nd rfl (Or.inl rfl)) (fun _ _ _ _ _ => pts_one (pt_val (pe_dget hu (pe_fld (pv 0) rfl) (pv 2) (fun _ _ => rfl)))) (fun _ _ _ _ _ => pv 2)) pe_int (fun _ _ => rfl))), ?_⟩
    have c : SpL (spAbove C) ([.ref k, .int n] ++ []) H ((above M n).map V.int) := fun H2 e2 Q q E => ⟨k, M, n, rfl, N.mono e2, W, m, q⟩
    have lc := el_lcGN (K := K) (te := tVar 2) (t := tTest (tDGet (tFld K (tVar 0) "adopting") (tVar 2))) (σ := start ["kin", "number", "at"] [.ref k, .int n]) (j := 2) (vs := [2]) V.int (fun a => ado M a) V.int (el_call (E := E0) (ea_cons (ev_var (i := 0) rfl) (ea_cons (ev_var (i := 1) rfl) ea_nil)) c) (by have := above_len W n m; omega) (fun x => rfl)
      (fun b mb H1 e1 => et_test (kn_ado T (N.mono e1) (ev_var rfl) (ev_var rfl) (above_in W n m b mb))) (fun b mb _ H1 e1 => ev_var rfl)
    have hd : ((above M n).filter fun a => ado M a).head? = some (adopter M n) := by
      rw [List.head?_filter]
      unfold adopter
      cases z : (above M n).find? fun a => ado M a with
      | some a => rfl
      | none => exact absurd (ado1 W) (by have := List.find?_eq_none.mp z 1 (above_one W n m); simpa using this)
    obtain ⟨rest, er⟩ : ∃ rest, (above M n).filter (fun a => ado M a) = adopter M n :: rest := by
      cases z : (above M n).filter fun a => ado M a with
      | nil => rw [z] at hd; cases hd
      | cons a l => rw [z] at hd; cases hd; exact ⟨l, rfl⟩
    rw [er] at lc
    exact s_ret (ev_opL1 lc (fun H1 e1 => ev_c) (fun p H1 h1 _ => rv_ix0 (sq_of h1))) q
end
end KB
set_option Elab.async false
set_option linter.all false
set_option maxRecDepth 100000
set_option maxHeartbeats 4000000
namespace KB
open PySem PySem.Spec PyProof.Rows L2 Evl
abbrev sBarsS : Stmt := topS 22
abbrev sBarsG : Stmt := topS 23
abbrev nBarsS : List Str := ["kin", "session", "number", "found", "parent"]
abbrev nBarsG : List Str := ["kin", "group", "owners", "at"]
theorem scBarsS : FnScope nBarsS ["kin", "session", "number"] (defScope sBarsS) := ⟨rfl, rfl, rfl, by decide +kernel, rfl, by decide +kernel, by decide +kernel⟩
theorem scBarsG : FnScope nBarsG ["kin", "group"] (defScope sBarsG) := ⟨rfl, rfl, rfl, by decide +kernel, rfl, by decide +kernel, by decide +kernel⟩
def spBarsS (C : Addr) : Sp := fun vs H Q _ => ∃ k M s n, vs = [.ref k, .int s, .int n] ∧ Kn H C k M ∧ WF M ∧ RetV (.bl (barsS M s n)) H Q
def spBarsG (C : Addr) : Sp := fun vs H Q _ => ∃ k M g, vs = [.ref k, .int g] ∧ Kn H C k M ∧ WF M ∧ g ∈ groups M ∧ RetV (.bl (splitB M g)) H Q
theorem eqv_pair (a b c d : Int) : PyData.eqv (.tuple [.int a, .int b]) (.tuple [.int c, .int d]) = (decide (a = c) && decide (b = d)) := by
  have h : PyData.eqv (.tuple [.int a, .int b]) (.tuple [.int c, .int d]) = ((a == c) && ((b == d) && true)) := by
    simp only [PyData.eqv, PyData.eqvAll]
  rw [h, Bool.and_true]
  rfl
theorem tops_len {M : Fam} (W : WF M) (s : Int) : (tops M s).length ≤ 20 := by
  have := List.length_filter_le (topB M s) (keys M)
  rw [len_keys] at this
  have := W.few
  unfold tops
  omega
theorem owners_ne {M : Fam} {g : Int} (h : g ∈ groups M) : ∃ o rest, owners M g = o :: rest := by
  obtain ⟨r, m, e⟩ := List.mem_map.mp (mem_asc.mp h)
  have : r.s ∈ owners M g := mem_asc.mpr (List.mem_map_of_mem (f := fun r : Rw => r.s) (List.mem_filter.mpr ⟨m, decide_eq_true e⟩))
  cases z : owners M g with
  | nil => rw [z] at this; cases this
  | cons o l => exact ⟨o, l, rfl⟩
theorem owners_eq {M : Fam} (W : WF M) (g : Int) : ((keys M).filter fun n => decide (grp M n = g)).map (ses M) = (M.filter fun r => decide (r.g = g)).map (·.s) := by
  unfold keys
  rw [List.filter_map, List.map_map]
  have e : M.filter ((fun n => decide (grp M n = g)) ∘ fun r => r.n) = M.filter fun r => decide (r.g = g) := List.filter_congr fun r m => by
    show decide (grp M r.n = g) = _
    rw [W.grp m]
  rw [e]
  exact List.map_congr_left fun r m => W.ses (List.mem_filter.mp m).1
section
variable {P : Program} {w : World} {K : PySem.W.Frag} {mg : Str → Option Value} {base : Heap} {f fL fT fA fS : Addr} {fd dL dT dA dS : FuncData} {C : Addr}
theorem ok_barsS {t0 : Tok} (F : Fun K "bars_session" "bars_session" sBarsS f fd) (T : KT K C) (m1 : mg "FIRST" = some (.int 1 t0))
    (GL : FnOk P w K mg base CX0 1 fL dL ["kin", "session"] (spIsLed C)) (bL : Binds K dL ["kin", "session"] []) (kL : PySem.W.keepIn K (.ref fL) = true) (mL : mg "is_led" = some (.ref fL))
    (GT : FnOk P w K mg base CX0 2 fT dT ["kin", "session"] (spTops C)) (bT : Binds K dT ["kin", "session"] []) (kT : PySem.W.keepIn K (.ref fT) = true) (mT : mg "tops" = some (.ref fT))
    (GA : FnOk P w K mg base CX0 2 fA dA ["kin", "number"] (spAdopter C)) (bA : Binds K dA ["kin", "number"] []) (kA : PySem.W.keepIn K (.ref fA) = true) (mA : mg "adopter_over" = some (.ref fA)) :
    FnOk P w K mg base CX0 3 f fd ["kin", "session", "number"] (spBarsS C) := by
  refine F.ok scBarsS (fun vs H Q E h => ?_) (fun cdv A outer s H vs Q E hr h => ?_)
  · obtain ⟨k, M, s, n, rfl, _⟩ := h
    rfl
  · obtain ⟨k, M, s, n, rfl, N, W, q⟩ := h
    have hu := hu_of hr
    have h1 : Room 1 _ := hr.mono (by decide)
    refine ⟨_, pss_cons (ps_if (pt_val (pe_call GL h1 rfl mL kL bL .nil pass0 (pa_cons (pv 0) (pa_cons (pv 1) pa_nil))))
        (pss_cons (ps_if (pt_cmpR op_eq (pv 2) (pv 1) (nomark _)) (pss_one (ps_ret (pe_cmpR (op_neD hr.units) (pe_tup (pa_cons (pe_dget hu (pe_fld (pv 0) rfl) (pv 2) (fun _ _ => rfl)) (pa_cons (pe_dget hu (pe_fld (pv 0) rfl) (pv 2) (fun _ _ => rfl)) pa_nil))) (pe_tup (pa_cons (pv 1) (pa_cons (pv 1) pa_nil))) (nomark _)))) pss_nil)
        (pss_one (ps_ret (pe_and (pe_cmpR op_in_seq (pv 2) (pe_call GT hr rfl mT kT bT .nil pass0 (pa_cons (pv 0) (pa_cons (pv 1) pa_nil))) rfl) (pe_one (pe_cmpR op_ne (pe_dget hu (pe_fld (pv 0) rfl) (pv 2) (fun _ _ => rfl)) (pe_call GA hr rfl mA kA bA .nil pass0 (pa_cons (pv 0) (pa_cons (pv 1) pa_nil))) (nomark _))))))) pss_nil)
      (pss_cons (ps_set (i := 3) scBarsS.nd rfl (.inl rfl) (pe_call GT hr rfl mT kT bT .nil pass0 (pa_cons (pv 0) (pa_cons (pv 1) pa_nil))))
      (pss_cons (ps_if (pt_cmpR op_notIn_seq (pv 2) (pv 3) rfl) (pss_one (ps_ret pe_bl)) pss_nil)
      (pss_cons (ps_if (pt_cmpR op_eq (pv 1) (pe_glob (v := .int 1) rfl m1 ⟨_, rfl⟩) (nomark _)) (pss_one (ps_ret (pe_cmpR op_ne (pv 2) (pe_fld (pv 0) rfl) (nomark _)))) pss_nil)
      (pss_cons (ps_set (i := 4) scBarsS.nd rfl (.inl rfl) (pe_dget hu (pe_fld (pv 0) rfl) (pv 2) (fun _ _ => rfl)))
      (pss_one (ps_ret (pe_or (pe_cmpR op_ne (pv 4) (pe_dget hu (pe_fld (pv 0) rfl) (pe_ix ix_list (pv 3) pe_int (fun _ _ => rfl)) (fun _ _ => rfl)) (nomark _)) (pe_one (pe_not (pe_dget hu (pe_fld (pv 0) rfl) (pv 4) (fun _ _ => rfl))))))))))), ?_⟩
    have cL : ∀ H', Ex H H' → SpV (spIsLed C) ([.ref k, .int s] ++ []) H' (.bl (decide (s ∈ keys M))) := fun H' e H2 e2 Q q E => ⟨k, M, s, rfl, N.mono (e.trans e2), q⟩
    have cT : ∀ H', Ex H H' → SpL (spTops C) ([.ref k, .int s] ++ []) H' ((tops M s).map V.int) := fun H' e H2 e2 Q q E => ⟨k, M, s, rfl, N.mono (e.trans e2), W, q⟩
    refine q_if (et_test (ev_call (ea_cons (ev_var rfl) (ea_cons (ev_var rfl) ea_nil)) (cL H (Ex.refl H)))) (fun hb H1 e1 => ?_) (fun hb H1 e1 => ?_)
    · have ls : s ∈ keys M := of_decide_eq_true hb
      have N1 := N.mono e1
      refine q_when (et_test (ev_op (ev_var rfl) (ev_var rfl) (rv_eq rfl))) (fun h2 H2 e2 => ?_) (fun h2 H2 e2 => ?_)
      · rw [dec_int] at h2
        have en : n = s := of_decide_eq_true h2
        subst en
        have N2 := N1.mono e2
        have v : (V.bl (!PyData.eqv (.tuple [.int (ses M n), .int (grp M n)]) (.tuple [.int n, .int n]))) = .bl (barsS M n n) := by
          rw [eqv_pair]
          unfold barsS
          rw [if_pos ls, if_pos rfl]
        refine s_ret (ev_is (ev_opUU (eu_tup (ea_cons (kn_ses T N2 (ev_var rfl) (ev_var rfl) (.inr ls)) (ea_cons (kn_grp T N2 (ev_var rfl) (ev_var rfl) (.inr ls)) ea_nil)) (by show 2 ≤ 100000; omega)) (eu_tup (ea_cons (ev_var rfl) (ea_cons (ev_var rfl) ea_nil)) (by show 2 ≤ 100000; omega))
          (fun p r H3 hp hq e3 => rv_val fun H4 e4 Q qq => ⟨_, _, .tup (st_of (e4 _ _ hp)) (.cons (.int _) (.cons (.int _) .nil)), .tup (st_of (e4 _ _ hq)) (.cons (.int _) (.cons (.int _) .nil)), rfl, rfl, qq⟩)) v) fun H3 e3 => q H3 ((e1.trans e2).trans e3)
      · rw [dec_int] at h2
        have ne : n ≠ s := of_decide_eq_false h2
        have N2 := N1.mono e2
        have cA : SpV (spAdopter C) ([.ref k, .int s] ++ []) H2 (.int (adopter M s)) := fun H3 e3 Q q E => ⟨k, M, s, rfl, N2.mono e3, W, ls, q⟩
        have v : (V.bl (decide (n ∈ tops M s) && !decide (V.int (up M n) = V.int (adopter M s)))) = .bl (barsS M s n) := by
          rw [dec_int]
          unfold barsS
          rw [if_pos ls, if_neg ne]
        refine s_ret (ev_is (ev_andV (ev_opL (ev_var rfl) (el_call (ea_cons (ev_var rfl) (ea_cons (ev_var rfl) ea_nil)) (cT H2 (e1.trans e2))) (fun p H3 hp e3 => rv_inI (sq_of hp))) (fun ht => ?_)) v) fun H3 e3 => q H3 ((e1.trans e2).trans e3)
        have mn := (mem_tops.mp (of_decide_eq_true ht)).1
        exact ev_op (kn_par T N2 (ev_var rfl) (ev_var rfl) mn) (ev_call (ea_cons (ev_var rfl) (ea_cons (ev_var rfl) ea_nil)) cA) (rv_ne rfl)
    · have ls : s ∉ keys M := of_decide_eq_false hb
      refine q_asgL (el_call (ea_cons (ev_var rfl) (ea_cons (ev_var rfl) ea_nil)) (cT H1 e1)) fun p H2 np e2 g2 => ?_
      refine q_when (et_test (ev_op (ev_var rfl) (ev_var rfl) (rv_niI (sq_of g2)))) (fun h3 H3 e3 => ?_) (fun h3 H3 e3 => ?_)
      · have nt : n ∉ tops M s := by simpa using h3
        have v : (V.bl false) = .bl (barsS M s n) := by
          unfold barsS
          rw [if_neg ls, if_neg nt]
        exact s_ret (ev_is ev_c v) fun H4 e4 => q H4 (((e1.trans e2).trans e3).trans e4)
      · have nt : n ∈ tops M s := by simpa using h3
        have mn := (mem_tops.mp nt).1
        have N3 := N.mono ((e1.trans e2).trans e3)
        refine q_when (et_test (ev_op (ev_var rfl) ev_c (rv_eq rfl))) (fun h4 H4 e4 => ?_) (fun h4 H4 e4 => ?_)
        · rw [dec_int] at h4
          have es : s = 1 := of_decide_eq_true h4
          have N4 := N3.mono e4
          obtain ⟨root, er, _, hroot⟩ := kn_root (ta := tVar 0) (σ := [some (.ref k), some (.int s), some (.int n), some (.ref p), none]) T N4 (ev_var rfl)
          have v : (V.bl (!decide (V.int n = V.int root))) = .bl (barsS M s n) := by
            rw [dec_int, hroot n mn]
            unfold barsS
            rw [if_neg ls, if_pos nt, if_pos es]
          exact s_ret (ev_is (ev_op (ev_var rfl) er (rv_ne rfl)) v) fun H5 e5 => q H5 ((((e1.trans e2).trans e3).trans e4).trans e5)
        · rw [dec_int] at h4
          have es : s ≠ 1 := of_decide_eq_false h4
          have N4 := N3.mono e4
          obtain ⟨o, rest, eo⟩ : ∃ o rest, tops M s = o :: rest := by
            cases z : tops M s with
            | nil => rw [z] at nt; cases nt
            | cons o l => exact ⟨o, l, rfl⟩
          have mo : o ∈ keys M := (mem_tops.mp (by rw [eo]; exact List.mem_cons_self)).1
          have g4 := e4 _ _ (e3 _ _ g2)
          rw [eo] at g4
          refine q_asg (kn_par T N4 (ev_var rfl) (ev_var rfl) mn) fun H5 e5 => ?_
          have N5 := N4.mono e5
          have mu : up M n = 1 ∨ up M n ∈ keys M := by
            by_cases z : up M n = 1
            · exact .inl z
            · exact .inr (W.up_in mn z)
          have v : (V.bl (!decide (V.int (up M n) = V.int (up M o)) || !ado M (up M n))) = .bl (barsS M s n) := by
            rw [dec_int]
            unfold barsS
            rw [if_neg ls, if_pos nt, if_neg es, eo]
            rfl
          refine s_ret (ev_is (ev_orV (ev_op (ev_var rfl) (kn_par T N5 (ev_var rfl) (ev_op (ev_var rfl) ev_c (rv_ix0 (sq_of (e5 _ _ g4)))) mo) (rv_ne rfl)) (fun _ => ev_notV (kn_ado T N5 (ev_var rfl) (ev_var rfl) mu))) v) fun H6 e6 => q H6 (((((e1.trans e2).trans e3).trans e4).trans e5).trans e6)
theorem ok_barsG {t0 : Tok} (F : Fun K "bars_group" "bars_group" sBarsG f fd) (T : KT K C) (m1 : mg "FIRST" = some (.int 1 t0)) (mo : mg "sorted" = none) (ms : mg "set" = none) (ml : mg "len" = none)
    (GS : FnOk P w K mg base CX0 1 fS dS ["kin"] (spSessions C)) (bS : Binds K dS ["kin"] []) (kS : PySem.W.keepIn K (.ref fS) = true) (mS : mg "sessions_of" = some (.ref fS)) :
    FnOk P w K mg base CX0 2 f fd ["kin", "group"] (spBarsG C) := by
  refine F.ok scBarsG (fun vs H Q E h => ?_) (fun cdv A outer s H vs Q E hr h => ?_)
  · obtain ⟨k, M, g, rfl, _⟩ := h
    rfl
  · obtain ⟨k, M, g, rfl, N, W, hg, q⟩ := h
    have hu := hu_of hr
    refine ⟨_, pss_cons (ps_set (i := 2) scBarsG.nd rfl (.inl rfl) (pe_callB (cr_sortedSet rfl) (by rfl) mo (by decide +kernel) (pa_cons (pe_callTy (cr_setL rfl) (by rfl) ms (by decide +kernel) (pa_cons
        (pe_lc (own := [("at", 3)]) (g := gName 3) (tt := tTest (tOp rEq (tDGet (tFld K (tVar 0) "groups") (tVar 3)) (tVar 1))) (te := tDGet (tFld K (tVar 0) "sessions") (tVar 3)) rfl scBarsG.nd (pi_list (pe_fld (pv 0) rfl)) (blkOk_by (N := nBarsG) (sc := defScope sBarsG) (by decide +kernel))
          (fun _ _ _ _ _ => pg_name (i := 3) scBarsG.nd rfl (Or.inl rfl)) (fun _ _ _ _ _ => pts_one (pt_cmpR op_eq (pe_dget hu (pe_fld (pv 0) rfl) (pv 3) (fun _ _ => rfl)) (pv 1) (nomark _))) (fun _ _ _ _ _ => pe_dget hu (pe_fld (pv 0) rfl) (pv 3) (fun _ _ => rfl))) pa_nil)) pa_nil)))
      (pss_cons (ps_if (pt_cmpR op_gt (pe_callB call_len_seq (by rfl) ml PySem.boot_len (pa_cons (pv 2) pa_nil)) pe_int (nomark _)) (pss_one (ps_ret pe_bl)) pss_nil)
      (pss_cons (ps_if (PW.pt (pw_and (pt_cmp (pc_din hu (pv 1) (pe_fld (pv 0) rfl))) (pw_and1 (pt_cmpR op_ne (pe_dget hu (pe_fld (pv 0) rfl) (pv 1) (fun _ _ => rfl)) (pe_ix ix_list (pv 2) pe_int (fun _ _ => rfl)) (nomark _))))) (pss_one (ps_ret pe_bl)) pss_nil)
      (pss_one (ps_ret (pe_and (pe_or (pe_cmpR op_eq (pv 1) (pe_glob (v := .int 1) rfl m1 ⟨_, rfl⟩) (nomark _)) (pe_one (pe_cmpR op_in_seq (pv 1) (pe_call GS hr rfl mS kS bS .nil pass0 (pa_cons (pv 0) pa_nil)) rfl))) (pe_one (pe_cmpR op_ne (pv 1) (pe_ix ix_list (pv 2) pe_int (fun _ _ => rfl)) (nomark _)))))))), ?_⟩
    obtain ⟨a, ea, la⟩ := kn_members (σ := start nBarsG [.ref k, .int g]) T N (ev_var (i := 0) rfl)
    have few : (keys M).length < 64 := by rw [len_keys]; have := W.few; omega
    have lc := el_lcG (K := K) (te := tDGet (tFld K (tVar 0) "sessions") (tVar 3)) (t := tTest (tOp rEq (tDGet (tFld K (tVar 0) "groups") (tVar 3)) (tVar 1))) (j := 3) (vs := [3]) V.int (fun n => decide (grp M n = g)) (fun n => .int (ses M n)) ea la (by omega) (fun x => rfl)
      (fun b mb H1 e1 => et_is (et_test (ev_op (kn_grp T (N.mono e1) (ev_var rfl) (ev_var rfl) (.inr mb)) (ev_var rfl) (rv_eq rfl))) (dec_int _ _)) (fun b mb _ H1 e1 => kn_ses T (N.mono e1) (ev_var rfl) (ev_var rfl) (.inr mb))
    have e2 : ((keys M).filter fun n => decide (grp M n = g)).map (fun n => V.int (ses M n)) = ((M.filter fun r => decide (r.g = g)).map (·.s)).map V.int := by
      rw [← owners_eq W, List.map_map]
      rfl
    rw [e2] at lc
    have few2 : ((M.filter fun r => decide (r.g = g)).map (·.s)).length < 64 := by
      rw [List.length_map]
      have := List.length_filter_le (fun r : Rw => decide (r.g = g)) M
      have := W.few
      omega
    refine q_asgL (el_sset lc few2) fun p H1 np e1 g1 => ?_
    obtain ⟨o, rest, eo⟩ := owners_ne hg
    have g1' : H1 p = some (.lst ((owners M g).map V.int)) := g1
    have N1 := N.mono e1
    have hd : (owners M g).headD 1 = o := by rw [eo]; rfl
    refine q_when (et_test (ev_op (ev_len (K := K) (ev_var rfl) (sq_of g1')) ev_c rv_I0)) (fun h2 H2 e2 => ?_) (fun h2 H2 e2 => ?_)
    · have v : (V.bl true) = .bl (splitB M g) := by
        unfold splitB
        have z : (decide (1 < (owners M g).length)) = true := by
          have := of_decide_eq_true h2
          rw [List.length_map] at this
          exact decide_eq_true (by omega)
        rw [z]
        rfl
      exact s_ret (ev_is ev_c v) fun H3 e3 => q H3 ((e1.trans e2).trans e3)
    · have z1 : (decide (1 < (owners M g).length)) = false := by
        have := of_decide_eq_false h2
        rw [List.length_map] at this
        exact decide_eq_false (by omega)
      have N2 := N1.mono e2
      have g2 := e2 _ _ g1'
      rw [eo] at g2
      refine q_when (et_and (et_test (kn_in T N2 (ev_var rfl) (ev_var rfl))) (fun hm => et_test (ev_op (kn_ses T N2 (ev_var rfl) (ev_var rfl) (.inr (of_decide_eq_true hm))) (ev_op (ev_var rfl) ev_c (rv_ix0 (sq_of g2))) (rv_ne rfl)))) (fun h3 H3 e3 => ?_) (fun h3 H3 e3 => ?_)
      · rw [dec_int] at h3
        have v : (V.bl true) = .bl (splitB M g) := by
          unfold splitB
          rw [hd, h3, Bool.or_true]
          rfl
        exact s_ret (ev_is ev_c v) fun H4 e4 => q H4 (((e1.trans e2).trans e3).trans e4)
      · rw [dec_int] at h3
        have N3 := N2.mono e3
        have cS : SpL (spSessions C) ([.ref k] ++ []) H3 ((sessions M).map V.int) := fun H4 e4 Q q E => ⟨k, M, rfl, N3.mono e4, W, q⟩
        have v : (V.bl ((decide (V.int g = V.int 1) || decide (g ∈ sessions M)) && !decide (V.int g = V.int o))) = .bl (splitB M g) := by
          unfold splitB
          rw [hd, h3, z1, dec_int, dec_int]
          have : decide (g ∈ sessions M) = decide (g ∈ M.map (·.s)) := by
            rw [Bool.eq_iff_iff, decide_eq_true_iff, decide_eq_true_iff]
            exact mem_asc
          rw [this]
          rfl
        refine s_ret (ev_is (ev_andV (ev_orV (ev_op (ev_var rfl) ev_c (rv_eq rfl)) (fun _ => ev_opL (ev_var rfl) (el_call (ea_cons (ev_var rfl) ea_nil) cS) (fun p H4 hp e4 => rv_inI (sq_of hp)))) (fun _ => ev_op (ev_var rfl) (ev_op (ev_var rfl) ev_c (rv_ix0 (sq_of (e3 _ _ g2)))) (rv_ne rfl))) v) fun H4 e4 => q H4 (((e1.trans e2).trans e3).trans e4)
end
end KB
set_option Elab.async false
set_option linter.all false
namespace KB
theorem split_at {α : Type} {xs : List α} {i : Nat} {x : α} (h : xs[i]? = some x) : xs = xs.take i ++ x :: xs.drop (i + 1) := by
  obtain ⟨hi, e⟩ := List.getElem?_eq_some_iff.mp h
  rw [← e, List.getElem_cons_drop hi, List.take_append_drop]
theorem filter_none {α : Type} {p : α → Bool} {l : List α} (h : ∀ x ∈ l, p x = false) : l.filter p = [] := List.filter_eq_nil_iff.mpr fun x m => by rw [h x m]; exact Bool.false_ne_true
theorem head_filter {α : Type} {p : α → Bool} {xs : List α} {i : Nat} {x : α} (h : xs[i]? = some x) (h0 : ∀ y ∈ xs.take i, p y = false) (h1 : p x = true) : (xs.filter p).head? = some x := by
  rw [split_at h, List.filter_append, filter_none h0, List.filter_cons, if_pos h1]
  rfl
theorem head_flat {α β : Type} {f : α → List β} {xs : List α} {i : Nat} {x : α} (h : xs[i]? = some x) (h0 : ∀ y ∈ xs.take i, f y = []) {z : β} (h1 : (f x).head? = some z) : (xs.flatMap f).head? = some z := by
  have e : (xs.take i).flatMap f = [] := List.flatMap_eq_nil_iff.mpr h0
  rw [split_at h, List.flatMap_append, e, List.flatMap_cons, List.nil_append, List.head?_append, h1]
  rfl
theorem nodup_len : ∀ {l m : List Int}, l.Nodup → (∀ a ∈ l, a ∈ m) → l.length ≤ m.length
  | [], _, _, _ => Nat.zero_le _
  | a :: l, m, nd, h => by
    rw [List.nodup_cons] at nd
    have ma : a ∈ m := h a List.mem_cons_self
    have len := List.length_erase_of_mem ma
    have pos : 0 < m.length := List.length_pos_of_mem ma
    have := nodup_len (l := l) (m := m.erase a) nd.2 fun b mb => (List.mem_erase_of_ne (fun z : b = a => nd.1 (by rw [← z]; exact mb))).mpr (h b (List.mem_cons_of_mem _ mb))
    simp only [List.length_cons]
    omega
theorem first_idx {x : Int} : ∀ {l : List Int}, x ∈ l → ∃ i : Nat, l[i]? = some x ∧ ∀ j, j < i → ∀ y, l[j]? = some y → y ≠ x
  | [], h => nomatch h
  | a :: l, h => by
    by_cases z : a = x
    · exact ⟨0, by rw [z]; rfl, fun j hj => absurd hj (Nat.not_lt_zero _)⟩
    · obtain ⟨i, h1, h2⟩ := first_idx (l := l) ((List.mem_cons.mp h).resolve_left fun e => z e.symm)
      refine ⟨i + 1, by simpa using h1, fun j hj y ey => ?_⟩
      cases j with
      | zero => simp at ey; rw [← ey]; exact z
      | succ j => exact h2 j (by omega) y (by simpa using ey)
section
variable {M : Fam} {n : Int}
theorem need_in (W : WF M) {x : Int} (h : need M n = some x) : x ∈ keys M := by
  unfold need at h
  split at h
  · rename_i c
    have m := List.mem_of_find?_eq_some h
    have p := List.find?_some h
    simp at p
    rcases List.mem_cons.mp m with m | m
    · rw [m]; exact c.1
    · exact (above_in W _ c.1 x m).resolve_left p.1
  · cases h
theorem need_out (W : WF M) (h : n ∉ keys M) : need M n = none := by
  unfold need
  rw [if_neg]
  intro c
  have : ses M n = 1 := by unfold ses; rw [look_none h]; rfl
  rw [this] at c
  exact W.one c.1
/-- the line from s upwards -/
theorem line_up (W : WF M) : ∀ s ∈ keys M, ∀ (i : Nat) (b : Int), (above M s)[i]? = some b → ∃ a, (s :: above M s)[i]? = some a ∧ a ≠ 1 ∧ up M a = b := by
  refine up_ind W (fun s m z i b h => ?_) (fun s m z ih i b h => ?_)
  · rw [above_eq W m, if_pos z] at h
    cases i with
    | zero =>
      exact ⟨s, rfl, fun e => W.one (e ▸ m), by simpa using h⟩
    | succ i => simp at h
  · rw [above_eq W m, if_neg z] at h
    cases i with
    | zero => exact ⟨s, rfl, fun e => W.one (e ▸ m), by simpa using h⟩
    | succ i =>
      obtain ⟨a, e1, e2⟩ := ih i b (by simpa using h)
      refine ⟨a, ?_, e2⟩
      rw [above_eq W m, if_neg z]
      simpa using e1
theorem find_at {α : Type} {p : α → Bool} {xs : List α} {i : Nat} {x : α} (h : xs[i]? = some x) (h1 : p x = true) (h0 : ∀ j, j < i → ∀ y, xs[j]? = some y → p y = false) : xs.find? p = some x := by
  rw [split_at h, List.find?_append]
  have e : (xs.take i).find? p = none := List.find?_eq_none.mpr fun y m => by
    obtain ⟨j, hj, e⟩ := List.getElem_of_mem m
    rw [List.length_take] at hj
    have e2 : xs[j]? = some y := by
      rw [List.getElem_take] at e
      rw [List.getElem?_eq_getElem (by omega), e]
    rw [h0 j (by omega) y e2]
    exact Bool.false_ne_true
  rw [e, List.find?_cons, h1]
  rfl
/-- what the program finds in the line -/
theorem need_line (W : WF M) (ls : ses M n ∈ keys M) (ne : ses M n ≠ n) (ht : topB M (ses M n) n = true) {i : Nat} (hi : (above M (ses M n))[i]? = some (up M n)) (h0 : ∀ j, j < i → ∀ y, (above M (ses M n))[j]? = some y → y ≠ up M n) :
    ∃ a, (ses M n :: above M (ses M n))[i]? = some a ∧ need M n = some a := by
  obtain ⟨a, e1, e2, e3⟩ := line_up W _ ls i _ hi
  refine ⟨a, e1, ?_⟩
  unfold need
  rw [if_pos ⟨ls, ne, ht⟩]
  refine find_at e1 (by simp [e2, e3]) fun j hj y ey => ?_
  have lt : j < (above M (ses M n)).length := by
    have := (List.getElem?_eq_some_iff.mp hi).1
    omega
  obtain ⟨a', f1, f2, f3⟩ := line_up W _ ls j _ (List.getElem?_eq_getElem lt)
  rw [ey] at f1
  cases f1
  have := h0 j hj _ (List.getElem?_eq_getElem lt)
  rw [← f3] at this
  simp [this]
theorem need_no (W : WF M) (ls : ses M n ∈ keys M) (h : up M n ∉ above M (ses M n)) : need M n = none := by
  unfold need
  split
  · refine List.find?_eq_none.mpr fun a m c => ?_
    simp at c
    have ma : a ∈ keys M := by
      rcases List.mem_cons.mp m with m | m
      · rw [m]; exact ls
      · exact (above_in W _ ls a m).resolve_left c.1
    -- up a is above the leader
    have key : ∀ s ∈ keys M, ∀ a ∈ keys M, a ∈ s :: above M s → up M a ∈ above M s := by
      refine up_ind W (fun s ms z a ma m => ?_) (fun s ms z ih a ma m => ?_)
      · rw [above_eq W ms, if_pos z] at m ⊢
        rcases List.mem_cons.mp m with m | m
        · rw [m]; exact List.mem_cons_self
        · have e := (List.mem_singleton.mp m).trans z
          exact absurd (e ▸ ma) W.one
      · rw [above_eq W ms, if_neg z] at m ⊢
        rcases List.mem_cons.mp m with m | m
        · rw [m]; exact List.mem_cons_self
        · exact List.mem_cons_of_mem _ (ih a ma m)
    exact h (c.2 ▸ key _ ls a ma m)
  · rfl
/-- rings, step by step -/
theorem ring_out (W : WF M) (h : n ∉ keys M) : ring M n = none := by
  unfold ring
  rw [need_out W h]
  have e : (ringGo M 64 [n] none).2 = none := rfl
  dsimp only
  rw [if_neg]
  rw [e]
  exact fun c => nomatch c.1
end
def firstS (M : Fam) : Option Rs := ((sessions M).flatMap fun s => ((keys M).filter (barsS M s)).map (Rs.session s)).head?
def firstG (M : Fam) : Option Rs := (((groups M).filter (splitB M)).map Rs.group).head?
def firstR (M : Fam) : Option Rs := (((keys M).filterMap (ring M)).map Rs.ring).head?
def barM (M : Fam) : Option Rs := (reasons M).head?
theorem barM_eq (M : Fam) : barM M = match firstS M with | some r => some r | none => match firstG M with | some r => some r | none => firstR M := by
  unfold barM reasons firstS firstG firstR
  rw [List.head?_append, List.head?_append]
  cases (List.flatMap (fun s => List.map (Rs.session s) (List.filter (barsS M s) (keys M))) (sessions M)).head? with
  | some r => rfl
  | none =>
    cases ((List.map Rs.group (List.filter (splitB M) (groups M))).head?) with
    | some r => rfl
    | none => rfl
end KB
set_option Elab.async false
set_option linter.all false
set_option maxRecDepth 100000
set_option maxHeartbeats 4000000
namespace KB
open PySem PySem.Spec PyProof.Rows L2 Evl
theorem same_new {H : Hp} {p : Addr} {o : HO} (h : H p = none) : Same H (upd H p o) := fun b x e => by
  rw [upd_ne (ne_of_none e h)]
  exact e
theorem same_mut {H H' : Hp} {p : Addr} {o : HO} (s : Same H H') (h : H p = none) : Same H (upd H' p o) := fun b x e => by
  rw [upd_ne (ne_of_none e h)]
  exact s b x e
mutual
/-- data at any depth, all of it tracked -/
inductive Dx (H : Hp) : V → PyData → Prop
  | non : Dx H .non .none
  | bl (b : Bool) : Dx H (.bl b) (.bool b)
  | int (i : Int) : Dx H (.int i) (.int i)
  | str (x : Str) : Dx H (.str x) (.str x)
  | lst {a : Addr} {xs : List V} {ds : List PyData} : H a = some (.lst xs) → DxAll H xs ds → Dx H (.ref a) (.list ds)
  | tup {a : Addr} {xs : List V} {ds : List PyData} : H a = some (.tup xs) → DxAll H xs ds → Dx H (.ref a) (.tuple ds)
inductive DxAll (H : Hp) : List V → List PyData → Prop
  | nil : DxAll H [] []
  | cons {v : V} {vs : List V} {d : PyData} {ds : List PyData} : Dx H v d → DxAll H vs ds → DxAll H (v :: vs) (d :: ds)
end
mutual
theorem Dx.mono {H H' : Hp} (s : Same H H') : ∀ {v : V} {d : PyData}, Dx H v d → Dx H' v d
  | _, _, .non => .non
  | _, _, .bl b => .bl b
  | _, _, .int i => .int i
  | _, _, .str x => .str x
  | _, _, .lst e h => .lst (s _ _ e) (DxAll.mono s h)
  | _, _, .tup e h => .tup (s _ _ e) (DxAll.mono s h)
theorem DxAll.mono {H H' : Hp} (s : Same H H') : ∀ {vs : List V} {ds : List PyData}, DxAll H vs ds → DxAll H' vs ds
  | _, _, .nil => .nil
  | _, _, .cons h t => .cons (Dx.mono s h) (DxAll.mono s t)
end
theorem DxAll.length {H : Hp} : ∀ {vs : List V} {ds : List PyData}, DxAll H vs ds → vs.length = ds.length
  | _, _, .nil => rfl
  | _, _, .cons _ t => by rw [List.length_cons, List.length_cons, DxAll.length t]
theorem DxAll.get {H : Hp} : ∀ {vs : List V} {ds : List PyData} {i : Nat} {v : V}, DxAll H vs ds → vs[i]? = some v → ∃ d, ds[i]? = some d ∧ Dx H v d
  | _, _, _, _, .nil, e => by simp at e
  | _, _, 0, _, .cons h _, e => by
    simp at e
    subst e
    exact ⟨_, rfl, h⟩
  | _, _, i + 1, v, .cons _ t, e => by
    obtain ⟨d, h1, h2⟩ := DxAll.get (i := i) (v := v) t (by simpa using e)
    exact ⟨d, by simpa using h1, h2⟩
theorem DxAll.snoc {H : Hp} {v : V} {d : PyData} (h : Dx H v d) : ∀ {vs : List V} {ds : List PyData}, DxAll H vs ds → DxAll H (vs ++ [v]) (ds ++ [d])
  | _, _, .nil => .cons h .nil
  | _, _, .cons h1 t => .cons h1 (DxAll.snoc h t)
/-- of nesting below n -/
def Sh : Nat → PyData → Prop
  | 0, _ => False
  | n + 1, .list ds => ds.length ≤ 1000 ∧ ∀ d ∈ ds, Sh n d
  | n + 1, .tuple ds => ds.length ≤ 1000 ∧ ∀ d ∈ ds, Sh n d
  | _ + 1, .dict _ => False
  | _ + 1, _ => True
/-- the heap without the objects of M -/
def mask (H : Hp) (M : List Addr) : Hp := fun b => if b ∈ M then none else H b
theorem mask_nil (H : Hp) : mask H [] = H := funext fun b => if_neg List.not_mem_nil
theorem mask_at {H : Hp} {M : List Addr} {a : Addr} {o : HO} (e : mask H M a = some o) : H a = some o ∧ a ∉ M := by
  unfold mask at e
  by_cases h : a ∈ M
  · rw [if_pos h] at e
    cases e
  · rw [if_neg h] at e
    exact ⟨e, h⟩
theorem mask_of {H : Hp} {M : List Addr} {a : Addr} {o : HO} (e : H a = some o) (h : a ∉ M) : mask H M a = some o := (if_neg h).trans e
theorem mask_same {H H' : Hp} {M M' : List Addr} (s : Same H H') (h : ∀ b o, H b = some o → b ∈ M' → b ∈ M) : Same (mask H M) (mask H' M') := fun b o e => by
  obtain ⟨e1, e2⟩ := mask_at e
  exact mask_of (s b o e1) fun z => e2 (h b o e1 z)
theorem mask_upd {H : Hp} {M : List Addr} {a : Addr} {o : HO} (h : a ∈ M) : mask (upd H a o) M = mask H M := funext fun b => by
  unfold mask
  by_cases z : b ∈ M
  · rw [if_pos z, if_pos z]
  · have ne : b ≠ a := fun e => z (e ▸ h)
    rw [if_neg z, if_neg z, upd_ne ne]
theorem dx_ints {H : Hp} : ∀ (ns : List Int), DxAll H (ns.map V.int) (ns.map PyData.int)
  | [] => .nil
  | n :: ns => .cons (.int n) (dx_ints ns)
/-- told a datum -/
def RetD (d : PyData) (H : Hp) (Q : VK) : Prop := ∀ v H2, Ex H H2 → Dx H2 v d → Q v H2
def EvX (te : TE) (σ : L2.St) (H : Hp) (d : PyData) : Prop := ∀ H1, Ex H H1 → ∀ Q : VK, (∀ v H2, Ex H1 H2 → Dx H2 v d → Q v H2) → te σ H1 Q
def SpX (sp : Sp) (vs : List V) (H : Hp) (d : PyData) : Prop := ∀ H1, Ex H H1 → ∀ Q : VK, (∀ v H2, Ex H1 H2 → Dx H2 v d → Q v H2) → ∀ E : XK, sp vs H1 Q E
section
variable {K : PySem.W.Frag} {σ : L2.St} {H H' : Hp} {ta tb te tx : TE} {tz : TS} {D : Ends}
theorem ex_call {sp : Sp} {dvs vs : List V} {d : PyData} {E : XK} {ta : TA} (h : EvA ta σ H vs) (hs : SpX sp (vs ++ dvs) H d) : EvX (tCall sp dvs E ta) σ H d := fun H1 e Q q =>
  h H1 e _ fun H2 e2 => hs H2 (e.trans e2) Q (fun v H3 e3 g => q v H3 (e2.trans e3) g) E
theorem s_asgX {i : Nat} {d : PyData} (h : EvX te σ H d) (k : ∀ v H1, Ex H H1 → Dx H1 v d → D.nx (σ.set i (some v)) H1) : tAsg te (gName i) D σ H := h H (Ex.refl H) _ fun v H1 e g => k v H1 e g
theorem q_asgX {i : Nat} {d : PyData} (h : EvX te σ H d) (k : ∀ v H1, Ex H H1 → Dx H1 v d → tz D (σ.set i (some v)) H1) : tSeq (tAsg te (gName i)) tz D σ H := s_asgX (D := { D with nx := tz D }) h k
theorem s_retX {d : PyData} (h : EvX te σ H d) (k : ∀ v H1, Ex H H1 → Dx H1 v d → D.rt v H1) : tRet te D σ H := h H (Ex.refl H) _ k
end
def rsD : Rs → PyData
  | .session s n => .tuple [.str "session", .int s, .int n]
  | .group g => .tuple [.str "group", .int g]
  | .ring row => .tuple [.str "ring", .list (row.map PyData.int)]
def optD : Option Rs → PyData
  | none => .none
  | some r => rsD r
def rowD : Option (List Int) → PyData
  | none => .none
  | some row => .list (row.map PyData.int)
end KB
set_option Elab.async false
set_option linter.all false
set_option maxRecDepth 100000
set_option maxHeartbeats 4000000
namespace KB
open PySem PySem.Spec PyProof.Rows L2 Evl
theorem mem_take {α : Type} {xs : List α} {i : Nat} {x : α} (h : xs[i]? = some x) : ∀ y ∈ xs.take (i + 1), y ∈ xs.take i ∨ y = x := fun y m => by
  rw [List.take_add_one, h] at m
  rcases List.mem_append.mp m with m | m
  · exact .inl m
  · exact .inr (by simpa using m)
theorem ints_at {ns : List Int} {i : Nat} {x : V} (h : (ns.map V.int)[i]? = some x) : ∃ n, ns[i]? = some n ∧ x = .int n := by
  rw [List.getElem?_map] at h
  obtain ⟨n, e1, e2⟩ := Option.map_eq_some_iff.mp h
  exact ⟨n, e1, e2.symm⟩
theorem head_fm {α β : Type} {f : α → Option β} {xs : List α} {i : Nat} {x : α} {r : β} (h : xs[i]? = some x) (h0 : ∀ y ∈ xs.take i, f y = none) (h1 : f x = some r) : (xs.filterMap f).head? = some r := by
  have e : (xs.take i).filterMap f = [] := List.filterMap_eq_nil_iff.mpr h0
  rw [split_at h, List.filterMap_append, e, List.filterMap_cons, h1]
  rfl
theorem dx_non {H : Hp} {v : V} {o : Option Rs} (h : Dx H v (optD o)) : decide (v = .non) = o.isNone := by
  cases o with
  | none => cases h; rfl
  | some r =>
    cases r with
    | session s n => cases h; rfl
    | group g => cases h; rfl
    | ring row => cases h; rfl
theorem dx_row {H : Hp} {v : V} {o : Option (List Int)} (h : Dx H v (rowD o)) : decide (v = .non) = o.isNone := by
  cases o with
  | none => cases h; rfl
  | some r => cases h; rfl
end KB
set_option Elab.async false
set_option linter.all false
set_option maxRecDepth 100000
set_option maxHeartbeats 4000000
namespace KB
open PySem PySem.Spec PyProof.Rows L2 Evl
abbrev sFirstS : Stmt := topS 26
abbrev sFirstG : Stmt := topS 27
theorem scFirstS : FnScope ["kin", "session", "number"] ["kin"] (defScope sFirstS) := ⟨rfl, rfl, rfl, by decide +kernel, rfl, by decide +kernel, by decide +kernel⟩
theorem scFirstG : FnScope ["kin", "group"] ["kin"] (defScope sFirstG) := ⟨rfl, rfl, rfl, by decide +kernel, rfl, by decide +kernel, by decide +kernel⟩
def spFirstS (C : Addr) : Sp := fun vs H Q _ => ∃ k M, vs = [.ref k] ∧ Kn H C k M ∧ WF M ∧ RetD (optD (firstS M)) H Q
def spFirstG (C : Addr) : Sp := fun vs H Q _ => ∃ k M, vs = [.ref k] ∧ Kn H C k M ∧ WF M ∧ RetD (optD (firstG M)) H Q
section
variable {P : Program} {w : World} {K : PySem.W.Frag} {mg : Str → Option Value} {base : Heap} {f fS fB : Addr} {fd dS dB : FuncData} {C : Addr}
theorem ok_firstS (F : Fun K "first_session" "first_session" sFirstS f fd) (T : KT K C)
    (GS : FnOk P w K mg base CX0 1 fS dS ["kin"] (spSessions C)) (bS : Binds K dS ["kin"] []) (kS : PySem.W.keepIn K (.ref fS) = true) (mS : mg "sessions_of" = some (.ref fS))
    (GB : FnOk P w K mg base CX0 3 fB dB ["kin", "session", "number"] (spBarsS C)) (bB : Binds K dB ["kin", "session", "number"] []) (kB : PySem.W.keepIn K (.ref fB) = true) (mB : mg "bars_session" = some (.ref fB)) :
    FnOk P w K mg base CX0 4 f fd ["kin"] (spFirstS C) := by
  refine F.ok scFirstS (fun vs H Q E h => ?_) (fun cdv A outer s H vs Q E hr h => ?_)
  · obtain ⟨k, M, rfl, _⟩ := h
    rfl
  · obtain ⟨k, M, rfl, N, W, q⟩ := h
    have h1 : Room 1 _ := hr.mono (by decide)
    refine ⟨_, pss_cons (ps_for PassesOwn.never rfl (pi_list (pe_call GS h1 rfl mS kS bS .nil pass0 (pa_cons (pv 0) pa_nil))) (pg_name (i := 1) scFirstS.nd rfl (.inl rfl))
        (pss_one (ps_for PassesOwn.never rfl (pi_list (pe_fld (pv 0) rfl)) (pg_name (i := 2) scFirstS.nd rfl (.inl rfl))
          (pss_one (ps_if (pt_val (pe_call GB hr rfl mB kB bB .nil pass0 (pa_cons (pv 0) (pa_cons (pv 1) (pa_cons (pv 2) pa_nil))))) (pss_one (ps_ret (pe_tup (pa_cons pe_str (pa_cons (pv 1) (pa_cons (pv 2) pa_nil)))))) pss_nil)))))
      (pss_one (ps_ret pe_non)), ?_⟩
    have cS : SpL (spSessions C) ([.ref k] ++ []) H ((sessions M).map V.int) := fun H4 e4 Q q E => ⟨k, M, rfl, N.mono e4, W, q⟩
    refine q_forNLn (K := K) (el_call (ea_cons (ev_var rfl) ea_nil) cS) (fun p i σ G => (∃ y z, σ = [some (.ref k), y, z]) ∧ Ex H G ∧ G p = some (.lst ((sessions M).map V.int)) ∧ ∀ s ∈ (sessions M).take i, ∀ n ∈ keys M, barsS M s n = false)
      (fun p H1 np e1 g1 => ⟨⟨_, _, rfl⟩, e1, g1, fun s m => nomatch m⟩) (fun p i σ G _ g => sq_of g.2.2.1) ?_ ?_
    · rintro p i x σ G hx ⟨⟨y, z, rfl⟩, eG, gp, h0⟩
      obtain ⟨s, es, rfl⟩ := ints_at hx
      have N1 := N.mono eG
      obtain ⟨a, ea, la⟩ := kn_members (ta := tVar 0) (σ := [some (.ref k), some (.int s), z]) T N1 (ev_var (i := 0) rfl)
      refine s_forLn (K := K) ea la (fun j σ G2 => (∃ z, σ = [some (.ref k), some (.int s), z]) ∧ Ex G G2 ∧ ∀ n ∈ (keys M).take j, barsS M s n = false) (fun H1 e1 => ⟨⟨_, rfl⟩, e1, fun n m => nomatch m⟩) (fun j σ G2 _ g => ex_l g.2.1 la) ?_ ?_
      · rintro j x σ G2 hj ⟨⟨z2, rfl⟩, e2, j0⟩
        obtain ⟨n, en, rfl⟩ := ints_at hj
        have N2 := N1.mono e2
        have cB : SpV (spBarsS C) ([.ref k, .int s, .int n] ++ []) G2 (.bl (barsS M s n)) := fun H4 e4 Q q E => ⟨k, M, s, n, rfl, N2.mono e4, W, q⟩
        refine s_if (et_test (ev_call (ea_cons (ev_var rfl) (ea_cons (ev_var rfl) (ea_cons (ev_var rfl) ea_nil))) cB)) (fun hb H3 e3 => ?_) (fun hb H3 e3 => ?_)
        · refine s_retU (eu_tup (ea_cons ev_c (ea_cons (ev_var rfl) (ea_cons (ev_var rfl) ea_nil))) (by show 3 ≤ 100000; omega)) fun t H4 nt e4 g4 => ?_
          have hd : firstS M = some (.session s n) := by
            refine head_flat es (fun y m => ?_) (z := Rs.session s n) ?_
            · rw [filter_none fun n mn => h0 y m n mn]
              rfl
            · rw [List.head?_map, head_filter en (fun y m => j0 y m) hb]
              rfl
          refine q _ H4 (((eG.trans e2).trans e3).trans e4) ?_
          rw [hd]
          exact .tup g4 (.cons (.str _) (.cons (.int _) (.cons (.int _) .nil)))
        · refine ⟨⟨_, rfl⟩, e2.trans e3, fun y m => ?_⟩
          rcases mem_take en y m with m | rfl
          · exact j0 y m
          · exact hb
      · rintro σ G2 ⟨⟨z2, rfl⟩, e2, j0⟩
        refine ⟨⟨_, _, rfl⟩, eG.trans e2, e2 _ _ gp, fun y m => ?_⟩
        rcases mem_take es y m with m | rfl
        · exact h0 y m
        · rw [List.length_map, List.take_length] at j0
          exact j0
    · rintro p σ G ⟨⟨y, z, rfl⟩, eG, gp, h0⟩
      rw [List.length_map, List.take_length] at h0
      refine s_ret ev_c fun H2 e2 => q _ H2 (eG.trans e2) ?_
      have hd : firstS M = none := by
        unfold firstS
        rw [List.flatMap_eq_nil_iff.mpr]
        · rfl
        · intro s m
          rw [filter_none fun n mn => h0 s m n mn]
          rfl
      rw [hd]
      exact .non
theorem ok_firstG (F : Fun K "first_group" "first_group" sFirstG f fd) (T : KT K C)
    (GS : FnOk P w K mg base CX0 1 fS dS ["kin"] (spGroups C)) (bS : Binds K dS ["kin"] []) (kS : PySem.W.keepIn K (.ref fS) = true) (mS : mg "groups_of" = some (.ref fS))
    (GB : FnOk P w K mg base CX0 2 fB dB ["kin", "group"] (spBarsG C)) (bB : Binds K dB ["kin", "group"] []) (kB : PySem.W.keepIn K (.ref fB) = true) (mB : mg "bars_group" = some (.ref fB)) :
    FnOk P w K mg base CX0 3 f fd ["kin"] (spFirstG C) := by
  refine F.ok scFirstG (fun vs H Q E h => ?_) (fun cdv A outer s H vs Q E hr h => ?_)
  · obtain ⟨k, M, rfl, _⟩ := h
    rfl
  · obtain ⟨k, M, rfl, N, W, q⟩ := h
    have h1 : Room 1 _ := hr.mono (by decide)
    refine ⟨_, pss_cons (ps_for PassesOwn.never rfl (pi_list (pe_call GS h1 rfl mS kS bS .nil pass0 (pa_cons (pv 0) pa_nil))) (pg_name (i := 1) scFirstG.nd rfl (.inl rfl))
          (pss_one (ps_if (pt_val (pe_call GB hr rfl mB kB bB .nil pass0 (pa_cons (pv 0) (pa_cons (pv 1) pa_nil)))) (pss_one (ps_ret (pe_tup (pa_cons pe_str (pa_cons (pv 1) pa_nil))))) pss_nil)))
      (pss_one (ps_ret pe_non)), ?_⟩
    have cS : SpL (spGroups C) ([.ref k] ++ []) H ((groups M).map V.int) := fun H4 e4 Q q E => ⟨k, M, rfl, N.mono e4, W, q⟩
    refine q_forNLn (K := K) (el_call (ea_cons (ev_var rfl) ea_nil) cS) (fun p i σ G => (∃ y, σ = [some (.ref k), y]) ∧ Ex H G ∧ G p = some (.lst ((groups M).map V.int)) ∧ ∀ g ∈ (groups M).take i, splitB M g = false)
      (fun p H1 np e1 g1 => ⟨⟨_, rfl⟩, e1, g1, fun s m => nomatch m⟩) (fun p i σ G _ g => sq_of g.2.2.1) ?_ ?_
    · rintro p i x σ G hx ⟨⟨y, rfl⟩, eG, gp, h0⟩
      obtain ⟨g, es, rfl⟩ := ints_at hx
      have N1 := N.mono eG
      have cB : SpV (spBarsG C) ([.ref k, .int g] ++ []) G (.bl (splitB M g)) := fun H4 e4 Q q E => ⟨k, M, g, rfl, N1.mono e4, W, List.mem_of_getElem? es, q⟩
      refine s_if (et_test (ev_call (ea_cons (ev_var rfl) (ea_cons (ev_var rfl) ea_nil)) cB)) (fun hb H3 e3 => ?_) (fun hb H3 e3 => ?_)
      · refine s_retU (eu_tup (ea_cons ev_c (ea_cons (ev_var rfl) ea_nil)) (by show 2 ≤ 100000; omega)) fun t H4 nt e4 g4 => ?_
        have hd : firstG M = some (.group g) := by
          unfold firstG
          rw [List.head?_map, head_filter es (fun y m => h0 y m) hb]
          rfl
        refine q _ H4 ((eG.trans e3).trans e4) ?_
        rw [hd]
        exact .tup g4 (.cons (.str _) (.cons (.int _) .nil))
      · refine ⟨⟨_, rfl⟩, eG.trans e3, e3 _ _ gp, fun y m => ?_⟩
        rcases mem_take es y m with m | rfl
        · exact h0 y m
        · exact hb
    · rintro p σ G ⟨⟨y, rfl⟩, eG, gp, h0⟩
      rw [List.length_map, List.take_length] at h0
      refine s_ret ev_c fun H2 e2 => q _ H2 (eG.trans e2) ?_
      have hd : firstG M = none := by
        unfold firstG
        rw [filter_none fun g m => h0 g m]
        rfl
      rw [hd]
      exact .non
end
end KB
set_option Elab.async false
set_option linter.all false
set_option maxRecDepth 100000
set_option maxHeartbeats 4000000
namespace Evl
open PySem L2
section
variable {K : PySem.W.Frag} {σ : L2.St} {H H' : Hp} {ta tb te tx : TE} {t u : TT} {x y z v : V} {D : Ends} {tz : TS}
theorem ed_new : EvD tDNewK σ H [] := fun H1 e Q q p hp => q p _ hp (Ex.new hp) upd_same
theorem q_asgD {i : Nat} {kvs : List (Key × V)} (h : EvD te σ H kvs) (k : ∀ p H1, H p = none → Ex H H1 → H1 p = some (.dK kvs) → tz D (σ.set i (some (.ref p))) H1) : tSeq (tAsg te (gName i)) tz D σ H := h H (Ex.refl H) _ fun p H1 hp e g => k p H1 hp e g
/-- a list display that ends in a star -/
theorem ea_starN {xs : List V} (h : EvL te σ H xs) : ∀ H1, Ex H H1 → ∀ Q : List V → Hp → Prop, (∀ H2, Ex H1 H2 → Q xs H2) → StX.tStar K te tNil σ H1 Q := fun H1 e Q q =>
  h H1 e _ fun p H2 _ e2 g => ⟨p, xs, rfl, .inr (sq_of g), by
    show Q (xs ++ []) H2
    rw [List.append_nil]
    exact q H2 e2⟩
theorem ea_star {xs : List V} (h : EvL te σ H xs) : EvA (StX.tStar K te tNil) σ H xs := fun H1 e Q q => ea_starN h H1 e Q q
/-- d[n] = e -/
theorem s_dput {d : Addr} {kvs : List (Key × V)} {i : Int} (hv : Ev te σ H v) (hd : Ev ta σ H (.ref d)) (hk : Ev tb σ H (.int i)) (e0 : H d = some (.dK kvs)) (hl : kvs.length < 100000) (k : ∀ H1, Ex H H1 → D.nx σ (upd H1 d (.dK (putK kvs (Sum.inl i) v)))) : sDPut ta tb te D σ H :=
  hv H (Ex.refl H) _ fun H1 e1 => hd H1 e1 _ fun H2 e2 => hk H2 (e1.trans e2) _ fun H3 e3 => ⟨d, _, rfl, DPut.k (k := Sum.inl i) (((e1.trans e2).trans e3) _ _ e0) (sz_lt hl), k H3 ((e1.trans e2).trans e3)⟩
theorem evo_some {i : Int} (h : Ev te σ H (.int i)) : EvO (tPart te) σ H (some i) := fun H1 e Q q => h H1 e _ fun H2 e2 => ⟨i, rfl, q H2 e2⟩
theorem evo_none : EvO tNoPart σ H none := fun H1 e Q q => q H1 (Ex.refl H1)
end
end Evl
namespace KB
open PySem PySem.Spec PyProof.Rows L2 Evl
abbrev sNeeds : Stmt := topS 24
abbrev nNeeds : List Str := ["kin", "found", "session", "line", "number", "parent"]
theorem scNeeds : FnScope nNeeds ["kin"] (defScope sNeeds) := ⟨rfl, rfl, rfl, by decide +kernel, rfl, by decide +kernel, by decide +kernel⟩
/-- for each number what it needs -/
def Nd (H : Hp) (d : Addr) (M : Fam) : Prop := ∃ kvs, H d = some (.dK kvs) ∧ ∀ n, valV kvs (Sum.inl n) = (need M n).map V.int
theorem Nd.mono {H H' : Hp} {d : Addr} {M : Fam} (e : Ex H H') (h : Nd H d M) : Nd H' d M := by
  obtain ⟨kvs, h1, h2⟩ := h
  exact ⟨kvs, e _ _ h1, h2⟩
def spNeeds (C : Addr) : Sp := fun vs H Q _ => ∃ k M, vs = [.ref k] ∧ Kn H C k M ∧ WF M ∧ ∀ d H', Ex H H' → Nd H' d M → Q (.ref d) H'
theorem cut1 (x : V) (xs : List V) : cutV (x :: xs) (some 1) none = xs := by
  unfold cutV
  have e1 : HT.sIx (x :: xs).length 0 (some 1) = 1 := by
    show HT.sIx (x :: xs).length 0 (some ((1 : Nat) : Int)) = 1
    rw [HT.sIx_nat]
    simp
  have e2 : HT.sIx (x :: xs).length (x :: xs).length none = (x :: xs).length := HT.sIx_none ..
  rw [e1, e2]
  simp
section
variable {P : Program} {w : World} {K : PySem.W.Frag} {mg : Str → Option Value} {base : Heap} {f fS fL fA fO : Addr} {fd dS dL dA dO : FuncData} {C : Addr}
theorem ok_needs (F : Fun K "needs" "needs" sNeeds f fd) (T : KT K C)
    (GS : FnOk P w K mg base CX0 1 fS dS ["kin"] (spSessions C)) (bS : Binds K dS ["kin"] []) (kS : PySem.W.keepIn K (.ref fS) = true) (mS : mg "sessions_of" = some (.ref fS))
    (GL : FnOk P w K mg base CX0 1 fL dL ["kin", "session"] (spIsLed C)) (bL : Binds K dL ["kin", "session"] []) (kL : PySem.W.keepIn K (.ref fL) = true) (mL : mg "is_led" = some (.ref fL))
    (GA : FnOk P w K mg base CX0 1 fA dA ["kin", "number"] (spAbove C)) (bA : Binds K dA ["kin", "number"] []) (kA : PySem.W.keepIn K (.ref fA) = true) (mA : mg "all_above" = some (.ref fA))
    (GO : FnOk P w K mg base CX0 3 fO dO ["kin", "session"] (spOthers C)) (bO : Binds K dO ["kin", "session"] []) (kO : PySem.W.keepIn K (.ref fO) = true) (mO : mg "other_tops" = some (.ref fO)) :
    FnOk P w K mg base CX0 4 f fd ["kin"] (spNeeds C) := by
  refine F.ok scNeeds (fun vs H Q E h => ?_) (fun cdv A outer s H vs Q E hr h => ?_)
  · obtain ⟨k, M, rfl, _⟩ := h
    rfl
  · obtain ⟨k, M, rfl, N, W, q⟩ := h
    have hu := hu_of hr
    have h1 : Room 1 _ := hr.mono (by decide)
    refine ⟨_, pss_cons (ps_set (i := 1) scNeeds.nd rfl (.inl rfl) pe_dnewK)
      (pss_cons (ps_for PassesOwn.never rfl (pi_list (pe_call GS h1 rfl mS kS bS .nil pass0 (pa_cons (pv 0) pa_nil))) (pg_name (i := 2) scNeeds.nd rfl (.inl rfl))
        (pss_one (ps_if (pt_val (pe_call GL h1 rfl mL kL bL .nil pass0 (pa_cons (pv 0) (pa_cons (pv 2) pa_nil))))
          (pss_cons (ps_set (i := 3) scNeeds.nd rfl (.inl rfl) (pe_lst (pa_cons (pv 2) (StX.pa_star (pe_call GA h1 rfl mA kA bA .nil pass0 (pa_cons (pv 0) (pa_cons (pv 2) pa_nil))) pa_nil))))
          (pss_one (ps_for PassesOwn.never rfl (pi_list (pe_call GO hr rfl mO kO bO .nil pass0 (pa_cons (pv 0) (pa_cons (pv 2) pa_nil)))) (pg_name (i := 4) scNeeds.nd rfl (.inl rfl))
            (pss_cons (ps_set (i := 5) scNeeds.nd rfl (.inl rfl) (pe_dget hu (pe_fld (pv 0) rfl) (pv 4) (fun _ _ => rfl)))
            (pss_one (ps_if (pt_cmpR op_in_seq (pv 5) (pe_slice sl_list (pv 3) (po_some pe_int) po_none) rfl)
              (pss_one (ps_dput hu (pv 1) (pv 4) (pe_ix ix_list (pv 3) (pe_op op_sub (pe_bm PySem.F.plainAttrs_list PySem.F.slot_list_index PySem.F.type_list_index mt_index (pv 3) (pa_cons (pv 5) pa_nil)) pe_int) (fun _ _ => rfl)) rfl)) pss_nil)))))) pss_nil)))
      (pss_one (ps_ret (pv 1)))), ?_⟩
    refine q_asgD ed_new fun d H0 nd e0 g0 => ?_
    have N0 := N.mono e0
    have cS : SpL (spSessions C) ([.ref k] ++ []) H0 ((sessions M).map V.int) := fun H4 e4 Q q E => ⟨k, M, rfl, N0.mono e4, W, q⟩
    have slen : (sessions M).length ≤ 20 := by
      have := len_asc (M.map (·.s))
      rw [List.length_map] at this
      have := W.few
      unfold sessions
      omega
    refine q_forNLn (K := K) (el_call (ea_cons (ev_var rfl) ea_nil) cS) (fun p i σ G => (∃ y1 y2 y3 y4, σ = [some (.ref k), some (.ref d), y1, y2, y3, y4]) ∧ Ex H G ∧ p ≠ d ∧ G p = some (.lst ((sessions M).map V.int)) ∧
        ∃ kvs, G d = some (.dK kvs) ∧ kvs.length ≤ 20 * i ∧ ∀ n, valV kvs (Sum.inl n) = if n ∈ keys M ∧ ses M n ∈ (sessions M).take i then (need M n).map V.int else none)
      (fun p H1 np e1 g1 => ⟨⟨_, _, _, _, rfl⟩, e0.trans e1, (fun z => by rw [z, g0] at np; cases np), g1, [], e1 _ _ g0, Nat.zero_le _, fun n => (if_neg fun c => nomatch c.2).symm⟩) (fun p i σ G _ g => sq_of g.2.2.2.1) ?_ ?_
    · rintro p i x σ G hx ⟨⟨y1, y2, y3, y4, rfl⟩, eG, npd, gp, kvs, gd, hl, hv⟩
      obtain ⟨s, es, rfl⟩ := ints_at hx
      have hi : i < 20 := by
        have := (List.getElem?_eq_some_iff.mp es).1
        omega
      have ms : s ∈ sessions M := List.mem_of_getElem? es
      have tk : ∀ n, ses M n ∈ (sessions M).take (i + 1) ↔ ses M n ∈ (sessions M).take i ∨ ses M n = s := fun n => by
        rw [List.take_add_one, es, List.mem_append]
        simp
      have N1 := N.mono eG
      have cL : SpV (spIsLed C) ([.ref k, .int s] ++ []) G (.bl (decide (s ∈ keys M))) := fun H2 e2 Q q E => ⟨k, M, s, rfl, N1.mono e2, q⟩
      refine s_if (et_test (ev_call (ea_cons (ev_var rfl) (ea_cons (ev_var rfl) ea_nil)) cL)) (fun hb G1 e1 => ?_) (fun hb G1 e1 => ?_)
      · have ls : s ∈ keys M := of_decide_eq_true hb
        have N2 := N1.mono e1
        have cA : SpL (spAbove C) ([.ref k, .int s] ++ []) G1 ((above M s).map V.int) := fun H2 e2 Q q E => ⟨k, M, s, rfl, N2.mono e2, W, ls, q⟩
        have alen := above_len W s ls
        refine q_asgL (el_lst (ea_cons (ev_var rfl) (ea_star (el_call (ea_cons (ev_var rfl) (ea_cons (ev_var rfl) ea_nil)) cA))) (by rw [List.length_cons, List.length_map]; omega)) fun ln G2 nl e2 gl => ?_
        have N3 := N2.mono e2
        have cO : SpL (spOthers C) ([.ref k, .int s] ++ []) G2 (((tops M s).filter fun n => !decide (n = s)).map V.int) := fun H2 e2 Q q E => ⟨k, M, s, rfl, N3.mono e2, W, q⟩
        have olen : ((tops M s).filter fun n => !decide (n = s)).length ≤ 20 := Nat.le_trans (List.length_filter_le _ _) (tops_len W s)
        have gd2 : G2 d = some (.dK kvs) := e2 _ _ (e1 _ _ gd)
        have nld : ln ≠ d := fun z => by rw [z, e1 _ _ gd] at nl; cases nl
        have nlp : ln ≠ p := fun z => by rw [z, e1 _ _ gp] at nl; cases nl
        refine s_forNL (K := K) (el_call (ea_cons (ev_var rfl) (ea_cons (ev_var rfl) ea_nil)) cO) (fun o j σ G3 => (∃ y3 y4, σ = [some (.ref k), some (.ref d), some (.int s), some (.ref ln), y3, y4]) ∧ Ex H G3 ∧ o ≠ d ∧ G3 p = some (.lst ((sessions M).map V.int)) ∧
            G3 o = some (.lst (((tops M s).filter fun n => !decide (n = s)).map V.int)) ∧ G3 ln = some (.lst (.int s :: (above M s).map V.int)) ∧
            ∃ kvs, G3 d = some (.dK kvs) ∧ kvs.length ≤ 20 * i + j ∧ ∀ n, valV kvs (Sum.inl n) = if (n ∈ keys M ∧ ses M n ∈ (sessions M).take i) ∨ n ∈ ((tops M s).filter fun n => !decide (n = s)).take j then (need M n).map V.int else none)
          (fun o G3 no e3 go => ⟨⟨_, _, rfl⟩, (eG.trans e1).trans (e2.trans e3), (fun z => by rw [z, gd2] at no; cases no), e3 _ _ (e2 _ _ (e1 _ _ gp)), go, e3 _ _ gl, kvs, e3 _ _ gd2, hl, fun n => by
            rw [hv n]
            simp⟩) (fun o j σ G3 _ g => sq_of g.2.2.2.2.1) ?_ ?_
        · rintro o j x σ G3 hj ⟨⟨y3, y4, rfl⟩, e3, nod, gp3, go3, gl3, kv, gd3, hl3, hv3⟩
          obtain ⟨n, en, rfl⟩ := ints_at hj
          have hj20 : j < 20 := by
            have := (List.getElem?_eq_some_iff.mp en).1
            omega
          have mo := List.mem_of_getElem? en
          obtain ⟨mt, ne⟩ := List.mem_filter.mp mo
          have ne' : n ≠ s := by simpa using ne
          obtain ⟨mn, tb⟩ := mem_tops.mp mt
          have esn : ses M n = s := by
            unfold topB at tb
            rw [Bool.and_eq_true] at tb
            exact of_decide_eq_true tb.1
          have N4 := N.mono e3
          refine q_asg (kn_par T N4 (ev_var rfl) (ev_var rfl) mn) fun G4 e4 => ?_
          have gl4 := e4 _ _ gl3
          have sl : EvL (tSl (rSlL K) (tVar 3) (tPart (tC (.int 1))) tNoPart) [some (.ref k), some (.ref d), some (.int s), some (.ref ln), some (.int n), some (.int (up M n))] G4 ((above M s).map V.int) := by
            have r := el_sl (K := K) (te := tVar 3) (σ := [some (.ref k), some (.ref d), some (.int s), some (.ref ln), some (.int n), some (.int (up M n))]) (ev_var rfl) (evo_some ev_c) evo_none (sq_of gl4) (lo := some 1) (hi := none)
            rw [cut1] at r
            exact r
          have step : ∀ (kv' : List (Key × V)), (∀ m, valV kv' (Sum.inl m) = if m = n then (need M n).map V.int else valV kv (Sum.inl m)) → ∀ m, valV kv' (Sum.inl m) = if (m ∈ keys M ∧ ses M m ∈ (sessions M).take i) ∨ m ∈ ((tops M s).filter fun n => !decide (n = s)).take (j + 1) then (need M m).map V.int else none := by
            intro kv' h m
            rw [h m, List.take_add_one, en]
            by_cases z : m = n
            · subst z
              rw [if_pos rfl, if_pos (.inr (by simp))]
            · rw [if_neg z, hv3 m]
              have : (m ∈ ((tops M s).filter fun n => !decide (n = s)).take j ++ [n]) ↔ m ∈ ((tops M s).filter fun n => !decide (n = s)).take j := by simp [z]
              simp only [Option.toList_some, this]
          refine s_if (et_test (ev_opL (ev_var rfl) sl (fun c G5 hc e5 => rv_inI (sq_of hc)))) (fun hin G5 e5 => ?_) (fun hin G5 e5 => ?_)
          · have min : up M n ∈ above M s := of_decide_eq_true hin
            obtain ⟨ix, hix, hfirst⟩ : ∃ ix, (above M s)[ix]? = some (up M n) ∧ ∀ j, j < ix → ∀ y, (above M s)[j]? = some y → y ≠ up M n := by
              exact first_idx min
            have hnd := need_line (n := n) W (by rw [esn]; exact ls) (by rw [esn]; exact fun z => ne' z.symm) (by rw [esn]; exact tb) (by rw [esn]; exact hix) (by rw [esn]; exact hfirst)
            rw [esn] at hnd
            obtain ⟨a, ea, en2⟩ := hnd
            have nsup : s ≠ up M n := fun z => above_self W ls (z ▸ min)
            have gl5 := e5 _ _ gl4
            have ixv : Ev (tBM K "list" (rIndex K) (tVar 3) (tCons (tVar 5) tNil)) [some (.ref k), some (.ref d), some (.int s), some (.ref ln), some (.int n), some (.int (up M n))] G5 (.int ((ix + 1 : Nat) : Int)) := fun H1 e1 Q qq =>
              ⟨_, rfl, .inl ⟨rfl, _, sq_of (e1 _ _ gl5)⟩, _, rfl, ln, _, _, ix + 1, .int (up M n), rfl, rfl, sq_of (e1 _ _ gl5), rfl, by
                have := flat_ints (s :: above M s)
                simpa using this, by
                rw [List.getElem?_cons_succ, List.getElem?_map, hix]
                rfl, by show ((up M n) == (up M n)) = true; exact beq_self_eq_true _, fun m z' hm hz => by
                cases m with
                | zero =>
                  simp at hz
                  subst hz
                  exact beq_eq_false_iff_ne.mpr nsup
                | succ m =>
                  rw [List.getElem?_cons_succ] at hz
                  obtain ⟨b, eb, rfl⟩ := ints_at hz
                  exact beq_eq_false_iff_ne.mpr (hfirst m (by omega) b eb), qq H1 (Ex.refl H1)⟩
            have itm : Ev (tOp (rIxL K) (tVar 3) (tOp (rI0 fun i j => .int (i - j)) (tBM K "list" (rIndex K) (tVar 3) (tCons (tVar 5) tNil)) (tC (.int 1)))) [some (.ref k), some (.ref d), some (.int s), some (.ref ln), some (.int n), some (.int (up M n))] G5 (.int a) := by
              refine ev_op (ev_var rfl) (ev_op ixv ev_c rv_I0) (rv_ixL (sq_of gl5) ?_)
              have e : (((ix + 1 : Nat) : Int) - 1) = (ix : Int) := by omega
              rw [e]
              refine atI_nat ?_
              have : (V.int s :: (above M s).map V.int) = (s :: above M s).map V.int := rfl
              rw [this, List.getElem?_map, ea]
              rfl
            refine s_dput itm (ev_var rfl) (ev_var rfl) (e5 _ _ (e4 _ _ gd3)) (by omega) fun G6 e6 => ?_
            have X : Ex G3 G6 := (e4.trans e5).trans e6
            have nd' : ∀ {b : Addr} {o : HO}, b ≠ d → G6 b = some o → upd G6 d (.dK (putK kv (Sum.inl n) (.int a))) b = some o := fun z h => by rw [upd_ne z]; exact h
            refine ⟨⟨_, _, rfl⟩, Ex.mut (e3.trans X) nd, nod, nd' npd (X _ _ gp3), nd' nod (X _ _ go3), nd' nld (X _ _ gl3), _, upd_same, ?_, step _ fun m => ?_⟩
            · have := length_putK kv (Sum.inl n) (.int a)
              omega
            · rw [valV_put]
              by_cases z : m = n
              · rw [if_pos z, if_pos (by rw [z]), en2]
                rfl
              · rw [if_neg z, if_neg (fun c => z (Sum.inl.inj c))]
          · have nin : up M n ∉ above M s := of_decide_eq_false hin
            have X : Ex G3 G5 := e4.trans e5
            refine ⟨⟨_, _, rfl⟩, e3.trans X, nod, X _ _ gp3, X _ _ go3, X _ _ gl3, kv, X _ _ gd3, by omega, step _ fun m => ?_⟩
            by_cases z : m = n
            · subst z
              rw [if_pos rfl, need_no W (by rw [esn]; exact ls) (by rw [esn]; exact nin), hv3 m, need_no W (by rw [esn]; exact ls) (by rw [esn]; exact nin)]
              simp
            · rw [if_neg z]
        · rintro o σ G3 ⟨⟨y3, y4, rfl⟩, e3, nod, gp3, go3, gl3, kv, gd3, hl3, hv3⟩
          rw [List.length_map] at hl3 hv3
          rw [List.take_length] at hv3
          refine ⟨⟨_, _, _, _, rfl⟩, e3, npd, gp3, kv, gd3, by omega, fun m => ?_⟩
          rw [hv3 m]
          by_cases c1 : m ∈ keys M ∧ ses M m ∈ (sessions M).take i
          · rw [if_pos (.inl c1), if_pos ⟨c1.1, (tk m).mpr (.inl c1.2)⟩]
          · by_cases c2 : m ∈ (tops M s).filter fun n => !decide (n = s)
            · obtain ⟨mt, _⟩ := List.mem_filter.mp c2
              obtain ⟨mm, tb⟩ := mem_tops.mp mt
              have esm : ses M m = s := by
                unfold topB at tb
                rw [Bool.and_eq_true] at tb
                exact of_decide_eq_true tb.1
              rw [if_pos (.inr c2), if_pos ⟨mm, (tk m).mpr (.inr esm)⟩]
            · rw [if_neg (fun c => c.elim c1 c2)]
              by_cases c3 : m ∈ keys M ∧ ses M m ∈ (sessions M).take (i + 1)
              · rw [if_pos c3]
                rcases (tk m).mp c3.2 with z | z
                · exact absurd ⟨c3.1, z⟩ c1
                · have : need M m = none := by
                    unfold need
                    rw [if_neg]
                    rintro ⟨q1, q2, q3⟩
                    rw [z] at q2 q3
                    refine c2 (List.mem_filter.mpr ⟨mem_tops.mpr ⟨c3.1, q3⟩, ?_⟩)
                    show (!decide (m = s)) = true
                    rw [decide_eq_false fun h : m = s => q2 h.symm]
                    rfl
                  rw [this]
                  rfl
              · rw [if_neg c3]
      · have ls : s ∉ keys M := of_decide_eq_false hb
        refine ⟨⟨_, _, _, _, rfl⟩, eG.trans e1, npd, e1 _ _ gp, kvs, e1 _ _ gd, by omega, fun m => ?_⟩
        rw [hv m]
        by_cases c1 : m ∈ keys M ∧ ses M m ∈ (sessions M).take i
        · rw [if_pos c1, if_pos ⟨c1.1, (tk m).mpr (.inl c1.2)⟩]
        · rw [if_neg c1]
          by_cases c3 : m ∈ keys M ∧ ses M m ∈ (sessions M).take (i + 1)
          · rw [if_pos c3]
            rcases (tk m).mp c3.2 with z | z
            · exact absurd ⟨c3.1, z⟩ c1
            · have : need M m = none := by
                unfold need
                rw [if_neg]
                rintro ⟨q1, _⟩
                rw [z] at q1
                exact ls q1
              rw [this]
              rfl
          · rw [if_neg c3]
    · rintro p σ G ⟨⟨y1, y2, y3, y4, rfl⟩, eG, npd, gp, kvs, gd, hl, hv⟩
      rw [List.length_map, List.take_length] at hv
      refine s_ret (ev_var rfl) fun H2 e2 => q d H2 (eG.trans e2) ⟨kvs, e2 _ _ gd, fun n => ?_⟩
      rw [hv n]
      by_cases z : n ∈ keys M
      · obtain ⟨r, m, rfl⟩ := W.row z
        rw [if_pos ⟨z, mem_asc.mpr (by rw [W.ses m]; exact List.mem_map_of_mem (f := fun r : Rw => r.s) m)⟩]
      · rw [if_neg (fun c => z c.1), need_out W z]
        rfl
end
end KB
set_option Elab.async false
set_option linter.all false
set_option maxRecDepth 100000
set_option maxHeartbeats 4000000
namespace Evl
open PySem L2
/-- a value of which P holds -/
def EvP (te : TE) (σ : L2.St) (H : Hp) (P : V → Hp → Prop) : Prop := ∀ H1, Ex H H1 → ∀ Q : VK, (∀ v H2, Ex H1 H2 → P v H2 → Q v H2) → te σ H1 Q
def SpP (sp : Sp) (vs : List V) (H : Hp) (P : V → Hp → Prop) : Prop := ∀ H1, Ex H H1 → ∀ Q : VK, (∀ v H2, Ex H1 H2 → P v H2 → Q v H2) → ∀ E : XK, sp vs H1 Q E
section
variable {K : PySem.W.Frag} {σ : L2.St} {H H' : Hp} {ta tb te tx : TE} {t u : TT} {x y z v : V} {D : Ends} {tz : TS} {P : V → Hp → Prop}
theorem ep_call {sp : Sp} {dvs vs : List V} {E : XK} {ta : TA} (h : EvA ta σ H vs) (hs : SpP sp (vs ++ dvs) H P) : EvP (tCall sp dvs E ta) σ H P := fun H1 e Q q =>
  h H1 e _ fun H2 e2 => hs H2 (e.trans e2) Q (fun v H3 e3 g => q v H3 (e2.trans e3) g) E
theorem q_asgP {i : Nat} (h : EvP te σ H P) (k : ∀ v H1, Ex H H1 → P v H1 → tz D (σ.set i (some v)) H1) : tSeq (tAsg te (gName i)) tz D σ H := h H (Ex.refl H) _ fun v H1 e g => k v H1 e g
theorem s_retP (h : EvP te σ H P) (k : ∀ v H1, Ex H H1 → P v H1 → D.rt v H1) : tRet te D σ H := h H (Ex.refl H) _ k
theorem ev_notN (h : Ev ta σ H x) : Ev (tNotN ta) σ H (.bl (!decide (x = .non))) := fun H1 e Q q => h H1 e _ fun H2 e2 => q H2 e2
end
end Evl
namespace KB
open PySem PySem.Spec PyProof.Rows L2 Evl
abbrev sRing : Stmt := topS 25
abbrev nRing : List Str := ["needed", "number", "row", "closes"]
theorem scRing : FnScope nRing ["needed", "number"] (defScope sRing) := ⟨rfl, rfl, rfl, by decide +kernel, rfl, by decide +kernel, by decide +kernel⟩
def spRing : Sp := fun vs H Q _ => ∃ d M n, vs = [.ref d, .int n] ∧ Nd H d M ∧ WF M ∧ RetD (rowD (ring M n)) H Q
theorem go_end {M : Fam} {f : Nat} {row : List Int} : ∀ {l : Option Int}, (∀ x, l = some x → x ∈ row) → ringGo M f row l = (row, l) := by
  intro l h
  cases f with
  | zero => rfl
  | succ f =>
    cases l with
    | none => rfl
    | some x =>
      show (if x ∈ row then (row, some x) else _) = _
      rw [if_pos (h x rfl)]
theorem opt_some (o : Option Int) : (o.map V.int).isSome = o.isSome := by cases o <;> rfl
section
variable {P : Program} {w : World} {K : PySem.W.Frag} {mg : Str → Option Value} {base : Heap} {f : Addr} {fd : FuncData} {C : Addr}
theorem ok_ring (F : Fun K "ring_from" "ring_from" sRing f fd) (mm : mg "min" = none) : FnOk P w K mg base CX0 1 f fd ["needed", "number"] spRing := by
  refine F.ok scRing (fun vs H Q E h => ?_) (fun cdv A outer s H vs Q E hr h => ?_)
  · obtain ⟨k, M, n, rfl, _⟩ := h
    rfl
  · obtain ⟨d, M, n, rfl, N, W, q⟩ := h
    have hu := hu_of hr
    refine ⟨_, pss_cons (ps_set (i := 2) scRing.nd rfl (.inl rfl) (pe_lst (pa_cons (pv 1) pa_nil)))
      (pss_cons (ps_while PassesOwn.never (PW.pt (pw_and (pt_cmp (pc_din hu (pe_ix ix_list (pv 2) (pe_un un_neg pe_int) (fun _ _ => rfl)) (pv 0))) (pw_and1 (pt_cmpR op_notIn_seq (pe_dget hu (pv 0) (pe_ix ix_list (pv 2) (pe_un un_neg pe_int) (fun _ _ => rfl)) (fun _ _ => rfl)) (pv 2) rfl))))
        (pss_one (ps_expr (pe_bm PySem.F.plainAttrs_list PySem.F.slot_list_append PySem.F.type_list_append mt_append (pv 2) (pa_cons (pe_dget hu (pv 0) (pe_ix ix_list (pv 2) (pe_un un_neg pe_int) (fun _ _ => rfl)) (fun _ _ => rfl)) pa_nil)))))
      (pss_cons (ps_set (i := 3) scRing.nd rfl (.inl rfl) (pe_and (pe_cmp (pc_din hu (pe_ix ix_list (pv 2) (pe_un un_neg pe_int) (fun _ _ => rfl)) (pv 0)) rfl) (pe_one (pe_cmpR op_eq (pe_dget hu (pv 0) (pe_ix ix_list (pv 2) (pe_un un_neg pe_int) (fun _ _ => rfl)) (fun _ _ => rfl)) (pv 1) (nomark _)))))
      (pss_one (ps_ret (pe_ifExp (PW.pt (pw_and (pt_val (pv 3)) (pw_and1 (pt_cmpR op_eq (pe_callB (cr_min rfl) (by rfl) mm (by decide +kernel) (pa_cons (pv 2) pa_nil)) (pv 1) (nomark _))))) (pv 2) pe_non))))), ?_⟩
    obtain ⟨kvs, gd, hv⟩ := N
    refine q_asgL (el_lst (ea_cons (ev_var rfl) ea_nil) (by show 1 ≤ 100000; omega)) fun p H1 np e1 g1 => ?_
    refine q_while (fun c σ G => σ = [some (.ref d), some (.int n), some (.ref p), none] ∧ Ex H G ∧ ∃ pre a tl, G p = some (.lst (pre.map V.int ++ [.int a])) ∧ pre ++ [a] = n :: tl ∧ tl.Nodup ∧ (∀ b ∈ tl, b ∈ keys M) ∧ pre.length + c = 64 ∧ ringGo M c (pre ++ [a]) (need M a) = ringGo M 64 [n] (need M n))
      64 ⟨rfl, e1, [], n, [], g1, rfl, List.nodup_nil, fun b m => (nomatch m), rfl, rfl⟩ ?_
    rintro c σ G ⟨rfl, eG, pre, a, tl, gp, er, nd, sub, hc, go⟩
    have gd1 := eG _ _ gd
    have lasts : ∀ {σ2 : L2.St} {G2 : Hp}, σ2[2]? = some (some (.ref p)) → G2 p = some (.lst (pre.map V.int ++ [.int a])) → Ev (tOp (rIxL K) (tVar 2) (tUn (rU fun i => .int (-i)) (tC (.int 1)))) σ2 G2 (.int a) := fun h g => ev_op (ev_var h) (ev_un ev_c ru_neg) (rv_ixLast (sq_of g))
    have isin : ∀ {σ2 : L2.St} {G2 : Hp}, σ2[0]? = some (some (.ref d)) → σ2[2]? = some (some (.ref p)) → Ex G G2 → Ev (tDIn (tOp (rIxL K) (tVar 2) (tUn (rU fun i => .int (-i)) (tC (.int 1)))) (tVar 0)) σ2 G2 (.bl (need M a).isSome) := fun h0 h2 e => by
      have r := ev_din (kvs := kvs) (lasts h2 (e _ _ gp)) (ev_var h0) (e _ _ gd1)
      rw [hv a, opt_some] at r
      exact r
    have at_ : ∀ {σ2 : L2.St} {G2 : Hp} {x : Int}, σ2[0]? = some (some (.ref d)) → σ2[2]? = some (some (.ref p)) → Ex G G2 → need M a = some x → Ev (tDGet (tVar 0) (tOp (rIxL K) (tVar 2) (tUn (rU fun i => .int (-i)) (tC (.int 1))))) σ2 G2 (.int x) := fun h0 h2 e hx =>
      ev_dget (kvs := kvs) (ev_var h0) (lasts h2 (e _ _ gp)) (e _ _ gd1) (by rw [hv a, hx]; rfl)
    have eint : pre.map V.int ++ [V.int a] = (pre ++ [a]).map V.int := by rw [List.map_append]; rfl
    have len : (pre ++ [a]).length ≤ 21 := by
      rw [er, List.length_cons]
      have := nodup_len nd sub
      rw [len_keys] at this
      have := W.few
      omega
    have more : ∀ x, need M a = some x → x ∉ pre ++ [a] → c = c - 1 + 1 ∧ ringGo M (c - 1) (pre ++ [a] ++ [x]) (need M x) = ringGo M 64 [n] (need M n) := fun x hx nx => by
      rw [List.length_append] at len
      have e : c = c - 1 + 1 := by simp at len; omega
      refine ⟨e, ?_⟩
      rw [← go, hx]
      conv => rhs; rw [e]
      show _ = if x ∈ pre ++ [a] then _ else _
      rw [if_neg nx]
    refine ⟨(need M a).isSome && !decide ((need M a).getD 0 ∈ pre ++ [a]), et_and (et_test (isin rfl rfl (Ex.refl G))) (fun h => ?_), fun hb G1 e1 => ?_, fun hb G1 e1 => ?_⟩
    · obtain ⟨x, hx⟩ := Option.isSome_iff_exists.mp h
      rw [hx]
      refine et_test (ev_op (at_ rfl rfl (Ex.refl G) hx) (ev_var rfl) (rv_niI (sq_of ?_)))
      rw [gp, eint]
    · rw [Bool.and_eq_true] at hb
      obtain ⟨x, hx⟩ := Option.isSome_iff_exists.mp hb.1
      have nx : x ∉ pre ++ [a] := by
        have := hb.2
        rw [hx] at this
        simpa using this
      obtain ⟨ec, gm⟩ := more x hx nx
      refine ⟨fun σ2 H3 => σ2 = [some (.ref d), some (.int n), some (.ref p), none] ∧ Ex H H3 ∧ H3 p = some (.lst ((pre ++ [a]).map V.int ++ [.int x])), ?_, ?_⟩
      · rintro σ2 H3 ⟨rfl, e3, g3⟩
        refine ⟨c - 1, by omega, rfl, e3, pre ++ [a], x, tl ++ [x], g3, by rw [er]; rfl, ?_, fun b m => ?_, by rw [List.length_append]; simp; omega, gm⟩
        · refine List.nodup_append.mpr ⟨nd, by simp, fun b mb b' mb' => ?_⟩
          have e' : b' = x := by simpa using mb'
          rw [e']
          intro z
          exact nx (by rw [er, ← z]; exact List.mem_cons_of_mem _ mb)
        · rcases List.mem_append.mp m with m | m
          · exact sub b m
          · rw [show b = x by simpa using m]
            exact need_in W hx
      · refine s_app (e1 _ _ gp) (ev_var rfl) (at_ rfl rfl e1 hx) (by simp; simp at len; omega) fun H3 e3 => ⟨rfl, Ex.mut ((eG.trans e1).trans e3) np, ?_⟩
        rw [upd_same, eint]
    · -- the row is whole
      have stop : ringGo M c (pre ++ [a]) (need M a) = (pre ++ [a], need M a) := go_end fun x hx => by
        have h : (true && !decide (x ∈ pre ++ [a])) = false := by rw [hx] at hb; exact hb
        by_cases m : x ∈ pre ++ [a]
        · exact m
        · rw [decide_eq_false m] at h
          cases h
      have er2 : ring M n = if need M a = some n ∧ (pre ++ [a]).all (fun b => decide (n ≤ b)) = true then some (pre ++ [a]) else none := by
        unfold ring
        rw [← go, stop]
      have cl : Ev (tAndV (tDIn (tOp (rIxL K) (tVar 2) (tUn (rU fun i => .int (-i)) (tC (.int 1)))) (tVar 0)) (tOp rEq (tDGet (tVar 0) (tOp (rIxL K) (tVar 2) (tUn (rU fun i => .int (-i)) (tC (.int 1))))) (tVar 1))) [some (.ref d), some (.int n), some (.ref p), none] G1 (.bl (decide (need M a = some n))) := by
        have r := ev_andV (b := decide ((need M a).getD 0 = n)) (isin (G2 := G1) (σ2 := [some (.ref d), some (.int n), some (.ref p), none]) rfl rfl e1) (fun h => by
          obtain ⟨x, hx⟩ := Option.isSome_iff_exists.mp h
          have r := ev_op (at_ (G2 := G1) (σ2 := [some (.ref d), some (.int n), some (.ref p), none]) rfl rfl e1 hx) (ev_var (i := 1) (v := .int n) rfl) (rv_eq rfl)
          rw [dec_int] at r
          rw [hx]
          exact r)
        have e : ((need M a).isSome && decide ((need M a).getD 0 = n)) = decide (need M a = some n) := by
          cases need M a with
          | none => simp
          | some x => simp
        rw [e] at r
        exact r
      refine q_asg cl fun G2 e2 => ?_
      have gp2 : G2 p = some (.lst ((pre ++ [a]).map V.int)) := by rw [← eint]; exact e2 _ _ (e1 _ _ gp)
      have low : EvT (tTest (tOp rEq (tCB (rMin K) (tCons (tVar 2) tNil)) (tVar 1))) [some (.ref d), some (.int n), some (.ref p), some (.bl (decide (need M a = some n)))] G2 ((pre ++ [a]).all fun b => decide (n ≤ b)) := fun H3 e3 Q qq => by
        refine ⟨_, rfl, p, pre ++ [a], rfl, sq_of (e3 _ _ gp2), by simp, fun m mm hm => ⟨_, rfl, rfl, _, rfl, ?_⟩⟩
        have e : decide (V.int m = V.int n) = (pre ++ [a]).all fun b => decide (n ≤ b) := by
          rw [dec_int, Bool.eq_iff_iff, decide_eq_true_iff, List.all_eq_true]
          constructor
          · intro z b mb
            rw [← z]
            exact decide_eq_true (hm b mb)
          · intro h
            have h1 := of_decide_eq_true (h m mm)
            have h2 := hm n (by rw [er]; exact List.mem_cons_self)
            omega
        rw [e]
        exact qq H3 (Ex.refl H3)
      have test := et_and (b := (pre ++ [a]).all fun b => decide (n ≤ b)) (et_B (σ := [some (.ref d), some (.int n), some (.ref p), some (.bl (decide (need M a = some n)))]) (H := G2) (ev_var (i := 3) rfl)) (fun _ => low)
      have eX := (eG.trans e1).trans e2
      refine test G2 (Ex.refl G2) _ fun G3 e3 => ?_
      by_cases z : need M a = some n ∧ (pre ++ [a]).all (fun b => decide (n ≤ b)) = true
      · rw [if_pos z] at er2
        rw [decide_eq_true z.1, z.2]
        refine iteT ⟨_, rfl, q _ G3 (eX.trans e3) ?_⟩
        rw [er2]
        exact .lst (e3 _ _ gp2) (dx_ints _)
      · rw [if_neg z] at er2
        have zb : (decide (need M a = some n) && (pre ++ [a]).all fun b => decide (n ≤ b)) = false := by
          cases h : (decide (need M a = some n) && (pre ++ [a]).all fun b => decide (n ≤ b)) with
          | false => rfl
          | true =>
            rw [Bool.and_eq_true] at h
            exact absurd ⟨of_decide_eq_true h.1, h.2⟩ z
        rw [zb]
        refine iteF (q _ G3 (eX.trans e3) ?_)
        rw [er2]
        exact .non
end
end KB
set_option Elab.async false
set_option linter.all false
set_option maxRecDepth 100000
set_option maxHeartbeats 4000000
namespace L2
open PySem PySem.Spec PyProof.Rows
/-- a dict comprehension over a walk -/
theorem dc_it {J : It} {n : Nat} {G : Hp → Prop} {Y : Nat → Hp → V → Hp → Prop} (w : Walk J n G Y) {g : TG} {tt : TT} {tk tv : TE} {vs : List Nat} {σ : St} {H1 : Hp} {D : Addr} {Qd : Hp → Prop} (Pv : Nat → Hp → Prop) (start : Pv 0 (upd H1 D (.dK []))) (stands : ∀ i H, i ≤ n → Pv i H → G H)
    (turn : ∀ i x H H', i < n → Pv i H → Y i H x H' → g x (wipe σ vs) H' fun σ2 H2 => wipe σ2 vs = wipe σ vs ∧ tt σ2 H2 fun b H3 =>
      if b = true then tk σ2 H3 fun y H4 => tv σ2 H4 fun z H5 => ∃ kvs k, y = kV k ∧ H5 D = some (.dK kvs) ∧ kvs.length < sizeLine ∧ Pv (i + 1) (upd H5 D (.dK (putK kvs k z))) else Pv (i + 1) H3) (done : ∀ H, Pv n H → Qd H) :
    ∃ W : Nat → Nat → Hp → Prop, (∃ m, W 0 m (upd H1 D (.dK []))) ∧ ∀ i m H, W i m H → (J.stop i H ∧ Qd H) ∨ (J.go i H ∧ ∃ Nx : Hp → Prop, (∀ H', Nx H' → ∃ m', m' < m ∧ W (i + 1) m' H') ∧
      ∀ x H', J.yld i H x H' → g x (wipe σ vs) H' fun σ2 H2 => wipe σ2 vs = wipe σ vs ∧ tt σ2 H2 fun b H3 =>
        if b = true then tk σ2 H3 fun y H4 => tv σ2 H4 fun z H5 => ∃ kvs k, y = kV k ∧ H5 D = some (.dK kvs) ∧ kvs.length < sizeLine ∧ Nx (upd H5 D (.dK (putK kvs k z))) else Nx H3) := by
  refine ⟨fun i m H => m + i = n ∧ Pv i H, ⟨n, rfl, start⟩, ?_⟩
  rintro i m H ⟨hm, p⟩
  have q := stands i H (by omega) p
  by_cases lt : i < n
  · exact .inr ⟨w.goes i H lt q, Pv (i + 1), fun H' p' => ⟨n - (i + 1), by omega, by omega, p'⟩, fun x H' y => turn i x H H' lt p (w.yields i H x H' lt q y)⟩
  · obtain rfl : i = n := by omega
    exact .inl ⟨w.stops H q, done H p⟩
end L2
namespace Evl
open PySem L2
/-- a list or a tuple that stands -/
def Sq (K : PySem.W.Frag) (H : Hp) (a : Addr) (xs : List V) : Prop := SqL K H a xs ∨ SqT K H a xs
theorem Sq.mono {K : PySem.W.Frag} {H H' : Hp} {a : Addr} {xs : List V} (e : Ex H H') (h : Sq K H a xs) : Sq K H' a xs := h.imp (ex_l e) (ex_t e)
def iSeq (K : PySem.W.Frag) (tl : TE) : TI := fun σ H R => iList K tl σ H R ∨ iTup K tl σ H R
theorem pi_seq {X : Cx} {tg l : Expr} {tl : TE} (hl : PE X l tl) : PI X tg l (iSeq X.K tl) := pi_or (pi_list hl) (pi_tup hl)
section
variable {K : PySem.W.Frag} {σ : L2.St} {H H' : Hp} {ta tb te tx : TE} {t u : TT} {x y z v : V} {D : Ends} {tz : TS}
theorem rv_ixSq {p : Addr} {xs : List V} {i : Int} (h : Sq K H p xs) (ha : atI xs i = some v) : RV (rIx K) (.ref p) (.int i) H v := fun H1 e Q q =>
  match h with
  | .inl h => .inl ⟨p, xs, i, v, rfl, rfl, ex_l e h, ha, q H1 (Ex.refl H1)⟩
  | .inr h => .inr (.inl ⟨p, xs, i, v, rfl, rfl, ex_t e h, ha, q H1 (Ex.refl H1)⟩)
/-- the list that is made, behind i turns -/
def Made {α : Type} (H1 : Hp) (xs : List α) (p : α → Bool) (g : α → V) (Dl : Addr) (i : Nat) (G : Hp) : Prop := H1 Dl = none ∧ Ex H1 G ∧ G Dl = some (.lst (((xs.take i).filter p).map g))
theorem made_turn {α : Type} {H1 G : Hp} {xs : List α} {p : α → Bool} {g : α → V} {Dl : Addr} {i : Nat} {b : α} {σ2 : L2.St} (m : Made H1 xs p g Dl i G) (hz : xs.length ≤ 40000) (eb : xs[i]? = some b) (ht : EvT t σ2 H1 (p b)) (he : p b = true → Ev te σ2 H1 (g b)) :
    t σ2 G fun c H3 => if c = true then te σ2 H3 fun y H4 => ∃ acc, H4 Dl = some (.lst acc) ∧ acc.length < sizeLine ∧ Made H1 xs p g Dl (i + 1) (upd H4 Dl (.lst (acc ++ [y]))) else Made H1 xs p g Dl (i + 1) H3 := by
  obtain ⟨n1, eG, gD⟩ := m
  have nx : (xs.take (i + 1)).filter p = (xs.take i).filter p ++ if p b = true then [b] else [] := by
    rw [List.take_add_one, eb, List.filter_append]
    show _ ++ List.filter p [b] = _
    cases hp : p b <;> simp [hp]
  refine ht G eG _ fun G2 e2 => ?_
  cases hp : p b with
  | true =>
    refine iteT (he hp G2 (eG.trans e2) _ fun G3 e3 => ⟨_, e3 _ _ (e2 _ _ gD), ?_, n1, Ex.mut (eG.trans (e2.trans e3)) n1, ?_⟩)
    · rw [List.length_map]
      exact sz_lt (by have h1 := List.length_filter_le p (xs.take i); have h2 := List.length_take_le i xs; have h3 := (List.getElem?_eq_some_iff.mp eb).1; omega)
    · rw [upd_same, nx, hp, List.map_append]
      rfl
  | false =>
    refine iteF ⟨n1, eG.trans e2, ?_⟩
    rw [nx, hp]
    simpa using e2 _ _ gD
/-- [e for x in xs if t], a list or a tuple that stands -/
theorem el_lcS {α : Type} {a : Addr} {xs : List α} {tl : TE} {j : Nat} {vs : List Nat} (emb : α → V) (p : α → Bool) (g : α → V) (h : Ev tl σ H (.ref a)) (hx : Sq K H a (xs.map emb)) (hz : xs.length ≤ 40000) (hw : ∀ x, wipe ((wipe σ vs).set j (some x)) vs = wipe σ vs)
    (ht : ∀ b ∈ xs, ∀ H1, Ex H H1 → EvT t ((wipe σ vs).set j (some (emb b))) H1 (p b)) (he : ∀ b ∈ xs, p b = true → ∀ H1, Ex H H1 → Ev te ((wipe σ vs).set j (some (emb b))) H1 (g b)) :
    EvL (tLc (iSeq K tl) (gName j) t te vs) σ H ((xs.filter p).map g) := fun H0 e0 Q q => by
  have len : (xs.map emb).length = xs.length := List.length_map _
  have fin : ∀ {H1 : Hp} {Dl : Addr} {G : Hp}, Ex H0 H1 → Made H1 xs p g Dl (xs.map emb).length G → Q (.ref Dl) G := fun e1 m => by
    obtain ⟨n1, eG, gD⟩ := m
    rw [len, List.take_length] at gD
    exact q _ _ (fresh_back e1 n1) (e1.trans eG) gD
  have at_ : ∀ {i : Nat} {x : V}, (xs.map emb)[i]? = some x → ∃ b, xs[i]? = some b ∧ b ∈ xs ∧ x = emb b := fun {i x} e => by
    rw [List.getElem?_map] at e
    obtain ⟨b, e1, e2⟩ := Option.map_eq_some_iff.mp e
    exact ⟨b, e1, List.mem_of_getElem? e1, e2.symm⟩
  rcases hx with hL | hT
  · refine .inl (h H0 e0 _ fun H1 e1 => ⟨a, rfl, ⟨_, ex_l (e0.trans e1) hL⟩, fun Dl hD => lc_it (walk_list (K := K) (a := a) (xs := xs.map emb)) (Made H1 xs p g Dl) ⟨hD, Ex.new hD, upd_same⟩ (fun i G _ m => ex_l (e0.trans (e1.trans m.2.1)) hL) ?_ fun G m => fin e1 m⟩)
    rintro i x G _ hi m ⟨rfl, ex⟩
    obtain ⟨b, eb, mb, rfl⟩ := at_ ex
    exact ⟨hw _, made_turn m hz eb (ht b mb H1 (e0.trans e1)) (fun hp => he b mb hp H1 (e0.trans e1))⟩
  · refine .inr (h H0 e0 _ fun H1 e1 => ⟨a, rfl, ⟨_, ex_t (e0.trans e1) hT⟩, fun Dl hD => lc_it (walk_tup (K := K) (a := a) (xs := xs.map emb)) (Made H1 xs p g Dl) ⟨hD, Ex.new hD, upd_same⟩ (fun i G _ m => ex_t (e0.trans (e1.trans m.2.1)) hT) ?_ fun G m => fin e1 m⟩)
    rintro i x G _ hi m ⟨rfl, ex⟩
    obtain ⟨b, eb, mb, rfl⟩ := at_ ex
    exact ⟨hw _, made_turn m hz eb (ht b mb H1 (e0.trans e1)) (fun hp => he b mb hp H1 (e0.trans e1))⟩
def MadeD {α : Type} (H1 : Hp) (xs : List α) (kf : α → Int) (vf : α → V) (Dl : Addr) (i : Nat) (G : Hp) : Prop := H1 Dl = none ∧ Ex H1 G ∧ G Dl = some (.dK ((xs.take i).map fun b => (Sum.inl (kf b), vf b)))
theorem val_no {α : Type} (kf : α → Int) (vf : α → V) (n : Int) : ∀ (xs : List α), n ∉ xs.map kf → valV (xs.map fun b => ((Sum.inl (kf b) : Key), vf b)) (Sum.inl n) = none
  | [], _ => rfl
  | b :: xs, h => by
    rw [List.map_cons, List.mem_cons, not_or] at h
    rw [List.map_cons, valV_neg (fun z => h.1 (Sum.inl.inj z).symm)]
    exact val_no kf vf n xs h.2
theorem madeD_turn {α : Type} {H1 G : Hp} {xs : List α} {kf : α → Int} {vf : α → V} {Dl : Addr} {i : Nat} {b : α} {σ2 : L2.St} (nd : (xs.map kf).Nodup) (m : MadeD H1 xs kf vf Dl i G) (hz : xs.length ≤ 40000) (eb : xs[i]? = some b) (hk : Ev ta σ2 H1 (.int (kf b))) (hv : Ev tb σ2 H1 (vf b)) :
    tYes σ2 G fun c H3 => if c = true then ta σ2 H3 fun y H4 => tb σ2 H4 fun z H5 => ∃ kvs k, y = kV k ∧ H5 Dl = some (.dK kvs) ∧ kvs.length < sizeLine ∧ MadeD H1 xs kf vf Dl (i + 1) (upd H5 Dl (.dK (putK kvs k z))) else MadeD H1 xs kf vf Dl (i + 1) H3 := by
  obtain ⟨n1, eG, gD⟩ := m
  refine (show (fun c H3 => ite (c = true) (ta σ2 H3 fun y H4 => tb σ2 H4 fun z H5 => ∃ kvs k, y = kV k ∧ H5 Dl = some (.dK kvs) ∧ kvs.length < sizeLine ∧ MadeD H1 xs kf vf Dl (i + 1) (upd H5 Dl (.dK (putK kvs k z)))) (MadeD H1 xs kf vf Dl (i + 1) H3)) true G from ?_)
  dsimp only
  rw [if_pos rfl]
  refine hk G eG _ fun G2 e2 => hv G2 (eG.trans e2) _ fun G3 e3 => ⟨_, Sum.inl (kf b), rfl, e3 _ _ (e2 _ _ gD), ?_, n1, Ex.mut (eG.trans (e2.trans e3)) n1, ?_⟩
  · rw [List.length_map]
    exact sz_lt (by have h2 := List.length_take_le i xs; have h3 := (List.getElem?_eq_some_iff.mp eb).1; omega)
  · have no : kf b ∉ (xs.take i).map kf := fun mb => by
      rw [KB.split_at eb, List.map_append, List.map_cons, List.nodup_append] at nd
      exact nd.2.2 _ mb _ List.mem_cons_self rfl
    rw [upd_same, putK_new _ (val_no kf vf _ _ no), List.take_add_one, eb, List.map_append]
    rfl
/-- {k: v for x in xs}, a list or a tuple that stands, the keys different ints -/
theorem ed_dcS {α : Type} {a : Addr} {xs : List α} {tl : TE} {j : Nat} {vs : List Nat} (emb : α → V) (kf : α → Int) (vf : α → V) (nd : (xs.map kf).Nodup) (h : Ev tl σ H (.ref a)) (hx : Sq K H a (xs.map emb)) (hz : xs.length ≤ 40000) (hw : ∀ x, wipe ((wipe σ vs).set j (some x)) vs = wipe σ vs)
    (hk : ∀ b ∈ xs, ∀ H1, Ex H H1 → Ev ta ((wipe σ vs).set j (some (emb b))) H1 (.int (kf b))) (hv : ∀ b ∈ xs, ∀ H1, Ex H H1 → Ev tb ((wipe σ vs).set j (some (emb b))) H1 (vf b)) :
    EvD (tDc (iSeq K tl) (gName j) tYes ta tb vs) σ H (xs.map fun b => (Sum.inl (kf b), vf b)) := fun H0 e0 Q q => by
  have len : (xs.map emb).length = xs.length := List.length_map _
  have fin : ∀ {H1 : Hp} {Dl : Addr} {G : Hp}, Ex H0 H1 → MadeD H1 xs kf vf Dl (xs.map emb).length G → Q (.ref Dl) G := fun e1 m => by
    obtain ⟨n1, eG, gD⟩ := m
    rw [len, List.take_length] at gD
    exact q _ _ (fresh_back e1 n1) (e1.trans eG) gD
  have at_ : ∀ {i : Nat} {x : V}, (xs.map emb)[i]? = some x → ∃ b, xs[i]? = some b ∧ b ∈ xs ∧ x = emb b := fun {i x} e => by
    rw [List.getElem?_map] at e
    obtain ⟨b, e1, e2⟩ := Option.map_eq_some_iff.mp e
    exact ⟨b, e1, List.mem_of_getElem? e1, e2.symm⟩
  rcases hx with hL | hT
  · refine .inl (h H0 e0 _ fun H1 e1 => ⟨a, rfl, ⟨_, ex_l (e0.trans e1) hL⟩, fun Dl hD => dc_it (walk_list (K := K) (a := a) (xs := xs.map emb)) (MadeD H1 xs kf vf Dl) ⟨hD, Ex.new hD, upd_same⟩ (fun i G _ m => ex_l (e0.trans (e1.trans m.2.1)) hL) ?_ fun G m => fin e1 m⟩)
    rintro i x G _ hi m ⟨rfl, ex⟩
    obtain ⟨b, eb, mb, rfl⟩ := at_ ex
    exact ⟨hw _, madeD_turn nd m hz eb (hk b mb H1 (e0.trans e1)) (hv b mb H1 (e0.trans e1))⟩
  · refine .inr (h H0 e0 _ fun H1 e1 => ⟨a, rfl, ⟨_, ex_t (e0.trans e1) hT⟩, fun Dl hD => dc_it (walk_tup (K := K) (a := a) (xs := xs.map emb)) (MadeD H1 xs kf vf Dl) ⟨hD, Ex.new hD, upd_same⟩ (fun i G _ m => ex_t (e0.trans (e1.trans m.2.1)) hT) ?_ fun G m => fin e1 m⟩)
    rintro i x G _ hi m ⟨rfl, ex⟩
    obtain ⟨b, eb, mb, rfl⟩ := at_ ex
    exact ⟨hw _, madeD_turn nd m hz eb (hk b mb H1 (e0.trans e1)) (hv b mb H1 (e0.trans e1))⟩
end
end Evl
set_option Elab.async false
set_option linter.all false
set_option maxRecDepth 100000
set_option maxHeartbeats 4000000
namespace Evl
open PySem L2
section
variable {K : PySem.W.Frag} {σ : L2.St} {H H' G : Hp} {ta tb te tx : TE} {t u : TT} {x y z v : V} {D : Ends} {tz : TS} {P : V → Hp → Prop}
theorem Ev.toP (h : Ev te σ H v) : EvP te σ H (fun u _ => u = v) := fun H1 e Q q => h H1 e _ fun H2 e2 => q v H2 e2 rfl
theorem EvL.toP {xs : List V} (h : EvL te σ H xs) : EvP te σ H (fun u G => ∃ p, u = .ref p ∧ H p = none ∧ G p = some (.lst xs)) := fun H1 e Q q => h H1 e _ fun p H2 np e2 g => q _ H2 e2 ⟨p, rfl, fresh_back e np, g⟩
theorem EvD.toP {kvs : List (Key × V)} (h : EvD te σ H kvs) : EvP te σ H (fun u G => ∃ p, u = .ref p ∧ H p = none ∧ G p = some (.dK kvs)) := fun H1 e Q q => h H1 e _ fun p H2 np e2 g => q _ H2 e2 ⟨p, rfl, fresh_back e np, g⟩
/-- self.f = e -/
theorem s_fld {f : Str} {p C dx : Addr} {fs : List (Str × V)} {i : Nat} (h : EvP te σ G P) (hi : σ[i]? = some (some (.ref p))) (gp : G p = some (.ins C dx fs)) (c : Cls K C) (n : NoAttr K C f) (hl : fs.length < 1000) (k : ∀ y G1, Ex G G1 → P y G1 → D.nx σ (upd G1 p (.ins C dx (putF f y fs)))) : sFld K (tVar i) te f D σ G :=
  h G (Ex.refl G) _ fun y G1 e1 g => ⟨_, hi, p, C, dx, fs, rfl, e1 _ _ gp, c, n, hl, k y G1 e1 g⟩
theorem q_fld {f : Str} {p C dx : Addr} {fs : List (Str × V)} {i : Nat} (h : EvP te σ G P) (hi : σ[i]? = some (some (.ref p))) (gp : G p = some (.ins C dx fs)) (c : Cls K C) (n : NoAttr K C f) (hl : fs.length < 1000) (k : ∀ y G1, Ex G G1 → P y G1 → tz D σ (upd G1 p (.ins C dx (putF f y fs)))) : tSeq (sFld K (tVar i) te f) tz D σ G :=
  s_fld (D := { D with nx := tz D }) h hi gp c n hl k
theorem q_dput {d : Addr} {kvs : List (Key × V)} {i : Int} (hv : Ev te σ H v) (hd : Ev ta σ H (.ref d)) (hk : Ev tb σ H (.int i)) (e0 : H d = some (.dK kvs)) (hl : kvs.length < 100000) (k : ∀ H1, Ex H H1 → tz D σ (upd H1 d (.dK (putK kvs (Sum.inl i) v)))) : tSeq (sDPut ta tb te) tz D σ H := s_dput (D := { D with nx := tz D }) hv hd hk e0 hl k
end
end Evl
namespace KB
open PySem PySem.Spec PyProof.Rows L2 Evl
abbrev sInit : Stmt := inClass (topS 2) 0
abbrev nInit : List Str := ["self", "image", "processes", "row"]
theorem scInit : FnScope nInit ["self", "image"] (defScope sInit) := ⟨rfl, rfl, rfl, by decide +kernel, rfl, by decide +kernel, by decide +kernel⟩
/-- what is not p stays -/
def Off (p : Addr) (H H' : Hp) : Prop := ∀ b o, b ≠ p → H b = some o → H' b = some o
theorem Off.ex {p : Addr} {H G G' : Hp} (a : Off p H G) (e : Ex G G') : Off p H G' := fun b o n h => e _ _ (a b o n h)
theorem Off.put {p : Addr} {H G : Hp} {o : HO} (a : Off p H G) : Off p H (upd G p o) := fun b u n h => by rw [upd_ne n]; exact a b u n h
/-- an image: tuples or lists -/
def ImgAt (H : Hp) (v : V) (M : Fam) : Prop := ∃ (a : Addr) (xs : List V) (b : Addr) (L : List (Rw × V)), v = .ref a ∧ (H a = some (.tup xs) ∨ H a = some (.lst xs)) ∧ xs[0]? = some (.ref b) ∧ (H b = some (.tup (L.map (·.2))) ∨ H b = some (.lst (L.map (·.2)))) ∧ L.map (·.1) = M ∧ ∀ q ∈ L, RowAt H q.2 q.1
theorem ImgAt.mono {H H' : Hp} {v : V} {M : Fam} (e : Ex H H') (h : ImgAt H v M) : ImgAt H' v M := by
  obtain ⟨a, xs, b, L, h1, h2, h3, h4, h5, h6⟩ := h
  exact ⟨a, xs, b, L, h1, h2.imp (e _ _) (e _ _), h3, h4.imp (e _ _) (e _ _), h5, fun q m => (h6 q m).mono e⟩
def spInit (C : Addr) : Sp := fun vs H Q _ => ∃ (p dx : Addr) (img : V) (M : Fam), vs = [.ref p, img] ∧ H p = some (.ins C dx []) ∧ ImgAt H img M ∧ WF M ∧ ∀ H', Off p H H' → Kn H' C p M → Q .non H'
theorem sq_any {K : PySem.W.Frag} {H : Hp} {a : Addr} {xs : List V} (h : H a = some (.tup xs) ∨ H a = some (.lst xs)) : Sq K H a xs := h.elim (fun h => .inr (st_of h)) fun h => .inl (sq_of h)
theorem row_ix {K : PySem.W.Frag} {G : Hp} {σ : L2.St} {v : V} {r : Rw} {i : Nat} {z : V} (h : RowAt G v r) (j : Nat) (hj : σ[j]? = some (some v))
    (hz : (i = 0 ∧ z = .int r.n) ∨ (i = 1 ∧ z = if r.up = 1 then .non else .int r.up) ∨ (i = 2 ∧ z = .int r.s) ∨ (i = 3 ∧ z = .int r.g) ∨ (i = 4 ∧ z = .bl r.ad) ∨ (i = 5 ∧ z = .str (wordOf r.w))) : Ev (tOp (rIx K) (tVar j) (tC (.int (i : Int)))) σ G z := by
  obtain ⟨a, xs, rfl, h1, h2, h3, h4, h5, h6, h7, h8⟩ := h
  refine ev_op (ev_var hj) ev_c (rv_ixSq (sq_any h1) (atI_nat ?_))
  rcases hz with ⟨rfl, rfl⟩ | ⟨rfl, rfl⟩ | ⟨rfl, rfl⟩ | ⟨rfl, rfl⟩ | ⟨rfl, rfl⟩ | ⟨rfl, rfl⟩ <;> assumption
theorem val_map {α : Type} (kf : α → Int) (vf : α → V) : ∀ (xs : List α), (xs.map kf).Nodup → ∀ b ∈ xs, valV (xs.map fun b => ((Sum.inl (kf b) : Key), vf b)) (Sum.inl (kf b)) = some (vf b)
  | [], _, b, m => nomatch m
  | x :: xs, nd, b, m => by
    rw [List.map_cons, List.nodup_cons] at nd
    rw [List.map_cons]
    rcases List.mem_cons.mp m with m | m
    · rw [m, valV_pos rfl]
    · rw [valV_neg (fun z => nd.1 (by rw [Sum.inl.inj z]; exact List.mem_map_of_mem m))]
      exact val_map kf vf xs nd.2 b m
theorem look_L {L : List (Rw × V)} {M : Fam} (e : L.map (·.1) = M) {n : Int} (h : n ∈ keys M) : ∃ q ∈ L, q.1.n = n := by
  obtain ⟨r, m, rfl⟩ := List.mem_map.mp h
  rw [← e] at m
  obtain ⟨q, mq, rfl⟩ := List.mem_map.mp m
  exact ⟨q, mq, rfl⟩
section
variable {P : Program} {w : World} {K : PySem.W.Frag} {mg : Str → Option Value} {base : Heap} {f : Addr} {fd : FuncData} {C : Addr}
theorem ok_init {t0 : Tok} (F : Fun K "__init__" "Kin.__init__" sInit f fd) (T : KT K C) (m1 : mg "FIRST" = some (.int 1 t0)) : FnOk P w K mg base CX0 1 f fd ["self", "image"] (spInit C) := by
  refine F.ok scInit (fun vs H Q E h => ?_) (fun cdv A outer s H vs Q E hr h => ?_)
  · obtain ⟨p, dx, img, M, rfl, _⟩ := h
    rfl
  · obtain ⟨p, dx, img, M, rfl, gp, ⟨a, xs, b, L, rfl, ga, xb, gb, eL, rows⟩, W, q⟩ := h
    have hu := hu_of hr
    refine ⟨_, pss_cons (ps_set (i := 2) scInit.nd rfl (.inl rfl) (pe_ix ix_seq (pv 1) pe_int (fun _ _ => rfl)))
      (pss_cons (ps_fld (pv 0) (pe_dc (own := [("row", 3)]) (g := gName 3) (tt := tYes) (tk := tOp (rIx K) (tVar 3) (tC (.int 0))) (tv := tVar 3) rfl scInit.nd (pi_seq (pv 2)) (blkOk_by (N := nInit) (sc := defScope sInit) (by decide +kernel)) (fun _ _ _ _ _ => pg_name (i := 3) scInit.nd rfl (Or.inl rfl)) (fun _ _ _ _ _ => pts_nil) (fun _ _ _ _ _ => pe_ix ix_seq (pv 3) pe_int (fun _ _ => rfl)) (fun _ _ _ _ _ => pv 3)) rfl)
      (pss_cons (ps_fld (pv 0) (pe_lc (own := [("row", 3)]) (g := gName 3) (tt := tYes) (te := tOp (rIx K) (tVar 3) (tC (.int 0))) rfl scInit.nd (pi_seq (pv 2)) (blkOk_by (N := nInit) (sc := defScope sInit) (by decide +kernel)) (fun _ _ _ _ _ => pg_name (i := 3) scInit.nd rfl (Or.inl rfl)) (fun _ _ _ _ _ => pts_nil) (fun _ _ _ _ _ => pe_ix ix_seq (pv 3) pe_int (fun _ _ => rfl))) rfl)
      (pss_cons (ps_fld (pv 0) (pe_dc (own := [("row", 3)]) (g := gName 3) (tt := tYes) (tk := tOp (rIx K) (tVar 3) (tC (.int 0))) (tv := tIf (tTest (tIsN (tOp (rIx K) (tVar 3) (tC (.int 1))))) (tC (.int 1)) (tOp (rIx K) (tVar 3) (tC (.int 1)))) rfl scInit.nd (pi_seq (pv 2)) (blkOk_by (N := nInit) (sc := defScope sInit) (by decide +kernel)) (fun _ _ _ _ _ => pg_name (i := 3) scInit.nd rfl (Or.inl rfl)) (fun _ _ _ _ _ => pts_nil) (fun _ _ _ _ _ => pe_ix ix_seq (pv 3) pe_int (fun _ _ => rfl))
          (fun _ _ _ _ _ => pe_ifExp (pt_cmp (pc_isN (pe_ix ix_seq (pv 3) pe_int (fun _ _ => rfl)))) (pe_glob (v := .int 1) rfl m1 ⟨_, rfl⟩) (pe_ix ix_seq (pv 3) pe_int (fun _ _ => rfl)))) rfl)
      (pss_cons (ps_fld (pv 0) (pe_dc (own := [("row", 3)]) (g := gName 3) (tt := tYes) (tk := tOp (rIx K) (tVar 3) (tC (.int 0))) (tv := tOp (rIx K) (tVar 3) (tC (.int 2))) rfl scInit.nd (pi_seq (pv 2)) (blkOk_by (N := nInit) (sc := defScope sInit) (by decide +kernel)) (fun _ _ _ _ _ => pg_name (i := 3) scInit.nd rfl (Or.inl rfl)) (fun _ _ _ _ _ => pts_nil) (fun _ _ _ _ _ => pe_ix ix_seq (pv 3) pe_int (fun _ _ => rfl)) (fun _ _ _ _ _ => pe_ix ix_seq (pv 3) pe_int (fun _ _ => rfl))) rfl)
      (pss_cons (ps_fld (pv 0) (pe_dc (own := [("row", 3)]) (g := gName 3) (tt := tYes) (tk := tOp (rIx K) (tVar 3) (tC (.int 0))) (tv := tOp (rIx K) (tVar 3) (tC (.int 3))) rfl scInit.nd (pi_seq (pv 2)) (blkOk_by (N := nInit) (sc := defScope sInit) (by decide +kernel)) (fun _ _ _ _ _ => pg_name (i := 3) scInit.nd rfl (Or.inl rfl)) (fun _ _ _ _ _ => pts_nil) (fun _ _ _ _ _ => pe_ix ix_seq (pv 3) pe_int (fun _ _ => rfl)) (fun _ _ _ _ _ => pe_ix ix_seq (pv 3) pe_int (fun _ _ => rfl))) rfl)
      (pss_cons (ps_fld (pv 0) (pe_dc (own := [("row", 3)]) (g := gName 3) (tt := tYes) (tk := tOp (rIx K) (tVar 3) (tC (.int 0))) (tv := tOp (rIx K) (tVar 3) (tC (.int 4))) rfl scInit.nd (pi_seq (pv 2)) (blkOk_by (N := nInit) (sc := defScope sInit) (by decide +kernel)) (fun _ _ _ _ _ => pg_name (i := 3) scInit.nd rfl (Or.inl rfl)) (fun _ _ _ _ _ => pts_nil) (fun _ _ _ _ _ => pe_ix ix_seq (pv 3) pe_int (fun _ _ => rfl)) (fun _ _ _ _ _ => pe_ix ix_seq (pv 3) pe_int (fun _ _ => rfl))) rfl)
      (pss_cons (ps_dput hu (pe_fld (pv 0) rfl) (pe_glob (v := .int 1) rfl m1 ⟨_, rfl⟩) (pe_glob (v := .int 1) rfl m1 ⟨_, rfl⟩) rfl)
      (pss_cons (ps_dput hu (pe_fld (pv 0) rfl) (pe_glob (v := .int 1) rfl m1 ⟨_, rfl⟩) (pe_glob (v := .int 1) rfl m1 ⟨_, rfl⟩) rfl)
      (pss_cons (ps_dput hu (pe_fld (pv 0) rfl) (pe_glob (v := .int 1) rfl m1 ⟨_, rfl⟩) pe_bl rfl)
      (pss_one (ps_fld (pv 0) (pe_ix ix_list (pe_lc (own := [("row", 3)]) (g := gName 3) (tt := tTest (tIsN (tOp (rIx K) (tVar 3) (tC (.int 1))))) (te := tOp (rIx K) (tVar 3) (tC (.int 0))) rfl scInit.nd (pi_seq (pv 2)) (blkOk_by (N := nInit) (sc := defScope sInit) (by decide +kernel)) (fun _ _ _ _ _ => pg_name (i := 3) scInit.nd rfl (Or.inl rfl)) (fun _ _ _ _ _ => pts_one (pt_cmp (pc_isN (pe_ix ix_seq (pv 3) pe_int (fun _ _ => rfl))))) (fun _ _ _ _ _ => pe_ix ix_seq (pv 3) pe_int (fun _ _ => rfl))) pe_int (fun _ _ => rfl)) rfl))))))))))), ?_⟩
    have nep : ∀ {c : Addr} {o : HO}, H c = some o → (∀ fs, o ≠ .ins C dx fs) → c ≠ p := fun h n z => by
      rw [z, gp] at h
      exact n _ (Option.some.inj h).symm
    have pa : a ≠ p := ga.elim (fun h => nep h fun _ => by intro z; cases z) fun h => nep h fun _ => by intro z; cases z
    have pb : b ≠ p := gb.elim (fun h => nep h fun _ => by intro z; cases z) fun h => nep h fun _ => by intro z; cases z
    have rowsG : ∀ {G : Hp}, Off p H G → ∀ r ∈ L, RowAt G r.2 r.1 := fun o r m => by
      obtain ⟨c, ys, e1, e2, e3⟩ := rows r m
      have pc : c ≠ p := e2.elim (fun h => nep h fun _ => by intro z; cases z) fun h => nep h fun _ => by intro z; cases z
      exact ⟨c, ys, e1, e2.imp (o _ _ pc) (o _ _ pc), e3⟩
    have procs : ∀ {G : Hp}, Off p H G → Sq K G b (L.map (·.2)) := fun o => sq_any (gb.imp (o _ _ pb) (o _ _ pb))
    have few : L.length ≤ 40000 := by
      have e := congrArg List.length eL
      rw [List.length_map] at e
      have := W.few
      omega
    have nd : (L.map fun r => r.1.n).Nodup := by
      have e : (L.map fun r => r.1.n) = keys M := by
        unfold keys
        rw [← eL, List.map_map]
        rfl
      rw [e]
      exact W.asc.imp fun h => Int.ne_of_lt h
    have inM : ∀ r ∈ L, r.1 ∈ M := fun r m => by rw [← eL]; exact List.mem_map_of_mem (f := fun r : Rw × V => r.1) m
    -- processes
    refine q_asg (ev_op (ev_var rfl) ev_c (rv_ixSq (sq_any ga) (atI_nat (j := 0) xb))) fun G0 e0 => ?_
    have o0 : Off p H G0 := fun c o _ h => e0 _ _ h
    have dcs : ∀ {G : Hp} (o : Off p H G) (tv : TE) (vf : Rw × V → V), (∀ r ∈ L, ∀ H1, Ex G H1 → Ev tv ((wipe [some (.ref p), some (.ref a), some (.ref b), none] [3]).set 3 (some r.2)) H1 (vf r)) →
        EvD (tDc (iSeq K (tVar 2)) (gName 3) tYes (tOp (rIx K) (tVar 3) (tC (.int 0))) tv [3]) [some (.ref p), some (.ref a), some (.ref b), none] G (L.map fun r => (Sum.inl r.1.n, vf r)) := fun o tv vf hv =>
      ed_dcS (fun r : Rw × V => r.2) (fun r => r.1.n) vf nd (ev_var rfl) (procs o) few (fun x => rfl) (fun r m H1 e1 => row_ix (i := 0) (rowsG (o.ex e1) r m) 3 rfl (.inl ⟨rfl, rfl⟩)) hv
    -- rows
    refine q_fld (dcs o0 (tVar 3) (fun r => r.2) fun r m H1 e1 => ev_var rfl).toP rfl (e0 _ _ gp) T.cls T.n1 (by show 0 < 1000; decide) fun y G1 e1 hy => ?_
    obtain ⟨a1, rfl, n1, g1⟩ := hy
    have p1 : a1 ≠ p := fun z => by rw [z, e0 _ _ gp] at n1; cases n1
    have o1 : Off p H (upd G1 p (.ins C dx (putF "rows" (.ref a1) []))) := (o0.ex e1).put
    have i1 : upd G1 p (.ins C dx (putF "rows" (.ref a1) [])) p = some (.ins C dx [("rows", .ref a1)]) := upd_same
    have h1 : upd G1 p (.ins C dx (putF "rows" (.ref a1) [])) a1 = _ := (upd_ne p1).trans g1
    generalize upd G1 p (.ins C dx (putF "rows" (.ref a1) [])) = J1 at o1 i1 h1 ⊢
    have H1_1 := h1
    have lcM := el_lcS (K := K) (te := tOp (rIx K) (tVar 3) (tC (.int 0))) (t := tYes) (tl := tVar 2) (σ := [some (.ref p), some (.ref a), some (.ref b), none]) (j := 3) (vs := [3]) (fun r : Rw × V => r.2) (fun _ => true) (fun r => V.int r.1.n) (ev_var rfl) (procs o1) few (fun x => rfl) (fun _ _ _ _ => et_yes) (fun r m _ H1 e1 => row_ix (i := 0) (rowsG (o1.ex e1) r m) 3 rfl (.inl ⟨rfl, rfl⟩))
    have eM : (L.filter fun _ => true).map (fun r => V.int r.1.n) = (keys M).map V.int := by
      rw [Evl.filter_all]
      unfold keys
      rw [← eL, List.map_map, List.map_map]
      rfl
    rw [eM] at lcM
    refine q_fld lcM.toP rfl i1 T.cls T.n2 (by show 1 < 1000; decide) fun y G2 e2 hy => ?_
    obtain ⟨a2, rfl, n2, g2⟩ := hy
    have p2 : a2 ≠ p := fun z => by rw [z, i1] at n2; cases n2
    have o2 : Off p H (upd G2 p (.ins C dx (putF "members" (.ref a2) [("rows", .ref a1)]))) := (o1.ex e2).put
    have i2 : upd G2 p (.ins C dx (putF "members" (.ref a2) [("rows", .ref a1)])) p = some (.ins C dx [("rows", .ref a1), ("members", .ref a2)]) := upd_same
    replace h1 : upd G2 p (.ins C dx (putF "members" (.ref a2) [("rows", .ref a1)])) a1 = _ := (upd_ne p1).trans (e2 _ _ h1)
    have q2_1 : a2 ≠ a1 := fun z => by
      have hz := n2
      rw [z, H1_1] at hz
      cases hz
    have h2 : upd G2 p (.ins C dx (putF "members" (.ref a2) [("rows", .ref a1)])) a2 = _ := (upd_ne p2).trans g2
    generalize upd G2 p (.ins C dx (putF "members" (.ref a2) [("rows", .ref a1)])) = J2 at o2 i2 h1 h2 ⊢
    have H1_2 := h1
    have H2_2 := h2
    refine q_fld (dcs o2 _ (fun r => .int r.1.up) fun r m H1 e1 => (by
      have R := rowsG (o2.ex e1) r m
      have c := row_ix (K := K) (σ := (wipe [some (.ref p), some (.ref a), some (.ref b), none] [3]).set 3 (some r.2)) (i := 1) R 3 rfl (.inr (.inl ⟨rfl, rfl⟩))
      by_cases z : r.1.up = 1
      · rw [if_pos z] at c
        rw [z]
        exact ev_if (b := true) (et_test (ev_is (ev_isN c) (by rfl))) (fun _ => ev_c) (fun h => nomatch h)
      · rw [if_neg z] at c
        exact ev_if (b := false) (et_test (ev_is (ev_isN c) (by rfl))) (fun h => nomatch h) (fun _ => c))).toP rfl i2 T.cls T.n3 (by show 2 < 1000; decide) fun y G3 e3 hy => ?_
    obtain ⟨a3, rfl, n3, g3⟩ := hy
    have p3 : a3 ≠ p := fun z => by rw [z, i2] at n3; cases n3
    have o3 : Off p H (upd G3 p (.ins C dx (putF "parents" (.ref a3) [("rows", .ref a1), ("members", .ref a2)]))) := (o2.ex e3).put
    have i3 : upd G3 p (.ins C dx (putF "parents" (.ref a3) [("rows", .ref a1), ("members", .ref a2)])) p = some (.ins C dx [("rows", .ref a1), ("members", .ref a2), ("parents", .ref a3)]) := upd_same
    replace h1 : upd G3 p (.ins C dx (putF "parents" (.ref a3) [("rows", .ref a1), ("members", .ref a2)])) a1 = _ := (upd_ne p1).trans (e3 _ _ h1)
    have q3_1 : a3 ≠ a1 := fun z => by
      have hz := n3
      rw [z, H1_2] at hz
      cases hz
    replace h2 : upd G3 p (.ins C dx (putF "parents" (.ref a3) [("rows", .ref a1), ("members", .ref a2)])) a2 = _ := (upd_ne p2).trans (e3 _ _ h2)
    have q3_2 : a3 ≠ a2 := fun z => by
      have hz := n3
      rw [z, H2_2] at hz
      cases hz
    have h3 : upd G3 p (.ins C dx (putF "parents" (.ref a3) [("rows", .ref a1), ("members", .ref a2)])) a3 = _ := (upd_ne p3).trans g3
    generalize upd G3 p (.ins C dx (putF "parents" (.ref a3) [("rows", .ref a1), ("members", .ref a2)])) = J3 at o3 i3 h1 h2 h3 ⊢
    have H1_3 := h1
    have H2_3 := h2
    have H3_3 := h3
    refine q_fld (dcs o3 _ (fun r => .int r.1.s) fun r m H1 e1 => row_ix (i := 2) (rowsG (o3.ex e1) r m) 3 rfl (.inr (.inr (.inl ⟨rfl, rfl⟩)))).toP rfl i3 T.cls T.n4 (by show 3 < 1000; decide) fun y G4 e4 hy => ?_
    obtain ⟨a4, rfl, n4, g4⟩ := hy
    have p4 : a4 ≠ p := fun z => by rw [z, i3] at n4; cases n4
    have o4 : Off p H (upd G4 p (.ins C dx (putF "sessions" (.ref a4) [("rows", .ref a1), ("members", .ref a2), ("parents", .ref a3)]))) := (o3.ex e4).put
    have i4 : upd G4 p (.ins C dx (putF "sessions" (.ref a4) [("rows", .ref a1), ("members", .ref a2), ("parents", .ref a3)])) p = some (.ins C dx [("rows", .ref a1), ("members", .ref a2), ("parents", .ref a3), ("sessions", .ref a4)]) := upd_same
    replace h1 : upd G4 p (.ins C dx (putF "sessions" (.ref a4) [("rows", .ref a1), ("members", .ref a2), ("parents", .ref a3)])) a1 = _ := (upd_ne p1).trans (e4 _ _ h1)
    have q4_1 : a4 ≠ a1 := fun z => by
      have hz := n4
      rw [z, H1_3] at hz
      cases hz
    replace h2 : upd G4 p (.ins C dx (putF "sessions" (.ref a4) [("rows", .ref a1), ("members", .ref a2), ("parents", .ref a3)])) a2 = _ := (upd_ne p2).trans (e4 _ _ h2)
    have q4_2 : a4 ≠ a2 := fun z => by
      have hz := n4
      rw [z, H2_3] at hz
      cases hz
    replace h3 : upd G4 p (.ins C dx (putF "sessions" (.ref a4) [("rows", .ref a1), ("members", .ref a2), ("parents", .ref a3)])) a3 = _ := (upd_ne p3).trans (e4 _ _ h3)
    have q4_3 : a4 ≠ a3 := fun z => by
      have hz := n4
      rw [z, H3_3] at hz
      cases hz
    have h4 : upd G4 p (.ins C dx (putF "sessions" (.ref a4) [("rows", .ref a1), ("members", .ref a2), ("parents", .ref a3)])) a4 = _ := (upd_ne p4).trans g4
    generalize upd G4 p (.ins C dx (putF "sessions" (.ref a4) [("rows", .ref a1), ("members", .ref a2), ("parents", .ref a3)])) = J4 at o4 i4 h1 h2 h3 h4 ⊢
    have H1_4 := h1
    have H2_4 := h2
    have H3_4 := h3
    have H4_4 := h4
    refine q_fld (dcs o4 _ (fun r => .int r.1.g) fun r m H1 e1 => row_ix (i := 3) (rowsG (o4.ex e1) r m) 3 rfl (.inr (.inr (.inr (.inl ⟨rfl, rfl⟩))))).toP rfl i4 T.cls T.n5 (by show 4 < 1000; decide) fun y G5 e5 hy => ?_
    obtain ⟨a5, rfl, n5, g5⟩ := hy
    have p5 : a5 ≠ p := fun z => by rw [z, i4] at n5; cases n5
    have o5 : Off p H (upd G5 p (.ins C dx (putF "groups" (.ref a5) [("rows", .ref a1), ("members", .ref a2), ("parents", .ref a3), ("sessions", .ref a4)]))) := (o4.ex e5).put
    have i5 : upd G5 p (.ins C dx (putF "groups" (.ref a5) [("rows", .ref a1), ("members", .ref a2), ("parents", .ref a3), ("sessions", .ref a4)])) p = some (.ins C dx [("rows", .ref a1), ("members", .ref a2), ("parents", .ref a3), ("sessions", .ref a4), ("groups", .ref a5)]) := upd_same
    replace h1 : upd G5 p (.ins C dx (putF "groups" (.ref a5) [("rows", .ref a1), ("members", .ref a2), ("parents", .ref a3), ("sessions", .ref a4)])) a1 = _ := (upd_ne p1).trans (e5 _ _ h1)
    have q5_1 : a5 ≠ a1 := fun z => by
      have hz := n5
      rw [z, H1_4] at hz
      cases hz
    replace h2 : upd G5 p (.ins C dx (putF "groups" (.ref a5) [("rows", .ref a1), ("members", .ref a2), ("parents", .ref a3), ("sessions", .ref a4)])) a2 = _ := (upd_ne p2).trans (e5 _ _ h2)
    have q5_2 : a5 ≠ a2 := fun z => by
      have hz := n5
      rw [z, H2_4] at hz
      cases hz
    replace h3 : upd G5 p (.ins C dx (putF "groups" (.ref a5) [("rows", .ref a1), ("members", .ref a2), ("parents", .ref a3), ("sessions", .ref a4)])) a3 = _ := (upd_ne p3).trans (e5 _ _ h3)
    have q5_3 : a5 ≠ a3 := fun z => by
      have hz := n5
      rw [z, H3_4] at hz
      cases hz
    replace h4 : upd G5 p (.ins C dx (putF "groups" (.ref a5) [("rows", .ref a1), ("members", .ref a2), ("parents", .ref a3), ("sessions", .ref a4)])) a4 = _ := (upd_ne p4).trans (e5 _ _ h4)
    have q5_4 : a5 ≠ a4 := fun z => by
      have hz := n5
      rw [z, H4_4] at hz
      cases hz
    have h5 : upd G5 p (.ins C dx (putF "groups" (.ref a5) [("rows", .ref a1), ("members", .ref a2), ("parents", .ref a3), ("sessions", .ref a4)])) a5 = _ := (upd_ne p5).trans g5
    generalize upd G5 p (.ins C dx (putF "groups" (.ref a5) [("rows", .ref a1), ("members", .ref a2), ("parents", .ref a3), ("sessions", .ref a4)])) = J5 at o5 i5 h1 h2 h3 h4 h5 ⊢
    have H1_5 := h1
    have H2_5 := h2
    have H3_5 := h3
    have H4_5 := h4
    have H5_5 := h5
    refine q_fld (dcs o5 _ (fun r => .bl r.1.ad) fun r m H1 e1 => row_ix (i := 4) (rowsG (o5.ex e1) r m) 3 rfl (.inr (.inr (.inr (.inr (.inl ⟨rfl, rfl⟩)))))).toP rfl i5 T.cls T.n6 (by show 5 < 1000; decide) fun y G6 e6 hy => ?_
    obtain ⟨a6, rfl, n6, g6⟩ := hy
    have p6 : a6 ≠ p := fun z => by rw [z, i5] at n6; cases n6
    have o6 : Off p H (upd G6 p (.ins C dx (putF "adopting" (.ref a6) [("rows", .ref a1), ("members", .ref a2), ("parents", .ref a3), ("sessions", .ref a4), ("groups", .ref a5)]))) := (o5.ex e6).put
    have i6 : upd G6 p (.ins C dx (putF "adopting" (.ref a6) [("rows", .ref a1), ("members", .ref a2), ("parents", .ref a3), ("sessions", .ref a4), ("groups", .ref a5)])) p = some (.ins C dx [("rows", .ref a1), ("members", .ref a2), ("parents", .ref a3), ("sessions", .ref a4), ("groups", .ref a5), ("adopting", .ref a6)]) := upd_same
    replace h1 : upd G6 p (.ins C dx (putF "adopting" (.ref a6) [("rows", .ref a1), ("members", .ref a2), ("parents", .ref a3), ("sessions", .ref a4), ("groups", .ref a5)])) a1 = _ := (upd_ne p1).trans (e6 _ _ h1)
    have q6_1 : a6 ≠ a1 := fun z => by
      have hz := n6
      rw [z, H1_5] at hz
      cases hz
    replace h2 : upd G6 p (.ins C dx (putF "adopting" (.ref a6) [("rows", .ref a1), ("members", .ref a2), ("parents", .ref a3), ("sessions", .ref a4), ("groups", .ref a5)])) a2 = _ := (upd_ne p2).trans (e6 _ _ h2)
    have q6_2 : a6 ≠ a2 := fun z => by
      have hz := n6
      rw [z, H2_5] at hz
      cases hz
    replace h3 : upd G6 p (.ins C dx (putF "adopting" (.ref a6) [("rows", .ref a1), ("members", .ref a2), ("parents", .ref a3), ("sessions", .ref a4), ("groups", .ref a5)])) a3 = _ := (upd_ne p3).trans (e6 _ _ h3)
    have q6_3 : a6 ≠ a3 := fun z => by
      have hz := n6
      rw [z, H3_5] at hz
      cases hz
    replace h4 : upd G6 p (.ins C dx (putF "adopting" (.ref a6) [("rows", .ref a1), ("members", .ref a2), ("parents", .ref a3), ("sessions", .ref a4), ("groups", .ref a5)])) a4 = _ := (upd_ne p4).trans (e6 _ _ h4)
    have q6_4 : a6 ≠ a4 := fun z => by
      have hz := n6
      rw [z, H4_5] at hz
      cases hz
    replace h5 : upd G6 p (.ins C dx (putF "adopting" (.ref a6) [("rows", .ref a1), ("members", .ref a2), ("parents", .ref a3), ("sessions", .ref a4), ("groups", .ref a5)])) a5 = _ := (upd_ne p5).trans (e6 _ _ h5)
    have q6_5 : a6 ≠ a5 := fun z => by
      have hz := n6
      rw [z, H5_5] at hz
      cases hz
    have h6 : upd G6 p (.ins C dx (putF "adopting" (.ref a6) [("rows", .ref a1), ("members", .ref a2), ("parents", .ref a3), ("sessions", .ref a4), ("groups", .ref a5)])) a6 = _ := (upd_ne p6).trans g6
    generalize upd G6 p (.ins C dx (putF "adopting" (.ref a6) [("rows", .ref a1), ("members", .ref a2), ("parents", .ref a3), ("sessions", .ref a4), ("groups", .ref a5)])) = J6 at o6 i6 h1 h2 h3 h4 h5 h6 ⊢
    have H1_6 := h1
    have H2_6 := h2
    have H3_6 := h3
    have H4_6 := h4
    have H5_6 := h5
    have H6_6 := h6
    -- the first process
    refine q_dput ev_c (ev_fld (ev_var rfl) i6 T.cls T.n4 rfl) ev_c h4 (by rw [List.length_map]; omega) fun G7 e7 => ?_
    have s4 : ∀ {c : Addr} {o : HO}, c ≠ a4 → J6 c = some o → upd G7 a4 (.dK (putK (L.map fun r => ((Sum.inl r.1.n : Key), V.int r.1.s)) (Sum.inl 1) (.int 1))) c = some o := fun z h => (upd_ne z).trans (e7 _ _ h)
    have o7 : Off p H (upd G7 a4 (.dK (putK (L.map fun r => ((Sum.inl r.1.n : Key), V.int r.1.s)) (Sum.inl 1) (.int 1)))) := fun c o nc h => s4 (fun z => by rw [z] at h; exact absurd (o3 _ _ p4 h) (by rw [n4]; exact fun w => nomatch w)) (o6 c o nc h)
    have h4' : upd G7 a4 (.dK (putK (L.map fun r => ((Sum.inl r.1.n : Key), V.int r.1.s)) (Sum.inl 1) (.int 1))) a4 = _ := upd_same
    replace i6 := s4 p4.symm i6
    replace h1 := s4 q4_1.symm h1
    replace h2 := s4 q4_2.symm h2
    replace h3 := s4 q4_3.symm h3
    replace h5 := s4 q5_4 h5
    replace h6 := s4 q6_4 h6
    clear s4
    generalize upd G7 a4 (.dK (putK (L.map fun r => ((Sum.inl r.1.n : Key), V.int r.1.s)) (Sum.inl 1) (.int 1))) = J7 at o7 h4' i6 h1 h2 h3 h5 h6 ⊢
    refine q_dput ev_c (ev_fld (ev_var rfl) i6 T.cls T.n5 rfl) ev_c h5 (by rw [List.length_map]; omega) fun G8 e8 => ?_
    have s5 : ∀ {c : Addr} {o : HO}, c ≠ a5 → J7 c = some o → upd G8 a5 (.dK (putK (L.map fun r => ((Sum.inl r.1.n : Key), V.int r.1.g)) (Sum.inl 1) (.int 1))) c = some o := fun z h => (upd_ne z).trans (e8 _ _ h)
    have o8 : Off p H (upd G8 a5 (.dK (putK (L.map fun r => ((Sum.inl r.1.n : Key), V.int r.1.g)) (Sum.inl 1) (.int 1)))) := fun c o nc h => s5 (fun z => by rw [z] at h; exact absurd (o4 _ _ p5 h) (by rw [n5]; exact fun w => nomatch w)) (o7 c o nc h)
    have h5' : upd G8 a5 (.dK (putK (L.map fun r => ((Sum.inl r.1.n : Key), V.int r.1.g)) (Sum.inl 1) (.int 1))) a5 = _ := upd_same
    replace i6 := s5 p5.symm i6
    replace h1 := s5 q5_1.symm h1
    replace h2 := s5 q5_2.symm h2
    replace h3 := s5 q5_3.symm h3
    replace h4' := s5 q5_4.symm h4'
    replace h6 := s5 q6_5 h6
    clear s5
    generalize upd G8 a5 (.dK (putK (L.map fun r => ((Sum.inl r.1.n : Key), V.int r.1.g)) (Sum.inl 1) (.int 1))) = J8 at o8 h4' h5' i6 h1 h2 h3 h6 ⊢
    refine q_dput ev_c (ev_fld (ev_var rfl) i6 T.cls T.n6 rfl) ev_c h6 (by rw [List.length_map]; omega) fun G9 e9 => ?_
    have s6 : ∀ {c : Addr} {o : HO}, c ≠ a6 → J8 c = some o → upd G9 a6 (.dK (putK (L.map fun r => ((Sum.inl r.1.n : Key), V.bl r.1.ad)) (Sum.inl 1) (.bl true))) c = some o := fun z h => (upd_ne z).trans (e9 _ _ h)
    have o9 : Off p H (upd G9 a6 (.dK (putK (L.map fun r => ((Sum.inl r.1.n : Key), V.bl r.1.ad)) (Sum.inl 1) (.bl true)))) := fun c o nc h => s6 (fun z => by rw [z] at h; exact absurd (o5 _ _ p6 h) (by rw [n6]; exact fun w => nomatch w)) (o8 c o nc h)
    have h6' : upd G9 a6 (.dK (putK (L.map fun r => ((Sum.inl r.1.n : Key), V.bl r.1.ad)) (Sum.inl 1) (.bl true))) a6 = _ := upd_same
    replace i6 := s6 p6.symm i6
    replace h1 := s6 q6_1.symm h1
    replace h2 := s6 q6_2.symm h2
    replace h3 := s6 q6_3.symm h3
    replace h4' := s6 q6_4.symm h4'
    replace h5' := s6 q6_5.symm h5'
    clear s6
    generalize upd G9 a6 (.dK (putK (L.map fun r => ((Sum.inl r.1.n : Key), V.bl r.1.ad)) (Sum.inl 1) (.bl true))) = J9 at o9 h4' h5' h6' i6 h1 h2 h3 ⊢
    -- the root
    have lcR := el_lcS (K := K) (te := tOp (rIx K) (tVar 3) (tC (.int 0))) (t := tTest (tIsN (tOp (rIx K) (tVar 3) (tC (.int 1))))) (tl := tVar 2) (σ := [some (.ref p), some (.ref a), some (.ref b), none]) (j := 3) (vs := [3]) (fun r : Rw × V => r.2) (fun r => decide (r.1.up = 1)) (fun r => V.int r.1.n) (ev_var rfl) (procs o9) few (fun x => rfl)
      (fun r m H1 e1 => (by
        have c := row_ix (K := K) (σ := (wipe [some (.ref p), some (.ref a), some (.ref b), none] [3]).set 3 (some r.2)) (i := 1) (rowsG (o9.ex e1) r m) 3 rfl (.inr (.inl ⟨rfl, rfl⟩))
        by_cases z : r.1.up = 1
        · rw [if_pos z] at c
          rw [decide_eq_true z]
          exact et_test (ev_is (ev_isN c) (by rfl))
        · rw [if_neg z] at c
          rw [decide_eq_false z]
          exact et_test (ev_is (ev_isN c) (by rfl)))) (fun r m _ H1 e1 => row_ix (i := 0) (rowsG (o9.ex e1) r m) 3 rfl (.inl ⟨rfl, rfl⟩))
    obtain ⟨root, mr, hroot⟩ := W.root
    obtain ⟨r0, rest, er⟩ : ∃ r0 rest, L.filter (fun r => decide (r.1.up = 1)) = r0 :: rest := by
      obtain ⟨r, m, e⟩ := look_L eL mr
      have u : r.1.up = 1 := by
        rw [← W.up (inM r m), e]
        exact (hroot root mr).mpr rfl
      have mf : r ∈ L.filter fun r => decide (r.1.up = 1) := List.mem_filter.mpr ⟨m, decide_eq_true u⟩
      cases z : L.filter fun r => decide (r.1.up = 1) with
      | nil => rw [z] at mf; cases mf
      | cons r0 rest => exact ⟨r0, rest, rfl⟩
    have m0 := List.mem_filter.mp (show r0 ∈ L.filter fun r => decide (r.1.up = 1) by rw [er]; exact List.mem_cons_self)
    have k0 : r0.1.n ∈ keys M := List.mem_map_of_mem (f := fun r : Rw => r.n) (inM r0 m0.1)
    have eroot : r0.1.n = root := (hroot _ k0).mp (by rw [W.up (inM r0 m0.1)]; exact of_decide_eq_true m0.2)
    rw [er] at lcR
    refine s_fld (ev_opL1 lcR (fun H1 e1 => ev_c) (fun c H1 hc _ => rv_ix0 (sq_of hc))).toP rfl i6 T.cls T.n7 (by show 6 < 1000; decide) fun y G10 e10 hy => ?_
    subst hy
    have st : ∀ {c : Addr} {o : HO}, c ≠ p → J9 c = some o → upd G10 p (.ins C dx (putF "root" (.int r0.1.n) [("rows", .ref a1), ("members", .ref a2), ("parents", .ref a3), ("sessions", .ref a4), ("groups", .ref a5), ("adopting", .ref a6)])) c = some o := fun z h => (upd_ne z).trans (e10 _ _ h)
    have kv1 : ∀ n, n ∈ keys M → ∃ r ∈ L, r.1.n = n := fun n h => look_L eL h
    have no1 : ∀ n, n ∉ keys M → n ∉ L.map fun r => r.1.n := fun n h m => by
      obtain ⟨r, mr, e⟩ := List.mem_map.mp m
      exact h (by rw [← e]; exact List.mem_map_of_mem (f := fun r : Rw => r.n) (inM r mr))
    refine q _ ((o9.ex e10).put) ⟨dx, a1, a2, a3, a4, a5, a6, r0.1.n, _, _, _, _, _, upd_same, st p1 h1, st p2 h2, st p3 h3, st p4 h4', st p5 h5', st p6 h6', fun n => ?_, fun r m => ?_, fun n m => ?_, fun n m => ?_, fun n m => ?_, fun n m => ?_, k0, fun n m => ?_⟩
    · by_cases h : n ∈ keys M
      · obtain ⟨r, mr, rfl⟩ := kv1 n h
        rw [val_map (fun r : Rw × V => r.1.n) (fun r => r.2) L nd r mr, decide_eq_true h]
        rfl
      · rw [val_no (fun r : Rw × V => r.1.n) (fun r => r.2) n L (no1 n h), decide_eq_false h]
        rfl
    · obtain ⟨r', mr, e⟩ := List.mem_map.mp (show r ∈ L.map (·.1) by rw [eL]; exact m)
      subst e
      exact ⟨r'.2, val_map (fun r : Rw × V => r.1.n) (fun r => r.2) L nd r' mr, rowsG ((o9.ex e10).put) r' mr⟩
    · obtain ⟨r, mr, rfl⟩ := kv1 n m
      rw [val_map (fun r : Rw × V => r.1.n) (fun r => .int r.1.up) L nd r mr, W.up (inM r mr)]
    · rw [valV_put]
      by_cases z : n = 1
      · rw [if_pos (by rw [z]), z, ses1 W]
      · rw [if_neg (fun c => z (Sum.inl.inj c))]
        obtain ⟨r, mr, rfl⟩ := kv1 n (m.resolve_left z)
        rw [val_map (fun r : Rw × V => r.1.n) (fun r => .int r.1.s) L nd r mr, W.ses (inM r mr)]
    · rw [valV_put]
      by_cases z : n = 1
      · rw [if_pos (by rw [z]), z, grp1 W]
      · rw [if_neg (fun c => z (Sum.inl.inj c))]
        obtain ⟨r, mr, rfl⟩ := kv1 n (m.resolve_left z)
        rw [val_map (fun r : Rw × V => r.1.n) (fun r => .int r.1.g) L nd r mr, W.grp (inM r mr)]
    · rw [valV_put]
      by_cases z : n = 1
      · rw [if_pos (by rw [z]), z, ado1 W]
      · rw [if_neg (fun c => z (Sum.inl.inj c))]
        obtain ⟨r, mr, rfl⟩ := kv1 n (m.resolve_left z)
        rw [val_map (fun r : Rw × V => r.1.n) (fun r => .bl r.1.ad) L nd r mr, W.ado (inM r mr)]
    · rw [eroot, Bool.eq_iff_iff, decide_eq_true_iff, decide_eq_true_iff]
      exact (hroot n m).symm
end
end KB
set_option Elab.async false
set_option linter.all false
set_option maxRecDepth 100000
set_option maxHeartbeats 4000000
namespace KB
open PySem PySem.Spec PyProof.Rows L2 Evl
abbrev sFirstR : Stmt := topS 28
abbrev sBar : Stmt := topS 29
theorem scFirstR : FnScope ["kin", "needed", "number", "row"] ["kin"] (defScope sFirstR) := ⟨rfl, rfl, rfl, by decide +kernel, rfl, by decide +kernel, by decide +kernel⟩
theorem scBar : FnScope ["image", "kin", "reason"] ["image"] (defScope sBar) := ⟨rfl, rfl, rfl, by decide +kernel, rfl, by decide +kernel, by decide +kernel⟩
def spFirstR (C : Addr) : Sp := fun vs H Q _ => ∃ k M, vs = [.ref k] ∧ Kn H C k M ∧ WF M ∧ RetD (optD (firstR M)) H Q
def spBar : Sp := fun vs H Q _ => ∃ img M, vs = [img] ∧ ImgAt H img M ∧ WF M ∧ RetD (optD (barM M)) H Q
section
variable {P : Program} {w : World} {K : PySem.W.Frag} {mg : Str → Option Value} {base : Heap} {f fI fN fR fS fG : Addr} {fd dI dN dR dS dG : FuncData} {C : Addr}
theorem ok_firstR (F : Fun K "first_ring" "first_ring" sFirstR f fd) (T : KT K C)
    (GN : FnOk P w K mg base CX0 4 fN dN ["kin"] (spNeeds C)) (bN : Binds K dN ["kin"] []) (kN : PySem.W.keepIn K (.ref fN) = true) (mN : mg "needs" = some (.ref fN))
    (GR : FnOk P w K mg base CX0 1 fR dR ["needed", "number"] spRing) (bR : Binds K dR ["needed", "number"] []) (kR : PySem.W.keepIn K (.ref fR) = true) (mR : mg "ring_from" = some (.ref fR)) :
    FnOk P w K mg base CX0 5 f fd ["kin"] (spFirstR C) := by
  refine F.ok scFirstR (fun vs H Q E h => ?_) (fun cdv A outer s H vs Q E hr h => ?_)
  · obtain ⟨k, M, rfl, _⟩ := h
    rfl
  · obtain ⟨k, M, rfl, N, W, q⟩ := h
    have h1 : Room 1 _ := hr.mono (by decide)
    refine ⟨_, pss_cons (ps_set (i := 1) scFirstR.nd rfl (.inl rfl) (pe_call GN hr rfl mN kN bN .nil pass0 (pa_cons (pv 0) pa_nil)))
      (pss_cons (ps_for PassesOwn.never rfl (pi_list (pe_fld (pv 0) rfl)) (pg_name (i := 2) scFirstR.nd rfl (.inl rfl))
        (pss_cons (ps_set (i := 3) scFirstR.nd rfl (.inl rfl) (pe_call GR h1 rfl mR kR bR .nil pass0 (pa_cons (pv 1) (pa_cons (pv 2) pa_nil))))
        (pss_one (ps_if (pt_cmp (pc_notN (pv 3))) (pss_one (ps_ret (pe_tup (pa_cons pe_str (pa_cons (pv 3) pa_nil))))) pss_nil))))
      (pss_one (ps_ret pe_non))), ?_⟩
    have cN : SpP (spNeeds C) ([.ref k] ++ []) H (fun v G => ∃ d, v = .ref d ∧ Nd G d M) := fun H1 e1 Q q E => ⟨k, M, rfl, N.mono e1, W, fun d H' e h => q _ H' e ⟨d, rfl, h⟩⟩
    refine q_asgP (ep_call (ea_cons (ev_var rfl) ea_nil) cN) fun v H1 e1 hv => ?_
    obtain ⟨d, rfl, ND⟩ := hv
    have N1 := N.mono e1
    obtain ⟨a, ea, la⟩ := kn_members (ta := tVar 0) (σ := [some (.ref k), some (.ref d), none, none]) T N1 (ev_var (i := 0) rfl)
    refine q_forLn (K := K) ea la (fun j σ G => (∃ y z, σ = [some (.ref k), some (.ref d), y, z]) ∧ Ex H1 G ∧ ∀ n ∈ (keys M).take j, ring M n = none) (fun H2 e2 => ⟨⟨_, _, rfl⟩, e2, fun n m => nomatch m⟩) (fun j σ G _ g => ex_l g.2.1 la) ?_ ?_
    · rintro j x σ G hj ⟨⟨y, z, rfl⟩, e2, j0⟩
      obtain ⟨n, en, rfl⟩ := ints_at hj
      have ND2 := ND.mono e2
      have cR : SpX spRing ([.ref d, .int n] ++ []) G (rowD (ring M n)) := fun H3 e3 Q q E => ⟨d, M, n, rfl, ND2.mono e3, W, q⟩
      refine q_asgX (ex_call (ea_cons (ev_var rfl) (ea_cons (ev_var rfl) ea_nil)) cR) fun v G2 e3 dv => ?_
      refine s_if (et_test (ev_is (ev_notN (ev_var rfl)) (by rw [dx_row dv]))) (fun hb G3 e4 => ?_) (fun hb G3 e4 => ?_)
      · refine s_retU (eu_tup (ea_cons ev_c (ea_cons (ev_var rfl) ea_nil)) (by show 2 ≤ 100000; omega)) fun t G4 nt e5 g5 => ?_
        obtain ⟨row, hrow⟩ : ∃ row, ring M n = some row := by
          cases z : ring M n with
          | none => rw [z] at hb; cases hb
          | some row => exact ⟨row, rfl⟩
        have hd : firstR M = some (.ring row) := by
          unfold firstR
          rw [List.head?_map, head_fm en (fun y m => j0 y m) hrow]
          rfl
        rw [hrow] at dv
        refine q _ G4 (((e1.trans e2).trans e3).trans (e4.trans e5)) ?_
        rw [hd]
        exact .tup g5 (.cons (.str _) (.cons (dv.mono (e4.trans e5)) .nil))
      · have hn : ring M n = none := by
          cases z : ring M n with
          | none => rfl
          | some row => rw [z] at hb; cases hb
        refine ⟨⟨_, _, rfl⟩, e2.trans (e3.trans e4), fun y m => ?_⟩
        rcases mem_take en y m with m | rfl
        · exact j0 y m
        · exact hn
    · rintro σ G ⟨⟨y, z, rfl⟩, e2, j0⟩
      rw [List.length_map, List.take_length] at j0
      refine s_ret ev_c fun H2 e3 => q _ H2 ((e1.trans e2).trans e3) ?_
      have hd : firstR M = none := by
        unfold firstR
        rw [List.filterMap_eq_nil_iff.mpr j0]
        rfl
      rw [hd]
      exact .non
theorem ok_bar (F : Fun K "bar" "bar" sBar f fd) (MK : Mk K C fI) (mC : mg "Kin" = some (.ref C))
    (GI : FnOk P w K mg base CX0 1 fI dI ["self", "image"] (spInit C)) (bI : Binds K dI ["self", "image"] [])
    (GS : FnOk P w K mg base CX0 4 fS dS ["kin"] (spFirstS C)) (bS : Binds K dS ["kin"] []) (kS : PySem.W.keepIn K (.ref fS) = true) (mS : mg "first_session" = some (.ref fS))
    (GG : FnOk P w K mg base CX0 3 fG dG ["kin"] (spFirstG C)) (bG : Binds K dG ["kin"] []) (kG : PySem.W.keepIn K (.ref fG) = true) (mG : mg "first_group" = some (.ref fG))
    (GR : FnOk P w K mg base CX0 5 fR dR ["kin"] (spFirstR C)) (bR : Binds K dR ["kin"] []) (kR : PySem.W.keepIn K (.ref fR) = true) (mR : mg "first_ring" = some (.ref fR)) :
    FnOk P w K mg base CX0 6 f fd ["image"] spBar := by
  refine F.ok scBar (fun vs H Q E h => ?_) (fun cdv A outer s H vs Q E hr h => ?_)
  · obtain ⟨img, M, rfl, _⟩ := h
    rfl
  · obtain ⟨img, M, rfl, I, W, q⟩ := h
    have h2 : Room 2 _ := hr.mono (by decide)
    have h3 : Room 3 _ := hr.mono (by decide)
    have h4 : Room 4 _ := hr.mono (by decide)
    refine ⟨_, pss_cons (ps_set (i := 1) scBar.nd rfl (.inl rfl) (pe_make MK GI h2 rfl mC bI .nil pass0 (pa_cons (pv 0) pa_nil)))
      (pss_cons (ps_set (i := 2) scBar.nd rfl (.inl rfl) (pe_call GS h4 rfl mS kS bS .nil pass0 (pa_cons (pv 1) pa_nil)))
      (pss_cons (ps_if (pt_cmp (pc_isN (pv 2))) (pss_one (ps_set (i := 2) scBar.nd rfl (.inl rfl) (pe_call GG h3 rfl mG kG bG .nil pass0 (pa_cons (pv 1) pa_nil)))) pss_nil)
      (pss_one (ps_ret (pe_ifExp (pt_cmp (pc_isN (pv 2))) (pe_call GR hr rfl mR kR bR .nil pass0 (pa_cons (pv 1) pa_nil)) (pv 2)))))), ?_⟩
    have mk : EvP (tMake C (spInit C) [] E0 (tCons (tVar 0) tNil)) (start ["image", "kin", "reason"] [img]) H (fun v G => ∃ k, v = .ref k ∧ Kn G C k M) := fun H1 e1 Q qq =>
      ⟨_, rfl, fun x dx nx ndx ne => ⟨x, dx, img, M, rfl, upd_same, (I.mono e1).mono ((Ex.new ndx).trans (Ex.new (by rw [upd_ne ne.symm]; exact nx))), W, fun H' o N => ⟨rfl, qq _ H' (fun b u hb => o b u (ne_of_none hb nx) (by rw [upd_ne (ne_of_none hb nx), upd_ne (ne_of_none hb ndx)]; exact hb)) ⟨x, rfl, N⟩⟩⟩⟩
    refine q_asgP mk fun v H1 e1 hv => ?_
    obtain ⟨k, rfl, N⟩ := hv
    have cS : SpX (spFirstS C) ([.ref k] ++ []) H1 (optD (firstS M)) := fun H3 e3 Q q E => ⟨k, M, rfl, N.mono e3, W, q⟩
    refine q_asgX (ex_call (ea_cons (ev_var rfl) ea_nil) cS) fun v H2 e2 dv => ?_
    have last : ∀ (u : V) (o : Option Rs) (H3 : Hp), Ex H2 H3 → Dx H3 u (optD o) → (∀ r, o = some r → barM M = some r) → (o = none → barM M = firstR M) → ∀ D : Ends, D.rt = Q →
        tRet (tIf (tTest (tIsN (tVar 2))) (tCall (spFirstR C) [] E0 (tCons (tVar 1) tNil)) (tVar 2)) D [some img, some (.ref k), some u] H3 := by
      intro u o H3 e3 du h1 h2 D eD
      have tst := et_test (ev_isN (ev_var (σ := [some img, some (.ref k), some u]) (H := H3) (i := 2) rfl))
      rw [dx_non du] at tst
      refine (show tTest (tIsN (tVar 2)) [some img, some (.ref k), some u] H3 (fun c H1 => if c = true then tCall (spFirstR C) [] E0 (tCons (tVar 1) tNil) [some img, some (.ref k), some u] H1 D.rt else tVar 2 [some img, some (.ref k), some u] H1 D.rt) from tst H3 (Ex.refl H3) _ fun H4 e4 => ?_)
      cases o with
      | none =>
        refine iteT ?_
        have cR : SpX (spFirstR C) ([.ref k] ++ []) H4 (optD (firstR M)) := fun H5 e5 Q q E => ⟨k, M, rfl, N.mono (e2.trans (e3.trans (e4.trans e5))), W, q⟩
        refine ex_call (E := E0) (σ := [some img, some (.ref k), some u]) (ea_cons (ev_var rfl) ea_nil) cR H4 (Ex.refl H4) _ fun v H5 e5 dv5 => ?_
        rw [eD]
        refine q v H5 (e1.trans (e2.trans (e3.trans (e4.trans e5)))) ?_
        rw [h2 rfl]
        exact dv5
      | some r =>
        refine iteF ⟨_, rfl, ?_⟩
        rw [eD]
        refine q u H4 (e1.trans (e2.trans (e3.trans e4))) ?_
        rw [h1 r rfl]
        exact du.mono e4
    refine q_when (et_test (ev_is (ev_isN (ev_var rfl)) (by rw [dx_non dv]))) (fun hb H3 e3 => ?_) (fun hb H3 e3 => ?_)
    · have hS : firstS M = none := by
        cases z : firstS M with
        | none => rfl
        | some r => rw [z] at hb; cases hb
      have cG : SpX (spFirstG C) ([.ref k] ++ []) H3 (optD (firstG M)) := fun H5 e5 Q q E => ⟨k, M, rfl, N.mono (e2.trans (e3.trans e5)), W, q⟩
      refine s_asgX (ex_call (ea_cons (ev_var rfl) ea_nil) cG) fun u H4 e4 du => ?_
      refine last u (firstG M) H4 (e3.trans e4) du (fun r hr => ?_) (fun hn => ?_) _ rfl
      · rw [barM_eq, hS, hr]
      · rw [barM_eq, hS, hn]
    · obtain ⟨r, hS⟩ : ∃ r, firstS M = some r := by
        cases z : firstS M with
        | none => rw [z] at hb; cases hb
        | some r => exact ⟨r, rfl⟩
      refine last v (firstS M) H3 e3 (dv.mono e3) (fun r' hr' => ?_) (fun hn => ?_) _ rfl
      · rw [barM_eq, hr']
      · rw [hS] at hn
        cases hn
end
end KB
set_option Elab.async false
set_option linter.all false
set_option maxRecDepth 100000
set_option maxHeartbeats 4000000
namespace KB
open PySem PySem.Spec PyProof.Rows L2 Evl
abbrev sBox : Stmt := topS 34
abbrev sTake : Stmt := topS 35
abbrev sPick : Stmt := topS 36
theorem scBox : FnScope ["_law_script", "_law_k", "_law_cell"] ["_law_script", "_law_k"] (defScope sBox) := ⟨rfl, rfl, rfl, by decide +kernel, rfl, by decide +kernel, by decide +kernel⟩
theorem scTake : FnScope ["_law_box_here", "_law_below", "_law_found", "_law_once"] ["_law_box_here", "_law_below"] (defScope sTake) := ⟨rfl, rfl, rfl, by decide +kernel, rfl, by decide +kernel, by decide +kernel⟩
theorem scPick : FnScope ["_law_box_here", "_law_some"] ["_law_box_here", "_law_some"] (defScope sPick) := ⟨rfl, rfl, rfl, by decide +kernel, rfl, by decide +kernel, by decide +kernel⟩
/-- a source of draws: what is left of a great number, a seed, a count -/
def Src (H : Hp) (p : Addr) (c : Int) : Prop := ∃ a b : Int, H p = some (.lst [.int a, .int b, .int c]) ∧ 0 ≤ a ∧ 0 ≤ b ∧ b < 2 ^ 33 ∧ 0 ≤ c
def spTake : Sp := fun vs H Q _ => ∃ (p : Addr) (c m : Int), vs = [.ref p, .int m] ∧ Src H p c ∧ c < 1000000 ∧ 0 < m ∧ m ≤ 1000000 ∧
  ∀ (r c' : Int) (zs : List V), 0 ≤ r → r < m → c ≤ c' → c' ≤ c + 1 → Src (upd H p (.lst zs)) p c' → Q (.int r) (upd H p (.lst zs))
def spPick : Sp := fun vs H Q _ => ∃ (p l : Addr) (c : Int) (xs : List V), vs = [.ref p, .ref l] ∧ Src H p c ∧ c < 1000000 ∧ l ≠ p ∧ H l = some (.lst xs) ∧ 0 < xs.length ∧ xs.length ≤ 1000 ∧
  ∀ (v : V) (c' : Int) (zs : List V), v ∈ xs → c ≤ c' → c' ≤ c + 1 → Src (upd H p (.lst zs)) p c' → Q v (upd H p (.lst zs))
def spBox (K : PySem.W.Frag) : Sp := fun vs H Q _ => ∃ (l : Addr) (ns : List Int) (k : Nat), vs = [.ref l, .int (k : Int)] ∧ SqL K H l (ns.map V.int) ∧ k < 1000 ∧
  ∀ (p : Addr) (H' : Hp), H p = none → Ex H H' → Src H' p 0 → Q (.ref p) H'
theorem b01 (k : Bool) : (0 : Int) ≤ (if k = true then 1 else 0) ∧ (if k = true then (1 : Int) else 0) ≤ 1 := by
  cases k <;> decide
section
variable {P : Program} {w : World} {K : PySem.W.Frag} {mg : Str → Option Value} {base : Heap} {f fD : Addr} {fd fdD : FuncData}
theorem ok_take (F : Fun K "_law_take" "_law_take" sTake f fd) : FnOk P w K mg base CX0 1 f fd ["_law_box_here", "_law_below"] spTake := by
  refine F.ok scTake (fun vs H Q E h => ?_) (fun cdv A outer s H vs Q E hr h => ?_)
  · obtain ⟨p, c, m, rfl, _⟩ := h
    rfl
  · obtain ⟨p, c, m, rfl, ⟨a, b, hp, ha, hb, hb2, hc⟩, hc2, hm, hm2, q⟩ := h
    refine ⟨_, pss_cons (ps_if (pt_cmpR op_gt (pe_ix ix_list (pv 0) pe_int (fun _ _ => rfl)) pe_int (nomark _))
        (pss_cons (ps_set (i := 2) scTake.nd rfl (.inl rfl) (pe_op op_mod (pe_ix ix_list (pv 0) pe_int (fun _ _ => rfl)) (pv 1)))
        (pss_cons (ps_asg (pe_op op_fdivW (pe_ix ix_list (pv 0) pe_int (fun _ _ => rfl)) (pv 1)) (pg_sub (pv 0) pe_int set_list))
        (pss_one (ps_ret (pv 2))))) pss_nil)
      (pss_cons (ps_asg (pe_op op_add (pe_ix ix_list (pv 0) pe_int (fun _ _ => rfl)) pe_int) (pg_sub (pv 0) pe_int set_list))
      (pss_cons (ps_set (i := 3) scTake.nd rfl (.inl rfl) (pe_op op_mod (pe_op op_pow (pe_op op_add (pe_ix ix_list (pv 0) pe_int (fun _ _ => rfl)) (pe_op op_mul pe_int (pe_ix ix_list (pv 0) pe_int (fun _ _ => rfl)))) pe_int) pe_int))
      (pss_one (ps_ret (pe_op op_mod (pe_op op_fdiv (pe_op op_mod (pe_op op_add (pe_op op_mul (pv 3) (pe_op op_add (pe_op op_mod (pv 3) pe_int) pe_int)) (pe_op op_mul (pe_ix ix_list (pv 0) pe_int (fun _ _ => rfl)) pe_int)) pe_int) pe_int) (pv 1)))))), ?_⟩
    have look : ∀ {H1 : Hp} {a b c : Int}, H1 p = some (.lst [.int a, .int b, .int c]) → SqL K H1 p [.int a, .int b, .int c] := fun e => SqL.of e
    refine ⟨_, rfl, p, _, _, _, rfl, rfl, look hp, rfl, _, _, rfl, rfl, _, rfl, ?_⟩
    refine ite2 (fun h0 => ?_) (fun h0 => ?_)
    · have a1 : (0 : Int) < a := of_decide_eq_true h0
      refine ⟨_, rfl, p, _, _, _, rfl, rfl, look hp, rfl, _, rfl, _, _, rfl, rfl, hm, ?_⟩
      refine ⟨_, rfl, p, _, _, _, rfl, rfl, look hp, rfl, _, rfl, _, _, rfl, rfl, wide_div (b := 50) hm (by omega) (by decide) (by decide), ?_⟩
      refine ⟨_, rfl, p, _, _, 0, rfl, rfl, hp, rfl, _, rfl, ?_⟩
      exact q _ c _ (Int.emod_nonneg a (by omega)) (Int.emod_lt_of_pos a hm) (Int.le_refl _) (by omega) ⟨_, _, upd_same, Int.ediv_nonneg ha (by omega), hb, hb2, hc⟩
    · refine ⟨_, rfl, p, _, _, _, rfl, rfl, look hp, rfl, _, _, rfl, rfl, _, rfl, p, _, _, 2, rfl, rfl, hp, rfl, ?_⟩
      have h1 : upd H p (.lst [.int a, .int b, .int (c + 1)]) p = some (.lst [.int a, .int b, .int (c + 1)]) := upd_same
      refine ⟨_, rfl, p, _, _, _, rfl, rfl, look h1, rfl, _, rfl, p, _, _, _, rfl, rfl, look h1, rfl, _, _, rfl, rfl, .inl ⟨by decide, by decide⟩, _, _, rfl, rfl, _, _, rfl, rfl, ⟨by decide, by decide, ?_⟩, _, _, rfl, rfl, (show (0 : Int) < 2147483647 by decide), ?_⟩
      · show (b + 48271 * (c + 1)).natAbs < 2 ^ 64
        omega
      generalize (b + 48271 * (c + 1)) ^ (5 : Int).toNat % 2147483647 = once
      refine ⟨_, rfl, _, rfl, _, _, rfl, rfl, (show (0 : Int) < 30011 by decide), _, _, rfl, rfl, _, _, rfl, rfl, .inr ?_, _, rfl, p, _, _, _, rfl, rfl, look h1, rfl, _, _, rfl, rfl, .inr ⟨by decide, by decide⟩, _, _, rfl, rfl, _, _, rfl, rfl, (show (0 : Int) < 2147483629 by decide), _, _, rfl, rfl, ⟨by decide, by decide⟩, _, rfl, _, _, rfl, rfl, hm, ?_⟩
      · have z1 := Int.emod_nonneg once (show (30011 : Int) ≠ 0 by decide)
        have z2 := Int.emod_lt_of_pos once (show (0 : Int) < 30011 by decide)
        exact ⟨by omega, by omega⟩
      · exact q _ (c + 1) _ (Int.emod_nonneg _ (by omega)) (Int.emod_lt_of_pos _ hm) (by omega) (by omega) ⟨a, b, upd_same, ha, hb, hb2, by omega⟩
theorem ok_pick (F : Fun K "_law_pick" "_law_pick" sPick f fd) (G : FnOk P w K mg base CX0 1 fD fdD ["_law_box_here", "_law_below"] spTake)
    (bG : Binds K fdD ["_law_box_here", "_law_below"] []) (kG : PySem.W.keepIn K (.ref fD) = true) (mG : mg "_law_take" = some (.ref fD)) (mL : mg "len" = none) :
    FnOk P w K mg base CX0 2 f fd ["_law_box_here", "_law_some"] spPick := by
  refine F.ok scPick (fun vs H Q E h => ?_) (fun cdv A outer s H vs Q E hr h => ?_)
  · obtain ⟨p, l, c, xs, rfl, _⟩ := h
    rfl
  · obtain ⟨p, l, c, xs, rfl, S, hc, hne, hl, h0, h1, q⟩ := h
    refine ⟨_, pss_one (ps_ret (pe_ix ix_list (pv 1) (pe_call G hr rfl mG kG bG .nil pass0 (pa_cons (pv 0) (pa_cons (pe_callB call_len_seq (by rfl) mL PySem.boot_len (pa_cons (pv 1) pa_nil)) pa_nil))) (fun _ _ => rfl))), ?_⟩
    refine ⟨_, rfl, _, rfl, _, rfl, l, xs, rfl, .inl (SqL.of hl), p, c, _, rfl, S, hc, by omega, by omega, fun r c' zs r0 r1 c0 c1 S' => ?_⟩
    obtain ⟨j, rfl⟩ : ∃ j : Nat, r = (j : Int) := ⟨r.toNat, by omega⟩
    have hj : j < xs.length := by omega
    refine ⟨l, xs, _, xs[j], rfl, rfl, SqL.of ((upd_ne hne).trans hl), atI_nat (List.getElem?_eq_getElem hj), ?_⟩
    exact q _ c' zs (List.getElem_mem hj) c0 c1 S'
theorem ok_box (F : Fun K "_law_box" "_law_box" sBox f fd) (mL : mg "len" = none) (mA : mg "abs" = none) (mI : mg "int" = none) : FnOk P w K mg base CX0 1 f fd ["_law_script", "_law_k"] (spBox K) := by
  refine F.ok scBox (fun vs H Q E h => ?_) (fun cdv A outer s H vs Q E hr h => ?_)
  · obtain ⟨l, ns, k, rfl, _⟩ := h
    rfl
  · obtain ⟨l, ns, k, rfl, hl, hk, q⟩ := h
    refine ⟨_, pss_cons (ps_set (i := 2) scBox.nd rfl (.inl rfl) (pe_ifExp (pt_cmpR op_lt (pv 1) (pe_callB call_len_seq (by rfl) mL PySem.boot_len (pa_cons (pv 0) pa_nil)) (nomark _)) (pe_ix ix_list (pv 0) (pv 1) (fun _ _ => rfl)) pe_int))
      (pss_one (ps_ret (pe_lst (pa_cons (pe_op op_mul (pe_callB call_abs (by rfl) mA (by decide +kernel) (pa_cons (pv 2) pa_nil))
          (pe_callTy call_int1 (by rfl) mI (by decide +kernel) (pa_cons (pe_cmpR op_ge (pe_callB call_abs (by rfl) mA (by decide +kernel) (pa_cons (pv 2) pa_nil)) (pe_op op_pow pe_int pe_int) (nomark _)) pa_nil)))
        (pa_cons (pe_op op_add (pe_op op_add (pe_op op_mod (pv 2) pe_int) (pe_op op_mul pe_int (pv 1))) pe_int) (pa_cons pe_int pa_nil)))))), ?_⟩
    have fin : ∀ (cell : Int) (D : Ends), D.rt = Q → tRet (tLst (tCons (tOp (rI CMul fun i j => .int (i * j)) (tCB (fun xs H Q => ∃ i, xs = [.int i] ∧ Q (.int (if i < 0 then -i else i)) H) (tCons (tVar 2) tNil))
          (tCB (fun xs H Q => (∃ i, xs = [.int i] ∧ Q (.int i) H) ∨ ∃ k, xs = [.bl k] ∧ Q (.int (if k then 1 else 0)) H) (tCons (tOp (rI0 fun i j => .bl (decide (j ≤ i))) (tCB (fun xs H Q => ∃ i, xs = [.int i] ∧ Q (.int (if i < 0 then -i else i)) H) (tCons (tVar 2) tNil)) (tOp (rI CPow fun i j => .int (i ^ j.toNat)) (tC (.int 10)) (tC (.int 18)))) tNil)))
          (tCons (tOp (rI0 fun i j => .int (i + j)) (tOp (rI0 fun i j => .int (i + j)) (tOp (rI (fun _ j => 0 < j) fun i j => .int (i % j)) (tVar 2) (tC (.int 2147483629))) (tOp (rI CMul fun i j => .int (i * j)) (tC (.int 7919)) (tVar 1))) (tC (.int 73))) (tCons (tC (.int 0)) tNil)))) D [some (.ref l), some (.int (k : Int)), some (.int cell)] H := by
      intro cell D eD
      refine ⟨_, rfl, _, rfl, _, rfl, _, rfl, _, _, rfl, rfl, ⟨by decide, by decide, by decide⟩, _, _, rfl, rfl, .inr ⟨_, rfl, _, _, rfl, rfl, .inr ?_, ?_⟩⟩
      · exact ⟨Int.lt_of_lt_of_le (by decide) (b01 _).1, Int.lt_of_le_of_lt (b01 _).2 (by decide)⟩
      · refine ⟨_, rfl, _, _, rfl, rfl, (show (0 : Int) < 2147483629 by decide), _, rfl, _, _, rfl, rfl, .inl ⟨by decide, by decide⟩, _, _, rfl, rfl, _, _, rfl, rfl, (by show 3 ≤ sizeLine; decide), fun p hp => ?_⟩
        rw [eD]
        have z1 := Int.emod_nonneg cell (show (2147483629 : Int) ≠ 0 by decide)
        have z2 := Int.emod_lt_of_pos cell (show (0 : Int) < 2147483629 by decide)
        refine q p _ hp (Ex.new hp) ⟨_, _, upd_same, Int.mul_nonneg ?_ (b01 _).1, by omega, by omega, Int.le_refl 0⟩
        split <;> omega
    refine ⟨_, rfl, _, rfl, l, _, rfl, .inl hl, _, _, rfl, rfl, _, rfl, ?_⟩
    refine ite2 (fun h1 => ?_) (fun h1 => ?_)
    · have h2 := of_decide_eq_true h1
      rw [List.length_map] at h2
      have h3 : k < ns.length := by omega
      refine ⟨_, rfl, _, rfl, l, _, _, .int ns[k], rfl, rfl, hl, atI_nat (by rw [List.getElem?_map, List.getElem?_eq_getElem h3]; rfl), ?_⟩
      exact fin ns[k] _ rfl
    · exact fin 0 _ rfl
end
end KB
set_option Elab.async false
set_option linter.all false
set_option maxRecDepth 100000
set_option maxHeartbeats 4000000
namespace KB
open PySem PySem.Spec PyProof.Rows L2 Evl
abbrev nNames : List Str := ["_law_box_here", "_law_most", "_law_left", "_law_found", "_law_turn"]
def spNames : Sp := fun vs H Q _ => ∃ (p : Addr) (c m : Int), vs = [.ref p, .int m] ∧ Src H p c ∧ c < 100000 ∧ 0 < m ∧ m ≤ 15 ∧
  ∀ (q : Addr) (ns : List Int) (c' : Int) (H' : Hp), H q = none → Off p H H' → H' q = some (.lst (ns.map V.int)) → ns.Nodup → (∀ n ∈ ns, 2 ≤ n ∧ (n ≤ 20 ∨ n = 199)) → 0 < ns.length → (ns.length : Int) ≤ m → c ≤ c' → c' ≤ c + 20 → Src H' p c' → Q (.ref q) H'
def pool : List Int := [2, 3, 4, 5, 6, 7, 8, 9, 10, 11, 12, 13, 14, 15, 16, 17, 18, 19, 20, 199]
theorem nodup_erase {l : List Int} (h : l.Nodup) (j : Nat) : (l.eraseIdx j).Nodup := (List.eraseIdx_sublist l j).nodup h
theorem erase_not {l : List Int} (h : l.Nodup) {j : Nat} {n : Int} (e : l[j]? = some n) : n ∉ l.eraseIdx j := fun m => by
  have s := split_at e
  have e2 : l.eraseIdx j = l.take j ++ l.drop (j + 1) := List.eraseIdx_eq_take_drop_succ l j
  rw [e2] at m
  rw [s, List.nodup_append] at h
  rcases List.mem_append.mp m with m | m
  · exact h.2.2 n m n List.mem_cons_self rfl
  · exact (List.nodup_cons.mp h.2.1).1 m
theorem erase_ints (ns : List Int) (j : Nat) : (ns.map V.int).eraseIdx j = (ns.eraseIdx j).map V.int := by
  rw [List.eraseIdx_eq_take_drop_succ, List.eraseIdx_eq_take_drop_succ, List.map_append, List.map_take, List.map_drop]
section
variable {P : Program} {w : World} {K : PySem.W.Frag} {mg : Str → Option Value} {base : Heap} {f fD : Addr} {fd fdD : FuncData}
end
end KB
set_option Elab.async false
set_option linter.all false
namespace KB
/-! ### rows sorted -/
def insR (a : Rw) : Fam → Fam
  | [] => [a]
  | b :: l => if a.n < b.n then a :: b :: l else if a.n = b.n then b :: l else b :: insR a l
def srtR (l : List Rw) : Fam := l.foldr insR []
theorem keys_ins (a : Rw) : ∀ (l : Fam), keys (insR a l) = ins a.n (keys l)
  | [] => rfl
  | b :: l => by
    unfold insR
    show keys _ = if a.n < b.n then _ else if a.n = b.n then _ else _
    split
    · rfl
    · split
      · rfl
      · show b.n :: keys (insR a l) = _
        rw [keys_ins a l]
        rfl
theorem keys_srt : ∀ (l : List Rw), keys (srtR l) = asc (l.map (·.n))
  | [] => rfl
  | a :: l => by
    show keys (insR a (srtR l)) = ins a.n (asc (l.map (·.n)))
    rw [keys_ins, keys_srt l]
theorem mem_insR {a r : Rw} : ∀ {l : Fam}, a.n ∉ keys l → (r ∈ insR a l ↔ r = a ∨ r ∈ l)
  | [], _ => by simp [insR]
  | b :: l, h => by
    have h2 : a.n ≠ b.n ∧ a.n ∉ keys l := by simpa [keys] using h
    unfold insR
    split
    · simp
    · rw [if_neg h2.1]
      simp only [List.mem_cons, mem_insR h2.2]
      constructor
      · rintro (h | h | h) <;> simp [h]
      · rintro (h | h | h) <;> simp [h]
theorem mem_srtR {r : Rw} : ∀ {l : List Rw}, (l.map (·.n)).Nodup → (r ∈ srtR l ↔ r ∈ l)
  | [], _ => by simp [srtR]
  | a :: l, nd => by
    have nd' := List.nodup_cons.mp nd
    have h : a.n ∉ keys (srtR l) := by
      rw [keys_srt, mem_asc]
      exact nd'.1
    show r ∈ insR a (srtR l) ↔ _
    rw [mem_insR h, mem_srtR nd'.2, List.mem_cons]
theorem len_srtR (l : List Rw) : (srtR l).length ≤ l.length := by
  have h : (keys (srtR l)).length ≤ (l.map (·.n)).length := by
    rw [keys_srt]
    exact len_asc _
  unfold keys at h
  simpa using h
/-- rows in the order of their births: each below an earlier one, the first one alone below nobody -/
structure Born (l : List Rw) : Prop where
  nd : (l.map (·.n)).Nodup
  low : ∀ r ∈ l, 2 ≤ r.n
  par : ∀ i r, l[i]? = some r → (r.up = 1 ↔ i = 0) ∧ (i ≠ 0 → ∃ (j : Nat) (q : Rw), j < i ∧ l[j]? = some q ∧ q.n = r.up)
  ne : l ≠ []
  few : l.length ≤ 20
def place (l : List Rw) (n : Int) : Nat := l.findIdx fun r => decide (r.n = n)
theorem place_of {l : List Rw} (nd : (l.map (·.n)).Nodup) {i : Nat} {r : Rw} (h : l[i]? = some r) : place l r.n = i := by
  obtain ⟨hi, e⟩ := List.getElem?_eq_some_iff.mp h
  unfold place
  rw [List.findIdx_eq hi]
  refine ⟨by rw [e]; exact decide_eq_true rfl, fun j hj => decide_eq_false fun z => ?_⟩
  have hj2 : j < l.length := by omega
  have e1 : (l.map (·.n))[j]? = some r.n := by
    rw [List.getElem?_map, List.getElem?_eq_getElem hj2]
    exact congrArg some z
  have e2 : (l.map (·.n))[i]? = some r.n := by
    rw [List.getElem?_map, h]
    rfl
  have s := split_at e2
  rw [s, List.nodup_append] at nd
  refine nd.2.2 r.n ?_ r.n List.mem_cons_self rfl
  have : ((l.map (·.n)).take i)[j]? = some r.n := by
    rw [List.getElem?_take, if_pos hj]
    exact e1
  exact List.mem_of_getElem? this
theorem Born.wf {l : List Rw} (B : Born l) : WF (srtR l) := by
  have mem : ∀ {r}, r ∈ srtR l ↔ r ∈ l := mem_srtR B.nd
  have inK : ∀ {r}, r ∈ l → r.n ∈ keys (srtR l) := fun m => List.mem_map_of_mem (f := fun r : Rw => r.n) (mem.mpr m)
  have asc' : (keys (srtR l)).Pairwise (· < ·) := by rw [keys_srt]; exact asc_asc _
  have upv : ∀ {r}, r ∈ l → up (srtR l) r.n = r.up := fun m => by
    unfold up
    rw [look_of asc' (mem.mpr m)]
    rfl
  refine ⟨asc', fun r m => B.low r (mem.mp m), fun r m => ?_, ?_, ⟨place l, fun r m => ?_, fun r m z => ?_⟩, Nat.le_trans (len_srtR l) B.few⟩
  · obtain ⟨i, h⟩ := List.mem_iff_getElem?.mp (mem.mp m)
    by_cases z : i = 0
    · exact .inl ((B.par i r h).1.mpr z)
    · obtain ⟨j, q, _, hq, e⟩ := (B.par i r h).2 z
      exact .inr (by rw [← e]; exact inK (List.mem_of_getElem? hq))
  · cases hl : l with
    | nil => exact absurd hl B.ne
    | cons r0 l' =>
      rw [← hl]
      have h0 : l[0]? = some r0 := by rw [hl]; rfl
      refine ⟨r0.n, inK (List.mem_of_getElem? h0), fun n m => ?_⟩
      obtain ⟨r, mr, rfl⟩ := List.mem_map.mp m
      have mr' := mem.mp mr
      rw [upv mr']
      obtain ⟨i, h⟩ := List.mem_iff_getElem?.mp mr'
      constructor
      · intro z
        have i0 := (B.par i r h).1.mp z
        rw [i0, h0] at h
        rw [Option.some.inj h]
      · intro z
        have p1 := place_of B.nd h
        have p2 := place_of B.nd h0
        rw [z, p2] at p1
        exact (B.par i r h).1.mpr p1.symm
  · obtain ⟨i, h⟩ := List.mem_iff_getElem?.mp (mem.mp m)
    rw [place_of B.nd h]
    have := (List.getElem?_eq_some_iff.mp h).1
    have := B.few
    omega
  · obtain ⟨i, h⟩ := List.mem_iff_getElem?.mp (mem.mp m)
    have zi : i ≠ 0 := fun w => z ((B.par i r h).1.mpr w)
    obtain ⟨j, q, hj, hq, e⟩ := (B.par i r h).2 zi
    rw [place_of B.nd h, ← e, place_of B.nd hq]
    exact hj
end KB
set_option Elab.async false
set_option linter.all false
set_option maxRecDepth 100000
set_option maxHeartbeats 4000000
namespace Evl
open PySem L2
section
variable {K : PySem.W.Frag} {σ : L2.St} {H H' G : Hp} {ta tb te tx td : TE} {t u : TT} {x y z v : V} {D : Ends} {tz : TS} {P : V → Hp → Prop}
theorem ev_dgetR {d : Addr} {kvs : List (Key × V)} {i : Int} (hd : Ev ta σ H (.ref d)) (hk : Ev tb σ H (.int i)) (e0 : Rd H d (.dK kvs)) (h : valV kvs (Sum.inl i) = some v) : Ev (tDGet ta tb) σ H v := fun H1 e Q q =>
  hd H1 e _ fun H2 e2 => hk H2 (e.trans e2) _ fun H3 e3 => ⟨d, v, rfl, .inl ⟨kvs, Sum.inl i, ex_rd ((e.trans e2).trans e3) e0, rfl, h.symm⟩, q H3 (e2.trans e3)⟩
theorem ev_dinR {d : Addr} {kvs : List (Key × V)} {i : Int} (hk : Ev tb σ H (.int i)) (hd : Ev ta σ H (.ref d)) (e0 : Rd H d (.dK kvs)) : Ev (tDIn tb ta) σ H (.bl (valV kvs (Sum.inl i)).isSome) := fun H1 e Q q =>
  hk H1 e _ fun H2 e2 => hd H2 (e.trans e2) _ fun H3 e3 => ⟨d, _, rfl, .inl ⟨kvs, Sum.inl i, ex_rd ((e.trans e2).trans e3) e0, rfl, rfl⟩, q H3 (e2.trans e3)⟩
theorem ev_dninR {d : Addr} {kvs : List (Key × V)} {i : Int} (hk : Ev tb σ H (.int i)) (hd : Ev ta σ H (.ref d)) (e0 : Rd H d (.dK kvs)) : Ev (tDNotIn tb ta) σ H (.bl (!(valV kvs (Sum.inl i)).isSome)) := fun H1 e Q q =>
  hk H1 e _ fun H2 e2 => hd H2 (e.trans e2) _ fun H3 e3 => ⟨d, _, rfl, .inl ⟨kvs, Sum.inl i, ex_rd ((e.trans e2).trans e3) e0, rfl, rfl⟩, q H3 (e2.trans e3)⟩
/-- sorted(d), int keys -/
def rSrtD : List V → Hp → VK → Prop := fun xs H Q => ∃ (a : Addr) (kvs : List (Key × V)) (ks : List Int), xs = [.ref a] ∧ Rd H a (.dK kvs) ∧ kvs.map (·.1) = ks.map Sum.inl ∧ ks.length < 64 ∧ ∀ (ys : List Int) (p : Addr), ys.Perm ks → ys.Pairwise (· ≤ ·) → H p = none → Q (.ref p) (upd H p (.lst (ys.map V.int)))
theorem el_srtD {d : Addr} {kvs : List (Key × V)} {ks : List Int} (hd : Ev td σ H (.ref d)) (e0 : Rd H d (.dK kvs)) (hk : kvs.map (·.1) = ks.map Sum.inl) (nd : ks.Nodup) (hl : ks.length < 64) : EvL (tCB rSrtD (tCons td tNil)) σ H ((KB.asc ks).map V.int) := fun H1 e Q q =>
  hd H1 e _ fun H2 e2 => ⟨d, kvs, ks, rfl, ex_rd (e.trans e2) e0, hk, hl, fun ys p pm so np => by
    have ey : ys = KB.asc ks := KB.asc_eq (by
      have nd' : ys.Nodup := pm.nodup_iff.mpr nd
      exact List.Pairwise.imp (fun h => by have h1 := h.1; have h2 := h.2; omega) (so.and nd')) fun k => pm.mem_iff
    subst ey
    exact q p _ (fresh_back e2 np) (e2.trans (Ex.new np)) upd_same⟩
theorem cr_srtD {X : Cx} (hc : X.calm = true) : CallR X (.builtin "sorted") rSrtD := call_sortedDI hc
end
end Evl
namespace KB
open PySem PySem.Spec PyProof.Rows L2 Evl
abbrev Ent := Rw × Addr
def row5 (r : Rw) : List V := [.int r.up, .int r.s, .int r.g, .bl r.ad, .str (wordOf r.w)]
def tbl (L : List Ent) : List (Key × V) := L.map fun e => (Sum.inl e.1.n, V.ref e.2)
def rowsL (L : List Ent) : List Rw := L.map (·.1)
def famL (L : List Ent) : Fam := srtR (rowsL L)
/-- the law's own families -/
structure Lk (H : Hp) (kd : Addr) (L : List Ent) : Prop where
  top : Rd H kd (.dK (tbl L))
  rows : ∀ e ∈ L, H e.2 = some (.lst (row5 e.1))
section
variable {K : PySem.W.Frag} {σ : L2.St} {H H' : Hp} {kd : Addr} {L : List Ent} {ta tb : TE} {n : Int}
theorem Lk.mono (e : Ex H H') (h : Lk H kd L) : Lk H' kd L := ⟨ex_rd e h.top, fun x m => e _ _ (h.rows x m)⟩
theorem nodupL (B : Born (rowsL L)) : (L.map fun e => e.1.n).Nodup := by
  have h := B.nd
  unfold rowsL at h
  rw [List.map_map] at h
  exact h
theorem lenL (B : Born (rowsL L)) : L.length ≤ 20 := by
  have h := B.few
  unfold rowsL at h
  rw [List.length_map] at h
  exact h
theorem wfL (B : Born (rowsL L)) : WF (famL L) := B.wf
theorem in_keys (B : Born (rowsL L)) (h : n ∈ keys (famL L)) : ∃ e ∈ L, e.1.n = n := by
  unfold famL at h
  rw [keys_srt, mem_asc] at h
  obtain ⟨r, m, e⟩ := List.mem_map.mp h
  obtain ⟨x, mx, rfl⟩ := List.mem_map.mp m
  exact ⟨x, mx, e⟩
theorem key_in (B : Born (rowsL L)) {e : Ent} (h : e ∈ L) : e.1.n ∈ keys (famL L) := by
  unfold famL
  rw [keys_srt, mem_asc]
  exact List.mem_map_of_mem (f := fun r : Rw => r.n) (List.mem_map_of_mem (f := fun e : Ent => e.1) h)
theorem row_in (B : Born (rowsL L)) {e : Ent} (h : e ∈ L) : e.1 ∈ famL L := (mem_srtR B.nd).mpr (List.mem_map_of_mem (f := fun e : Ent => e.1) h)
theorem val_tbl (B : Born (rowsL L)) {e : Ent} (h : e ∈ L) : valV (tbl L) (Sum.inl e.1.n) = some (.ref e.2) := val_map (fun e : Ent => e.1.n) (fun e => V.ref e.2) L (nodupL B) e h
theorem val_tblIs (B : Born (rowsL L)) (n : Int) : (valV (tbl L) (Sum.inl n)).isSome = decide (n ∈ keys (famL L)) := by
  by_cases h : n ∈ keys (famL L)
  · obtain ⟨e, m, rfl⟩ := in_keys B h
    rw [val_tbl B m, decide_eq_true h]
    rfl
  · have : n ∉ L.map fun e => e.1.n := fun m => by
      obtain ⟨e, me, z⟩ := List.mem_map.mp m
      exact h (by rw [← z]; exact key_in B me)
    unfold tbl
    rw [val_no (fun e : Ent => e.1.n) (fun e => V.ref e.2) n L this, decide_eq_false h]
    rfl
variable (B : Born (rowsL L)) (N : Lk H kd L) (hk : Ev ta σ H (.ref kd)) (hb : Ev tb σ H (.int n))
include B N hk
theorem lk_row (hb : Ev tb σ H (.int n)) (m : n ∈ keys (famL L)) {i : Nat} {z : V} (hz : ∀ r ∈ famL L, r.n = n → (row5 r)[i]? = some z) : Ev (tOp (rIxL K) (tDGet ta tb) (tC (.int (i : Int)))) σ H z := by
  obtain ⟨e, me, rfl⟩ := in_keys B m
  exact ev_op (ev_dgetR hk hb N.top (val_tbl B me)) ev_c (rv_ixL (sq_of (N.rows e me)) (atI_nat (hz e.1 (row_in B me) rfl)))
theorem lk_up (hb : Ev tb σ H (.int n)) (m : n ∈ keys (famL L)) : Ev (tOp (rIxL K) (tDGet ta tb) (tC (.int 0))) σ H (.int (up (famL L) n)) :=
  lk_row (i := 0) B N hk hb m fun r mr e => by rw [← e, (wfL B).up mr]; rfl
theorem lk_ses (hb : Ev tb σ H (.int n)) (m : n ∈ keys (famL L)) : Ev (tOp (rIxL K) (tDGet ta tb) (tC (.int 1))) σ H (.int (ses (famL L) n)) :=
  lk_row (i := 1) B N hk hb m fun r mr e => by rw [← e, (wfL B).ses mr]; rfl
theorem lk_grp (hb : Ev tb σ H (.int n)) (m : n ∈ keys (famL L)) : Ev (tOp (rIxL K) (tDGet ta tb) (tC (.int 2))) σ H (.int (grp (famL L) n)) :=
  lk_row (i := 2) B N hk hb m fun r mr e => by rw [← e, (wfL B).grp mr]; rfl
theorem lk_ado (hb : Ev tb σ H (.int n)) (m : n ∈ keys (famL L)) : Ev (tOp (rIxL K) (tDGet ta tb) (tC (.int 3))) σ H (.bl (ado (famL L) n)) :=
  lk_row (i := 3) B N hk hb m fun r mr e => by rw [← e, (wfL B).ado mr]; rfl
theorem lk_in (hb : Ev tb σ H (.int n)) : Ev (tDIn tb ta) σ H (.bl (decide (n ∈ keys (famL L)))) := by
  rw [← val_tblIs B n]
  exact ev_dinR hb hk N.top
theorem lk_nin (hb : Ev tb σ H (.int n)) : Ev (tDNotIn tb ta) σ H (.bl (!decide (n ∈ keys (famL L)))) := by
  rw [← val_tblIs B n]
  exact ev_dninR hb hk N.top
theorem lk_sorted : EvL (tCB rSrtD (tCons ta tNil)) σ H ((keys (famL L)).map V.int) := by
  unfold famL
  rw [keys_srt]
  have e : (rowsL L).map (·.n) = L.map fun e => e.1.n := by unfold rowsL; rw [List.map_map]; rfl
  rw [e]
  exact el_srtD hk N.top (by unfold tbl; rw [List.map_map, List.map_map]; rfl) (nodupL B) (by rw [List.length_map]; have := lenL B; omega)
end
/-! ### _law_above, _law_tops -/
abbrev nLTops : List Str := ["_law_kin", "_law_session_here", "_law_some", "_law_n"]
def spLAbove : Sp := fun vs H Q _ => ∃ kd L n, vs = [.ref kd, .int n] ∧ Lk H kd L ∧ Born (rowsL L) ∧ n ∈ keys (famL L) ∧ RetV (.int (adopter (famL L) n)) H Q
def spLTops : Sp := fun vs H Q _ => ∃ kd L s, vs = [.ref kd, .int s] ∧ Lk H kd L ∧ Born (rowsL L) ∧ RetL ((tops (famL L) s).map V.int) H Q
section
variable {P : Program} {w : World} {K : PySem.W.Frag} {mg : Str → Option Value} {base : Heap} {f : Addr} {fd : FuncData}
end
end KB
set_option Elab.async false
set_option linter.all false
set_option maxRecDepth 100000
set_option maxHeartbeats 4000000
namespace KB
open PySem PySem.Spec PyProof.Rows L2 Evl
/-- the law's own families, not walked at present -/
structure LkU (H : Hp) (kd : Addr) (L : List Ent) : Prop where
  top : H kd = some (.dK (tbl L))
  rows : ∀ e ∈ L, H e.2 = some (.lst (row5 e.1))
theorem LkU.lk {H : Hp} {kd : Addr} {L : List Ent} (h : LkU H kd L) : Lk H kd L := ⟨.inl h.top, h.rows⟩
theorem LkU.mono {H H' : Hp} {kd : Addr} {L : List Ent} (e : Ex H H') (h : LkU H kd L) : LkU H' kd L := ⟨e _ _ h.top, fun x m => e _ _ (h.rows x m)⟩
def numsL (L : List Ent) : List Int := L.map fun e => e.1.n
/-- [e for n in kin if t] -/
theorem el_lockK {K : PySem.W.Frag} {σ : L2.St} {H : Hp} {kd : Addr} {L : List Ent} {t : TT} {te : TE} {j i0 : Nat} {vs : List Nat} (U : LkU H kd L) (few : L.length ≤ 20) (hi : σ[i0]? = some (some (.ref kd))) (p : Int → Bool) (g : Int → V) (hw : ∀ x, wipe ((wipe σ vs).set j (some x)) vs = wipe σ vs)
    (ht : ∀ n ∈ numsL L, ∀ G, Lk G kd L → EvT t ((wipe σ vs).set j (some (.int n))) G (p n)) (he : ∀ n ∈ numsL L, p n = true → ∀ G, Lk G kd L → Ev te ((wipe σ vs).set j (some (.int n))) G (g n)) :
    EvL (tLockE (tLc (iKeys (tVar i0)) (gName j) t te vs)) σ H (((numsL L).filter p).map g) := fun H1 e1 Q q => by
  have U1 := U.mono e1
  refine ⟨kd, .dK (tbl L), U1.top, True.intro, fun od => ?_⟩
  have gk : upd H1 kd (.frz od (.dK (tbl L))) kd = some (.frz od (.dK (tbl L))) := upd_same
  have st : ∀ {b : Addr} {o : HO}, b ≠ kd → H1 b = some o → upd H1 kd (.frz od (.dK (tbl L))) b = some o := fun n h => (upd_ne n).trans h
  have Nf : Lk (upd H1 kd (.frz od (.dK (tbl L)))) kd L := ⟨.inr ⟨od, gk⟩, fun x m => st (fun z => by have h := U1.rows x m; rw [z, U1.top] at h; cases h) (U1.rows x m)⟩
  have fr : ∀ {b : Addr}, upd H1 kd (.frz od (.dK (tbl L))) b = none → H1 b = none := fun {b} h => by
    by_cases z : b = kd
    · rw [z, gk] at h; cases h
    · rw [upd_ne z] at h; exact h
  generalize upd H1 kd (.frz od (.dK (tbl L))) = Hf at gk st Nf fr ⊢
  refine ⟨_, hi, kd, od, rfl, .inl ⟨tbl L, gk, fun Dl hD => lc_it (walk_keys (d := kd) (o := od) (kvs := tbl L)) (Made Hf (numsL L) p g Dl) ⟨hD, Ex.new hD, upd_same⟩ (fun i G _ m => m.2.1 _ _ gk) ?_ fun G m => ?_⟩⟩
  · rintro i x G _ hi m ⟨rfl, k, v, ek, rfl⟩
    unfold tbl at ek
    rw [List.getElem?_map] at ek
    obtain ⟨e, ee, e2⟩ := Option.map_eq_some_iff.mp ek
    obtain ⟨rfl, rfl⟩ := Prod.mk.inj e2
    have en : (numsL L)[i]? = some e.1.n := by
      unfold numsL
      rw [List.getElem?_map, ee]
      rfl
    have mn := List.mem_of_getElem? en
    exact ⟨hw _, made_turn m (by unfold numsL; rw [List.length_map]; omega) en (ht _ mn Hf Nf) (fun hp => he _ mn hp Hf Nf)⟩
  · obtain ⟨nD, eG, gD⟩ := m
    have len : (tbl L).length = (numsL L).length := by unfold tbl numsL; rw [List.length_map, List.length_map]
    rw [len, List.take_length] at gD
    have nk : Dl ≠ kd := fun z => by rw [z, gk] at nD; cases nD
    refine ⟨eG _ _ gk, q Dl _ (fr nD) (fun b o h => ?_) ((upd_ne nk).trans gD)⟩
    by_cases z : b = kd
    · rw [z, upd_same, ← U1.top, ← z, h]
    · rw [upd_ne z]
      exact eG _ _ (st z h)
section
variable {K : PySem.W.Frag} {L : List Ent}
theorem num_in (B : Born (rowsL L)) {n : Int} (h : n ∈ numsL L) : n ∈ keys (famL L) := by
  obtain ⟨e, m, rfl⟩ := List.mem_map.mp h
  exact key_in B m
theorem num_iff (B : Born (rowsL L)) {n : Int} : n ∈ numsL L ↔ n ∈ keys (famL L) := ⟨num_in B, fun h => by
  obtain ⟨e, m, rfl⟩ := in_keys B h
  exact List.mem_map_of_mem (f := fun e : Ent => e.1.n) m⟩
theorem len_nums (L : List Ent) : (numsL L).length = L.length := List.length_map _
/-- what is told by number, over the law's order and over the image's -/
theorem asc_nums (B : Born (rowsL L)) (p : Int → Bool) (g : Int → Int) : asc (((numsL L).filter p).map g) = asc (((keys (famL L)).filter p).map g) := asc_congr fun k => by
  rw [List.mem_map, List.mem_map]
  constructor
  · rintro ⟨n, m, e⟩
    obtain ⟨m1, m2⟩ := List.mem_filter.mp m
    exact ⟨n, List.mem_filter.mpr ⟨(num_iff B).mp m1, m2⟩, e⟩
  · rintro ⟨n, m, e⟩
    obtain ⟨m1, m2⟩ := List.mem_filter.mp m
    exact ⟨n, List.mem_filter.mpr ⟨(num_iff B).mpr m1, m2⟩, e⟩
end
abbrev nSplit : List Str := ["_law_kin", "_law_group_here", "_law_some", "_law_n"]
def spSplit : Sp := fun vs H Q _ => ∃ kd L g, vs = [.ref kd, .int g] ∧ LkU H kd L ∧ Born (rowsL L) ∧ g ∈ groups (famL L) ∧ RetV (.bl (splitB (famL L) g)) H Q
abbrev tKin (K : PySem.W.Frag) (i j k : Nat) : TE := tOp (rIxL K) (tDGet (tVar i) (tVar j)) (tC (.int (k : Int)))
section
variable {P : Program} {w : World} {K : PySem.W.Frag} {mg : Str → Option Value} {base : Heap} {f fT fA : Addr} {fd dT dA : FuncData}
end
end KB
set_option Elab.async false
set_option linter.all false
set_option maxRecDepth 100000
set_option maxHeartbeats 4000000
namespace Evl
open PySem L2
section
variable {K : PySem.W.Frag} {σ : L2.St} {H H' G : Hp} {ta tb te tx td tl : TE} {t u : TT} {x y z v : V}
theorem el_cat {xs ys : List V} (ha : EvL ta σ H xs) (hb : EvL tb σ H ys) (hz : xs.length + ys.length ≤ 100000) : EvL (tOp rCat ta tb) σ H (xs ++ ys) := fun H1 e Q q =>
  ha H1 e _ fun p H2 np e2 gp => hb H2 (e.trans e2) _ fun r H3 nr e3 gr => ⟨p, r, xs, ys, rfl, rfl, e3 _ _ gp, gr, sz_of hz, fun l nl => q l _ (fresh_back (e2.trans e3) nl) ((e2.trans e3).trans (Ex.new nl)) upd_same⟩
theorem el_catV {xs ys : List V} {a : Addr} (ha : Ev ta σ H (.ref a)) (ga : H a = some (.lst xs)) (hb : EvL tb σ H ys) (hz : xs.length + ys.length ≤ 100000) : EvL (tOp rCat ta tb) σ H (xs ++ ys) := fun H1 e Q q =>
  ha H1 e _ fun H2 e2 => hb H2 (e.trans e2) _ fun r H3 nr e3 gr => ⟨a, r, xs, ys, rfl, rfl, e3 _ _ (e2 _ _ (e _ _ ga)), gr, sz_of hz, fun l nl => q l _ (fresh_back (e2.trans e3) nl) ((e2.trans e3).trans (Ex.new nl)) upd_same⟩
theorem el_srt {ns : List Int} (h : EvL tl σ H (ns.map V.int)) (nd : ns.Nodup) (hz : ns.length < 64) : EvL (tCB (rSorted K) (tCons tl tNil)) σ H ((KB.asc ns).map V.int) := fun H1 e Q q =>
  h H1 e _ fun p H2 np e2 gp => ⟨p, ns, rfl, sq_of gp, hz, fun ys r pm so nr => by
    have ey : ys = KB.asc ns := KB.asc_eq (List.Pairwise.imp (fun h => by have h1 := h.1; have h2 := h.2; omega) (so.and (pm.nodup_iff.mpr nd))) fun k => pm.mem_iff
    subst ey
    exact q r _ (fresh_back e2 nr) (e2.trans (Ex.new nr)) upd_same⟩
end
end Evl
namespace KB
open PySem PySem.Spec PyProof.Rows L2 Evl
abbrev nTorn : List Str := ["_law_kin", "_law_session_here", "_law_tops_here", "_law_own", "_law_n", "_law_up"]
def spTorn : Sp := fun vs H Q _ => ∃ kd L s, vs = [.ref kd, .int s] ∧ Lk H kd L ∧ Born (rowsL L) ∧ s ∈ sessions (famL L) ∧ RetL (((keys (famL L)).filter (barsS (famL L) s)).map V.int) H Q
section
variable {M : Fam}
theorem nd_keys (W : WF M) : (keys M).Nodup := W.asc.imp fun h => Int.ne_of_lt h
/-- every session has a top -/
theorem top_some (W : WF M) {s : Int} (h : s ∈ sessions M) : ∃ o rest, tops M s = o :: rest := by
  obtain ⟨r, m, e⟩ := List.mem_map.mp (mem_asc.mp h)
  have key : ∀ n ∈ keys M, ses M n = s → ∃ o, o ∈ tops M s := by
    refine up_ind W (fun n mn z e => ?_) (fun n mn z ih e => ?_)
    · exact ⟨n, mem_tops.mpr ⟨mn, by unfold topB; rw [decide_eq_true e, decide_eq_true z]; rfl⟩⟩
    · by_cases w : ses M (up M n) = s
      · exact ih w
      · exact ⟨n, mem_tops.mpr ⟨mn, by unfold topB; rw [decide_eq_true e, decide_eq_false w, Bool.or_comm]; rfl⟩⟩
  obtain ⟨o, mo⟩ := key r.n (List.mem_map_of_mem (f := fun r : Rw => r.n) m) (by rw [W.ses m]; exact e)
  cases z : tops M s with
  | nil => rw [z] at mo; cases mo
  | cons o l => exact ⟨o, l, rfl⟩
end
section
variable {P : Program} {w : World} {K : PySem.W.Frag} {mg : Str → Option Value} {base : Heap} {f fT fA : Addr} {fd dT dA : FuncData}
end
end KB
set_option Elab.async false
set_option linter.all false
set_option maxRecDepth 100000
set_option maxHeartbeats 4000000
namespace KB
open PySem PySem.Spec PyProof.Rows L2 Evl
/-! ### data that are made -/
/-- a datum that holds nothing of what came since H -/
def EvM (te : TE) (σ : L2.St) (H : Hp) (d : PyData) : Prop := ∀ (Mk : List Addr) H1, Ex H H1 → (∀ b ∈ Mk, H b = none ∧ H1 b ≠ none) → ∀ Q : VK, (∀ v H2, Ex H1 H2 → Dx (mask H2 Mk) v d → Q v H2) → te σ H1 Q
theorem DxAll.app {H : Hp} : ∀ {vs us : List V} {ds es : List PyData}, DxAll H vs ds → DxAll H us es → DxAll H (vs ++ us) (ds ++ es)
  | _, _, _, _, .nil, k => k
  | _, _, _, _, .cons h t, k => .cons h (DxAll.app t k)
theorem mask_ex {H H1 : Hp} {Mk : List Addr} (e : Ex H H1) (h : ∀ b ∈ Mk, H b = none) : Ex H (mask H1 Mk) := fun b o hb => mask_of (e b o hb) fun m => by rw [h b m] at hb; cases hb
theorem mask_sub (H : Hp) (Mk : List Addr) : Ex (mask H Mk) H := fun b o h => (mask_at h).1
theorem Dx.unmask {H : Hp} {Mk : List Addr} {v : V} {d : PyData} (h : Dx (mask H Mk) v d) : Dx H v d := h.mono (mask_sub H Mk)
section
variable {K : PySem.W.Frag} {σ : L2.St} {H H' : Hp} {ta tb te tx tl : TE} {t : TT} {d : PyData}
theorem EvM.x (h : EvM te σ H d) : EvX te σ H d := fun H1 e Q q => h [] H1 e (fun b m => nomatch m) Q fun v H2 e2 g => q v H2 e2 g.unmask
theorem em_tup {ta : TA} {vs : List V} {ds : List PyData} (h : EvA ta σ H vs) (hd : DxAll H vs ds) (hl : vs.length ≤ 100000) : EvM (tTup ta) σ H (.tuple ds) := fun Mk H1 e hM Q q =>
  h H1 e _ fun H2 e2 => ⟨sz_of hl, fun p np => q _ _ (e2.trans (Ex.new np)) (.tup (mask_of upd_same fun m => (hM p m).2 (fresh_back e2 np)) (hd.mono (mask_ex ((e.trans e2).trans (Ex.new np)) fun b m => (hM b m).1)))⟩
theorem ex_cat {ds es : List PyData} (ha : EvX ta σ H (.list ds)) (hb : EvX tb σ H (.list es)) (hz : ds.length + es.length ≤ 100000) : EvX (tOp rCat ta tb) σ H (.list (ds ++ es)) := fun H1 e Q q =>
  ha H1 e _ fun v H2 e2 dv => hb H2 (e.trans e2) _ fun u H3 e3 du => by
    cases dv with
    | @lst a xs _ ga hx =>
      cases du with
      | @lst b ys _ gb hy =>
        refine ⟨a, b, xs, ys, rfl, rfl, e3 _ _ ga, gb, sz_of (by rw [hx.length, hy.length]; exact hz), fun p np => q _ _ ((e2.trans e3).trans (Ex.new np)) ?_⟩
        exact .lst upd_same (((hx.mono e3).app hy).mono (Ex.new np))
theorem ev_x {v : V} (h : Ev te σ H v) (g : Dx H v d) : EvX te σ H d := fun H1 e Q q => h H1 e _ fun H2 e2 => q v H2 e2 (g.mono (e.trans e2))
/-- the list of data that is made, behind i turns -/
def MadeX {α : Type} (H1 : Hp) (xs : List α) (p : α → Bool) (g : α → PyData) (Dl : Addr) (i : Nat) (G : Hp) : Prop := H1 Dl = none ∧ Ex H1 G ∧ ∃ acc, G Dl = some (.lst acc) ∧ DxAll (mask G [Dl]) acc (((xs.take i).filter p).map g)
theorem madeX_turn {α : Type} {H1 G : Hp} {xs : List α} {p : α → Bool} {g : α → PyData} {Dl : Addr} {i : Nat} {b : α} {σ2 : L2.St} (m : MadeX H1 xs p g Dl i G) (hz : xs.length ≤ 40000) (eb : xs[i]? = some b) (ht : EvT t σ2 H1 (p b)) (he : p b = true → EvM te σ2 H1 (g b)) :
    t σ2 G fun c H3 => if c = true then te σ2 H3 fun y H4 => ∃ acc, H4 Dl = some (.lst acc) ∧ acc.length < sizeLine ∧ MadeX H1 xs p g Dl (i + 1) (upd H4 Dl (.lst (acc ++ [y]))) else MadeX H1 xs p g Dl (i + 1) H3 := by
  obtain ⟨n1, eG, acc, gD, da⟩ := m
  have nx : (xs.take (i + 1)).filter p = (xs.take i).filter p ++ if p b = true then [b] else [] := by
    rw [List.take_add_one, eb, List.filter_append]
    show _ ++ List.filter p [b] = _
    cases hp : p b <;> simp [hp]
  refine ht G eG _ fun G2 e2 => ?_
  cases hp : p b with
  | true =>
    refine iteT (he hp [Dl] G2 (eG.trans e2) (fun c mc => by rw [List.mem_singleton.mp mc]; exact ⟨n1, by rw [e2 _ _ gD]; exact fun z => nomatch z⟩) _ fun v G3 e3 dv => ⟨acc, e3 _ _ (e2 _ _ gD), ?_, n1, Ex.mut (eG.trans (e2.trans e3)) n1, acc ++ [v], upd_same, ?_⟩)
    · rw [da.length, List.length_map]
      exact sz_lt (by have h1 := List.length_filter_le p (xs.take i); have h2 := List.length_take_le i xs; have h3 := (List.getElem?_eq_some_iff.mp eb).1; omega)
    · rw [mask_upd (List.mem_singleton.mpr rfl), nx, hp, List.map_append]
      exact (da.mono (mask_same (e2.trans e3) fun _ _ _ z => z)).snoc dv
  | false =>
    refine iteF ⟨n1, eG.trans e2, acc, e2 _ _ gD, ?_⟩
    rw [nx, hp]
    simpa using da.mono (mask_same e2 fun _ _ _ z => z)
theorem madeX_end {α : Type} {H1 G : Hp} {xs : List α} {p : α → Bool} {g : α → PyData} {Dl : Addr} (m : MadeX H1 xs p g Dl xs.length G) : Dx G (.ref Dl) (.list ((xs.filter p).map g)) := by
  obtain ⟨_, _, acc, gD, da⟩ := m
  rw [List.take_length] at da
  exact .lst gD (da.mono (mask_sub G _))
/-- [e for x in xs if t], e a new datum; xs a new list -/
theorem ex_lcN {α : Type} {xs : List α} {j : Nat} {vs : List Nat} (emb : α → V) (p : α → Bool) (g : α → PyData) (h : EvL tl σ H (xs.map emb)) (hz : xs.length ≤ 40000) (hw : ∀ x, wipe ((wipe σ vs).set j (some x)) vs = wipe σ vs)
    (ht : ∀ b ∈ xs, ∀ H1, Ex H H1 → EvT t ((wipe σ vs).set j (some (emb b))) H1 (p b)) (he : ∀ b ∈ xs, p b = true → ∀ H1, Ex H H1 → EvM te ((wipe σ vs).set j (some (emb b))) H1 (g b)) :
    EvX (tLc (iList K tl) (gName j) t te vs) σ H (.list ((xs.filter p).map g)) := fun H0 e0 Q q => by
  have len : (xs.map emb).length = xs.length := List.length_map _
  refine h H0 e0 _ fun a H1 na e1 ga => ⟨a, rfl, ⟨_, sq_of ga⟩, fun Dl hD => lc_it (walk_list (K := K) (a := a) (xs := xs.map emb)) (MadeX H1 xs p g Dl) ⟨hD, Ex.new hD, [], upd_same, .nil⟩ (fun i G _ m => sq_of (m.2.1 _ _ ga)) ?_ fun G m => ?_⟩
  · rintro i x G _ hi m ⟨rfl, ex⟩
    rw [List.getElem?_map] at ex
    obtain ⟨b, eb, rfl⟩ := Option.map_eq_some_iff.mp ex
    have mb := List.mem_of_getElem? eb
    exact ⟨hw _, madeX_turn m hz eb (ht b mb H1 (e0.trans e1)) (fun hp => he b mb hp H1 (e0.trans e1))⟩
  · rw [len] at m
    exact q _ G (e1.trans m.2.1) (madeX_end m)
/-- .. xs a list that stands -/
theorem ex_lcV {α : Type} {xs : List α} {j : Nat} {vs : List Nat} {a : Addr} (emb : α → V) (p : α → Bool) (g : α → PyData) (h : Ev tl σ H (.ref a)) (hx : SqL K H a (xs.map emb)) (hz : xs.length ≤ 40000) (hw : ∀ x, wipe ((wipe σ vs).set j (some x)) vs = wipe σ vs)
    (ht : ∀ b ∈ xs, ∀ H1, Ex H H1 → EvT t ((wipe σ vs).set j (some (emb b))) H1 (p b)) (he : ∀ b ∈ xs, p b = true → ∀ H1, Ex H H1 → EvM te ((wipe σ vs).set j (some (emb b))) H1 (g b)) :
    EvX (tLc (iList K tl) (gName j) t te vs) σ H (.list ((xs.filter p).map g)) := fun H0 e0 Q q => by
  have len : (xs.map emb).length = xs.length := List.length_map _
  refine h H0 e0 _ fun H1 e1 => ⟨a, rfl, ⟨_, ex_l (e0.trans e1) hx⟩, fun Dl hD => lc_it (walk_list (K := K) (a := a) (xs := xs.map emb)) (MadeX H1 xs p g Dl) ⟨hD, Ex.new hD, [], upd_same, .nil⟩ (fun i G _ m => ex_l (e0.trans (e1.trans m.2.1)) hx) ?_ fun G m => ?_⟩
  · rintro i x G _ hi m ⟨rfl, ex⟩
    rw [List.getElem?_map] at ex
    obtain ⟨b, eb, rfl⟩ := Option.map_eq_some_iff.mp ex
    have mb := List.mem_of_getElem? eb
    exact ⟨hw _, madeX_turn m hz eb (ht b mb H1 (e0.trans e1)) (fun hp => he b mb hp H1 (e0.trans e1))⟩
  · rw [len] at m
    exact q _ G (e1.trans m.2.1) (madeX_end m)
end
/-! ### _law_needs -/
abbrev nLNeeds : List Str := ["_law_kin", "_law_n", "_law_session_here", "_law_at"]
def optI : Option Int → V
  | none => .non
  | some x => .int x
def spLNeeds : Sp := fun vs H Q _ => ∃ kd L n, vs = [.ref kd, .int n] ∧ Lk H kd L ∧ Born (rowsL L) ∧ n ∈ keys (famL L) ∧ RetV (optI (need (famL L) n)) H Q
def findUp (M : Fam) (p a : Int) : Option Int := (a :: above M a).find? fun b => !decide (b = 1) && decide (up M b = p)
theorem findUp_eq {M : Fam} (W : WF M) {a p : Int} (m : a ∈ keys M) : findUp M p a = if up M a = p then some a else if up M a = 1 then none else findUp M p (up M a) := by
  unfold findUp
  have z : a ≠ 1 := fun z => W.one (z ▸ m)
  rw [List.find?_cons, decide_eq_false z]
  by_cases h : up M a = p
  · rw [if_pos h, decide_eq_true h]
    rfl
  · rw [if_neg h, decide_eq_false h, above_eq W m]
    by_cases h1 : up M a = 1
    · rw [if_pos h1, if_pos h1, h1]
      rfl
    · rw [if_neg h1, if_neg h1]
      rfl
section
variable {P : Program} {w : World} {K : PySem.W.Frag} {mg : Str → Option Value} {base : Heap} {f fT fA fN : Addr} {fd dT dA dN : FuncData}
end
end KB
set_option Elab.async false
set_option linter.all false
set_option maxRecDepth 100000
set_option maxHeartbeats 4000000
namespace Evl
open PySem L2
section
variable {K : PySem.W.Frag} {σ : L2.St} {H H' G : Hp} {ta tb te tx td tl : TE} {t u : TT} {x y z v : V} {D : Ends} {tz : TS}
theorem s_parL {xs : List V} {i j : Nat} (h1 : EvL ta σ H xs) (h2 : ∀ H1, Ex H H1 → Ev tb σ H1 v) (k : ∀ p H1, H p = none → Ex H H1 → H1 p = some (.lst xs) → D.nx ((σ.set i (some (.ref p))).set j (some v)) H1) : tPar i j (tCons ta (tCons tb tNil)) D σ H :=
  h1 H (Ex.refl H) _ fun p H1 np e1 g1 => h2 H1 e1 H1 (Ex.refl H1) _ fun H2 e2 => ⟨_, _, rfl, k p H2 np (e1.trans e2) (e2 _ _ g1)⟩
theorem q_parL {xs : List V} {i j : Nat} (h1 : EvL ta σ H xs) (h2 : ∀ H1, Ex H H1 → Ev tb σ H1 v) (k : ∀ p H1, H p = none → Ex H H1 → H1 p = some (.lst xs) → tz D ((σ.set i (some (.ref p))).set j (some v)) H1) : tSeq (tPar i j (tCons ta (tCons tb tNil))) tz D σ H := s_parL (D := { D with nx := tz D }) h1 h2 k
end
end Evl
namespace KB
open PySem PySem.Spec PyProof.Rows L2 Evl
theorem opt_nn (o : Option Int) : (!decide (optI o = .non)) = o.isSome := by cases o <;> rfl
theorem opt_eqn (o : Option Int) (n : Int) : decide (optI o = .int n) = decide (o = some n) := by
  cases o with
  | none => simp [optI]
  | some x => simp [optI]
theorem opt_scal (o : Option Int) (n : Int) : scal (optI o) (.int n) = true := by cases o <;> rfl
abbrev nRings : List Str := ["_law_kin", "_law_found", "_law_n", "_law_row", "_law_later"]
def rowsD (rs : List (List Int)) : List PyData := rs.map fun row => .list (row.map PyData.int)
def spRings : Sp := fun vs H Q _ => ∃ kd L, vs = [.ref kd] ∧ Lk H kd L ∧ Born (rowsL L) ∧ RetD (.list (rowsD ((keys (famL L)).filterMap (ring (famL L))))) H Q
section
variable {P : Program} {w : World} {K : PySem.W.Frag} {mg : Str → Option Value} {base : Heap} {f fN : Addr} {fd dN : FuncData}
end
end KB
set_option Elab.async false
set_option linter.all false
set_option maxRecDepth 100000
set_option maxHeartbeats 4000000
namespace KB
open PySem PySem.Spec PyProof.Rows L2 Evl
theorem DxAll.zip {H : Hp} : ∀ {vs : List V} {ds : List PyData}, DxAll H vs ds → (vs.zip ds).map (·.1) = vs ∧ (vs.zip ds).map (·.2) = ds ∧ ∀ p ∈ vs.zip ds, Dx H p.1 p.2
  | _, _, .nil => ⟨rfl, rfl, fun p m => nomatch m⟩
  | _, _, .cons h t => by
    obtain ⟨a, b, c⟩ := DxAll.zip t
    refine ⟨by rw [List.zip_cons_cons, List.map_cons, a], by rw [List.zip_cons_cons, List.map_cons, b], fun p m => ?_⟩
    rw [List.zip_cons_cons] at m
    rcases List.mem_cons.mp m with m | m
    · rw [m]; exact h
    · exact c p m
/-- [e for x in xs], xs data of a list that is made -/
theorem ex_lcD {K : PySem.W.Frag} {σ : L2.St} {H : Hp} {te tl : TE} {ds : List PyData} {j : Nat} {vs : List Nat} (g : PyData → PyData) (h : EvX tl σ H (.list ds)) (hz : ds.length ≤ 40000) (hw : ∀ x, wipe ((wipe σ vs).set j (some x)) vs = wipe σ vs)
    (he : ∀ v, ∀ d ∈ ds, ∀ H1, Ex H H1 → Dx H1 v d → EvM te ((wipe σ vs).set j (some v)) H1 (g d)) : EvX (tLc (iList K tl) (gName j) tYes te vs) σ H (.list (ds.map g)) := fun H0 e0 Q q => by
  refine h H0 e0 _ fun u H1 e1 du => ?_
  cases du with
  | @lst a acc _ ga hx =>
    obtain ⟨z1, z2, z3⟩ := hx.zip
    have len : acc.length = (acc.zip ds).length := by rw [← congrArg List.length z1, List.length_map]
    have lend := hx.length
    refine ⟨a, rfl, ⟨_, sq_of ga⟩, fun Dl hD => lc_it (walk_list (K := K) (a := a) (xs := acc)) (MadeX H1 (acc.zip ds) (fun _ => true) (fun p => g p.2) Dl) ⟨hD, Ex.new hD, [], upd_same, .nil⟩ (fun i G _ m => sq_of (m.2.1 _ _ ga)) ?_ fun G m => ?_⟩
    · rintro i x G _ hi m ⟨rfl, ex⟩
      have ex2 : ((acc.zip ds).map (·.1))[i]? = some x := by rw [z1]; exact ex
      rw [List.getElem?_map] at ex2
      obtain ⟨b, eb, rfl⟩ := Option.map_eq_some_iff.mp ex2
      have mb := List.mem_of_getElem? eb
      have md : b.2 ∈ ds := by
        have : b.2 ∈ (acc.zip ds).map (·.2) := List.mem_map_of_mem (f := fun p : V × PyData => p.2) mb
        rw [z2] at this
        exact this
      exact ⟨hw _, madeX_turn m (by omega) eb et_yes (fun _ => he b.1 b.2 md H1 (e0.trans e1) (z3 b mb))⟩
    · rw [len] at m
      have := madeX_end m
      rw [Evl.filter_all] at this
      have e : (acc.zip ds).map (fun p => g p.2) = ds.map g := by
        conv => rhs; rw [← z2]
        rw [List.map_map]
        rfl
      rw [e] at this
      exact q _ G (e1.trans m.2.1) this
abbrev nReasons : List Str := ["_law_kin", "_law_found", "_law_session_here", "_law_n", "_law_groups_so", "_law_group_here", "_law_row"]
def spReasons : Sp := fun vs H Q _ => ∃ kd L, vs = [.ref kd] ∧ LkU H kd L ∧ Born (rowsL L) ∧ RetD (.list ((reasons (famL L)).map rsD)) H Q
theorem flat_len {α : Type} (f : α → List Rs) (c : Nat) (h : ∀ a, (f a).length ≤ c) : ∀ (l : List α), (l.flatMap f).length ≤ c * l.length
  | [] => Nat.zero_le _
  | a :: l => by
    rw [List.flatMap_cons, List.length_append, List.length_cons]
    have h1 := h a
    have h2 := flat_len f c h l
    rw [Nat.mul_add, Nat.mul_one]
    omega
section
variable {P : Program} {w : World} {K : PySem.W.Frag} {mg : Str → Option Value} {base : Heap} {f fT fS fR : Addr} {fd dT dS dR : FuncData}
end
end KB
set_option Elab.async false
set_option linter.all false
set_option maxRecDepth 100000
set_option maxHeartbeats 4000000
namespace KB
open PySem PySem.Spec PyProof.Rows L2 Evl
/-- small data, of nesting at most k -/
def Nice : Nat → PyData → Prop
  | _, .none => True
  | _, .bool _ => True
  | _, .int i => i.natAbs.log2 < 64
  | _, .str s => s.length ≤ 8 ∧ (∀ c ∈ s.cps.toList, c < 16 ^ 8) ∧ PyData.canLay0 (.str s) = true
  | 0, .list _ => False
  | 0, .tuple _ => False
  | k + 1, .list ds => ds.length ≤ 20 ∧ ∀ d ∈ ds, Nice k d
  | k + 1, .tuple ds => ds.length ≤ 20 ∧ ∀ d ∈ ds, Nice k d
  | _, .dict _ => False
theorem Nice.up : ∀ {k : Nat} {d : PyData}, Nice k d → Nice (k + 1) d
  | _, .none, _ => by simp [Nice]
  | _, .bool _, _ => by simp [Nice]
  | _, .int _, h => by simpa [Nice] using h
  | _, .str _, h => by simpa [Nice] using h
  | 0, .list _, h => by simp [Nice] at h
  | 0, .tuple _, h => by simp [Nice] at h
  | k + 1, .list ds, h => by
    have h2 : ds.length ≤ 20 ∧ ∀ d ∈ ds, Nice k d := by simpa [Nice] using h
    show ds.length ≤ 20 ∧ ∀ d ∈ ds, Nice (k + 1) d
    exact ⟨h2.1, fun d hd => Nice.up (h2.2 d hd)⟩
  | k + 1, .tuple ds, h => by
    have h2 : ds.length ≤ 20 ∧ ∀ d ∈ ds, Nice k d := by simpa [Nice] using h
    show ds.length ≤ 20 ∧ ∀ d ∈ ds, Nice (k + 1) d
    exact ⟨h2.1, fun d hd => Nice.up (h2.2 d hd)⟩
  | _, .dict _, h => by simp [Nice] at h
def B : Nat → Nat
  | 0 => 100
  | k + 1 => 20 * (B k + 2) + 10
theorem B_ge : ∀ k, 100 ≤ B k
  | 0 => Nat.le_refl _
  | k + 1 => by
    have := B_ge k
    show 100 ≤ 20 * (B k + 2) + 10
    omega
theorem piled_le {n : Nat} : ∀ ts : List Str, (∀ t ∈ ts, t.length ≤ n) → piled ts ≤ ts.length * (n + 2)
  | [], _ => Nat.zero_le _
  | t :: ts, h => by
    have h1 := h t List.mem_cons_self
    have h2 := piled_le ts fun z hz => h z (List.mem_cons_of_mem _ hz)
    rw [piled_cons, List.length_cons, Nat.succ_mul]
    omega
theorem list_text (ts : List Str) : (listText ts).length ≤ piled ts + 2 := by
  cases ts with
  | nil => decide +kernel
  | cons t r =>
    have e := textFrom_length_pos r 1 (("[" : Str) ++ (if 0 > 0 then ", " else "" : String) ++ t) (by decide)
    show (textFrom 1 (("[" : Str) ++ (if 0 > 0 then ", " else "" : String) ++ t) r ++ "]").length ≤ _
    have e1 : ((("[" : String) : Str)).length = 1 := rfl
    have e2 : ((("]" : String) : Str)).length = 1 := rfl
    have e3 : (((if 0 > 0 then ", " else "" : String) : Str)).length = 0 := by decide +kernel
    rw [strLen_append, e, strLen_append, strLen_append, e1, e2, e3, piled_cons]
    omega
theorem shown_mem : ∀ {ds : List PyData} {t : Str}, t ∈ PyData.shownAll ds → ∃ d ∈ ds, t = d.shown
  | [], t, h => by simp [PyData.shownAll] at h
  | d :: ds, t, h => by
    simp only [PyData.shownAll, List.mem_cons] at h
    rcases h with h | h
    · exact ⟨d, List.mem_cons_self, h⟩
    · obtain ⟨e, he, ht⟩ := shown_mem h
      exact ⟨e, List.mem_cons_of_mem _ he, ht⟩
theorem shown_len : ∀ ds : List PyData, (PyData.shownAll ds).length = ds.length
  | [] => by simp [PyData.shownAll]
  | d :: ds => by simp [PyData.shownAll, shown_len ds]
theorem Nice.len : ∀ {k : Nat} {d : PyData}, Nice k d → d.shown.length ≤ B k
  | k, .none, _ => Nat.le_trans (by decide +kernel) (B_ge k)
  | k, .bool b, _ => Nat.le_trans (by cases b <;> decide +kernel) (B_ge k)
  | k, .int i, h => by
    have h2 : i.natAbs.log2 < 64 := by simpa [Nice] using h
    have e := int_text_length_le (k := 64) (by decide) h2
    refine Nat.le_trans ?_ (B_ge k)
    show (Str.ofString (toString i)).length ≤ 100
    rw [PySem.ofString_length]
    omega
  | k, .str s, h => by
    have h2 : s.length ≤ 8 ∧ (∀ c ∈ s.cps.toList, c < 16 ^ 8) ∧ PyData.canLay0 (.str s) = true := by simpa [Nice] using h
    have e := StrLaws.reprText_len s h2.2.1
    refine Nat.le_trans ?_ (B_ge k)
    show (reprText s).length ≤ 100
    omega
  | 0, .list _, h => by simp [Nice] at h
  | 0, .tuple _, h => by simp [Nice] at h
  | k + 1, .list ds, h => by
    have h2 : ds.length ≤ 20 ∧ ∀ d ∈ ds, Nice k d := by simpa [Nice] using h
    have e := piled_le (n := B k) (PyData.shownAll ds) fun t ht => by
      obtain ⟨d, hd, rfl⟩ := shown_mem ht
      exact Nice.len (h2.2 d hd)
    have f := list_text (PyData.shownAll ds)
    rw [shown_len] at e
    have g : ds.length * (B k + 2) ≤ 20 * (B k + 2) := Nat.mul_le_mul_right _ h2.1
    simp only [PyData.shown]
    show _ ≤ 20 * (B k + 2) + 10
    omega
  | k + 1, .tuple ds, h => by
    have h2 : ds.length ≤ 20 ∧ ∀ d ∈ ds, Nice k d := by simpa [Nice] using h
    have e := piled_le (n := B k) (PyData.shownAll ds) fun t ht => by
      obtain ⟨d, hd, rfl⟩ := shown_mem ht
      exact Nice.len (h2.2 d hd)
    have f := fmt_text (PyData.shownAll ds)
    rw [shown_len] at e
    have g : ds.length * (B k + 2) ≤ 20 * (B k + 2) := Nat.mul_le_mul_right _ h2.1
    simp only [PyData.shown]
    show _ ≤ 20 * (B k + 2) + 10
    omega
  | _, .dict _, h => by simp [Nice] at h
theorem all_of {ds : List PyData} (h : ∀ d ∈ ds, d.showable = true ∧ d.canLay0 = true) : PyData.showableAll ds = true ∧ PyData.canLayAll0 ds = true := by
  induction ds with
  | nil => exact ⟨by simp [PyData.showableAll], by simp [PyData.canLayAll0]⟩
  | cons d ds ih =>
    have h1 := h d List.mem_cons_self
    have h2 := ih fun e he => h e (List.mem_cons_of_mem _ he)
    exact ⟨by simp [PyData.showableAll, h1.1, h2.1], by simp [PyData.canLayAll0, h1.2, h2.2]⟩
theorem depth_of {k : Nat} {ds : List PyData} (h : ∀ d ∈ ds, d.depth ≤ k) : PyData.depthAll ds ≤ k := by
  induction ds with
  | nil => simp [PyData.depthAll]
  | cons d ds ih =>
    have h1 := h d List.mem_cons_self
    have h2 := ih fun e he => h e (List.mem_cons_of_mem _ he)
    simp only [PyData.depthAll]
    omega
theorem Nice.show : ∀ {k : Nat} {d : PyData}, Nice k d → (d.showable = true ∧ d.canLay0 = true) ∧ d.depth ≤ k
  | k, .none, _ => ⟨⟨by simp [PyData.showable], by simp [PyData.canLay0]⟩, by simp [PyData.depth]⟩
  | k, .bool b, _ => ⟨⟨by simp [PyData.showable], by simp [PyData.canLay0]⟩, by simp [PyData.depth]⟩
  | k, .int i, h => by
    have h2 : i.natAbs.log2 < 64 := by simpa [Nice] using h
    exact ⟨⟨by simp only [PyData.showable]; exact decide_eq_true (by omega), by simp [PyData.canLay0]⟩, by simp [PyData.depth]⟩
  | k, .str s, h => by
    have h2 : s.length ≤ 8 ∧ (∀ c ∈ s.cps.toList, c < 16 ^ 8) ∧ PyData.canLay0 (.str s) = true := by simpa [Nice] using h
    exact ⟨⟨by simp [PyData.showable], h2.2.2⟩, by simp [PyData.depth]⟩
  | 0, .list _, h => by simp [Nice] at h
  | 0, .tuple _, h => by simp [Nice] at h
  | k + 1, .list ds, h => by
    have h2 : ds.length ≤ 20 ∧ ∀ d ∈ ds, Nice k d := by simpa [Nice] using h
    have a := all_of fun d hd => (Nice.show (h2.2 d hd)).1
    have b := depth_of fun d hd => (Nice.show (h2.2 d hd)).2
    exact ⟨⟨by simp only [PyData.showable]; exact a.1, by simp only [PyData.canLay0]; exact a.2⟩, by simp only [PyData.depth]; omega⟩
  | k + 1, .tuple ds, h => by
    have h2 : ds.length ≤ 20 ∧ ∀ d ∈ ds, Nice k d := by simpa [Nice] using h
    have a := all_of fun d hd => (Nice.show (h2.2 d hd)).1
    have b := depth_of fun d hd => (Nice.show (h2.2 d hd)).2
    exact ⟨⟨by simp only [PyData.showable]; exact a.1, by simp only [PyData.canLay0]; exact a.2⟩, by simp only [PyData.depth]; omega⟩
  | _, .dict _, h => by simp [Nice] at h
mutual
theorem Dx.dp {K : PySem.W.Frag} {H : Hp} : ∀ {v : V} {d : PyData}, Dx H v d → Dp K H v d
  | _, _, .non => .non
  | _, _, .bl b => .bl b
  | _, _, .int i => .int i
  | _, _, .str x => .str x
  | _, _, .lst e h => .lst (SqL.of e) (DxAll.dp h)
  | _, _, .tup e h => .tup (SqT.of e) (DxAll.dp h)
theorem DxAll.dp {K : PySem.W.Frag} {H : Hp} : ∀ {vs : List V} {ds : List PyData}, DxAll H vs ds → DpAll K H vs ds
  | _, _, .nil => .nil
  | _, _, .cons h t => .cons (Dx.dp h) (DxAll.dp t)
end
theorem nice_facts {K : PySem.W.Frag} {H : Hp} {v : V} {k : Nat} {d : PyData} (h : Dx H v d) (n : Nice k d) (hk : k ≤ 4) : Dp K H v d ∧ SeqAt.shaped d = true ∧ d.showable = true ∧ d.hasDict = false ∧ d.shown.length ≤ sizeLine ∧ (∀ i, d = .int i → i.natAbs.log2 < 1920) := by
  have s := n.show
  have l := n.len
  have bk : B k ≤ sizeLine := by
    rw [sizeLine_eq]
    match k, hk with
    | 0, _ => decide
    | 1, _ => decide
    | 2, _ => decide
    | 3, _ => decide
    | 4, _ => decide
  refine ⟨h.dp, ?_, s.1.1, PyData.hasDict_of_canLay d s.1.2, Nat.le_trans l bk, fun i e => ?_⟩
  · show (d.canLay0 && decide (d.depth ≤ 64)) = true
    rw [s.1.2, decide_eq_true (by have := s.2; omega)]
    rfl
  · subst e
    have h2 : i.natAbs.log2 < 64 := by simpa [Nice] using n
    omega
end KB
set_option Elab.async false
set_option linter.all false
set_option maxRecDepth 100000
set_option maxHeartbeats 4000000
namespace Evl
open PySem L2
section
variable {K : PySem.W.Frag} {σ : L2.St} {H H' G : Hp} {ta tb te tx td tl : TE} {t u : TT} {x y z v : V} {D : Ends} {tz : TS}
theorem q_parVL {xs : List V} {i j : Nat} (h1 : Ev ta σ H v) (h2 : EvL tb σ H xs) (k : ∀ p H1, H p = none → Ex H H1 → H1 p = some (.lst xs) → tz D ((σ.set i (some v)).set j (some (.ref p))) H1) : tSeq (tPar i j (tCons ta (tCons tb tNil))) tz D σ H :=
  h1 H (Ex.refl H) _ fun H1 e1 => h2 H1 e1 _ fun p H2 np e2 g2 => ⟨_, _, rfl, k p H2 (fresh_back e1 np) (e1.trans e2) g2⟩
theorem ev_all {bs : List Bool} (h : EvL tl σ H (bs.map V.bl)) : Ev (tCB (rAll K) (tCons tl tNil)) σ H (.bl (bs.all id)) := fun H1 e Q q => h H1 e _ fun D G2 nD e2 gD => ⟨D, bs, rfl, sq_of gD, q G2 e2⟩
theorem lay_ints : ∀ (ns : List Int), PyData.canLayAll0 (ns.map PyData.int) = true ∧ PyData.depthAll (ns.map PyData.int) = 0
  | [] => ⟨by simp [PyData.canLayAll0], by simp [PyData.depthAll]⟩
  | n :: ns => by
    obtain ⟨a, b⟩ := lay_ints ns
    exact ⟨by simp [PyData.canLayAll0, PyData.canLay0, a], by simp [PyData.depthAll, PyData.depth, b]⟩
theorem shaped_ints (ns : List Int) : SeqAt.shaped (.list (ns.map PyData.int)) = true := by
  obtain ⟨a, b⟩ := lay_ints ns
  show ((PyData.list (ns.map PyData.int)).canLay0 && decide ((PyData.list (ns.map PyData.int)).depth ≤ 64)) = true
  have h1 : (PyData.list (ns.map PyData.int)).canLay0 = true := by simp only [PyData.canLay0]; exact a
  have h2 : (PyData.list (ns.map PyData.int)).depth ≤ 64 := by simp only [PyData.depth]; omega
  rw [h1, decide_eq_true h2]
  rfl
theorem dp_ints {H : Hp} : ∀ (ns : List Int), DpAll K H (ns.map V.int) (ns.map PyData.int)
  | [] => .nil
  | n :: ns => .cons (.int n) (dp_ints ns)
/-- xs != [] -/
theorem et_nenil {a : Addr} {ns : List Int} (h : Ev ta σ H (.ref a)) (g : H a = some (.lst (ns.map V.int))) : EvT (tTest (tOp (rNeD K) ta (tLst tNil))) σ H (!decide (ns = [])) := by
  refine et_test (ev_opL h (el_lst ea_nil (by show 0 ≤ 100000; omega)) fun p H1 hp e1 => rv_val fun H2 e2 Q q => ⟨.list (ns.map PyData.int), .list [], .lst (sq_of (e2 _ _ (e1 _ _ g))) (dp_ints ns), .lst (sq_of (e2 _ _ hp)) .nil, shaped_ints ns, rfl, ?_⟩)
  have : PyData.eqv (.list (ns.map PyData.int)) (.list []) = decide (ns = []) := by
    cases ns <;> simp [PyData.eqv, PyData.eqvAll]
  rw [this]
  exact q
end
end Evl
namespace KB
open PySem PySem.Spec PyProof.Rows L2 Evl
def Apt (p : Addr) (L : List Ent) : Prop := ∀ e ∈ L, e.2 ≠ p
/-- small numbers all -/
def Bd (L : List Ent) : Prop := ∀ e ∈ L, e.1.n ≤ 199 ∧ 0 ≤ e.1.s ∧ e.1.s ≤ 300 ∧ 0 ≤ e.1.g ∧ e.1.g ≤ 300
theorem LkU.off {p kd : Addr} {H H' : Hp} {L : List Ent} (o : Off p H H') (h : LkU H kd L) (nk : kd ≠ p) (ap : Apt p L) : LkU H' kd L := ⟨o _ _ nk h.top, fun e m => o _ _ (ap e m) (h.rows e m)⟩
theorem Src.ex {H H' : Hp} {p : Addr} {c : Int} (e : Ex H H') (S : Src H p c) : Src H' p c := by
  obtain ⟨a, b, h, r⟩ := S
  exact ⟨a, b, e _ _ h, r⟩
theorem Off.trans {p : Addr} {H H1 H2 : Hp} (a : Off p H H1) (b : Off p H1 H2) : Off p H H2 := fun c o n h => b c o n (a c o n h)
theorem ex_off {p : Addr} {H H' : Hp} (e : Ex H H') : Off p H H' := fun b o _ h => e b o h
theorem kd_ne {p kd : Addr} {H : Hp} {c : Int} {L : List Ent} (S : Src H p c) (U : LkU H kd L) : kd ≠ p := fun z => by
  obtain ⟨a, b, h, _⟩ := S
  have := U.top
  rw [z, h] at this
  cases this
theorem bd_ses {L : List Ent} (B : Born (rowsL L)) (b : Bd L) {n : Int} (h : n ∈ keys (famL L)) : n ≤ 199 ∧ 0 ≤ n ∧ 0 ≤ ses (famL L) n ∧ ses (famL L) n ≤ 300 := by
  obtain ⟨e, m, rfl⟩ := in_keys B h
  have := b e m
  rw [(wfL B).ses (row_in B m)]
  have := (wfL B).low e.1 (row_in B m)
  exact ⟨by omega, by omega, by omega, by omega⟩
/-- a session that is drawn so that the family can be built -/
def Drawn0 (M : Fam) (n s : Int) : Prop := s = n ∨ (s ∈ keys M ∧ s ≠ n ∧ ses M s = s ∧ adopter M s = up M n) ∨ (s = if up M n = 1 then 1 else ses M (up M n)) ∨ ((s = 30 ∨ s = 31) ∧ ado M (up M n) = true ∧ ∀ k ∈ tops M s, up M k = up M n)
abbrev nSession : List Str := ["_law_box_here", "_law_kin", "_law_names_here", "_law_n", "_law_mode", "_law_up", "_law_way", "_law_its", "_law_later", "_law_k", "_law_some", "_law_lost", "_law_fine"]
def spSession : Sp := fun vs H Q _ => ∃ (p kd nm : Addr) (c n md : Int) (L : List Ent) (ns : List Int), vs = [.ref p, .ref kd, .ref nm, .int n, .int md] ∧ Src H p c ∧ c < 500000 ∧ LkU H kd L ∧ Born (rowsL L) ∧ Apt p L ∧ nm ≠ p ∧ H nm = some (.lst (ns.map V.int)) ∧ (∀ x ∈ ns, 0 ≤ x ∧ x ≤ 300) ∧ ns.length ≤ 20 ∧
  n ∈ keys (famL L) ∧ Bd L ∧ ∀ (s c' : Int) (H' : Hp), 0 ≤ s → s ≤ 300 → (md = 0 → Drawn0 (famL L) n s) → Off p H H' → Src H' p c' → c ≤ c' → c' ≤ c + 2 → Q (.int s) H'
section
variable {P : Program} {w : World} {K : PySem.W.Frag} {mg : Str → Option Value} {base : Heap} {f fD fP fA fT : Addr} {fd dD dP dA dT : FuncData}
end
end KB
set_option Elab.async false
set_option linter.all false
set_option maxRecDepth 100000
set_option maxHeartbeats 4000000
namespace KB
open PySem PySem.Spec PyProof.Rows L2 Evl
abbrev nGroup : List Str := ["_law_box_here", "_law_kin", "_law_n", "_law_mode", "_law_session_here", "_law_way", "_law_k"]
/-- a group that is drawn so that the family can be built -/
def DrawnG (M : Fam) (n g : Int) : Prop := (ses M n = n → g = n) ∧ (g = ses M n ∨ (g ∈ keys M ∧ ses M g = ses M n) ∨ (g = 60 + ses M n ∧ ses M n < 100) ∨ (g = 98 ∧ 100 ≤ ses M n))
def spGroup : Sp := fun vs H Q _ => ∃ (p kd : Addr) (c n md : Int) (L : List Ent), vs = [.ref p, .ref kd, .int n, .int md] ∧ Src H p c ∧ c < 500000 ∧ LkU H kd L ∧ Born (rowsL L) ∧ Apt p L ∧
  n ∈ keys (famL L) ∧ Bd L ∧ ∀ (g c' : Int) (H' : Hp), 0 ≤ g → g ≤ 300 → (md = 0 → DrawnG (famL L) n g) → Off p H H' → Src H' p c' → c ≤ c' → c' ≤ c + 2 → Q (.int g) H'
section
variable {P : Program} {w : World} {K : PySem.W.Frag} {mg : Str → Option Value} {base : Heap} {f fD fP : Addr} {fd dD dP : FuncData}
end
end KB
set_option Elab.async false
set_option linter.all false
set_option maxRecDepth 100000
set_option maxHeartbeats 4000000
namespace L2
open PySem PySem.Spec PyProof.Rows
section
variable {X : Cx}
/-- d == {}, d != {} -/
def rEqNil : R2 := fun x y H Q => ∃ a b ks, x = .ref a ∧ y = .ref b ∧ H a = some (.dK ks) ∧ H b = some (.dK []) ∧ Q (.bl ks.isEmpty) H
def rNeNil : R2 := fun x y H Q => ∃ a b ks, x = .ref a ∧ y = .ref b ∧ H a = some (.dK ks) ∧ H b = some (.dK []) ∧ Q (.bl (!ks.isEmpty)) H
theorem op_eqNil (hu : X.A.units < cLine) : OpR X (compareOp .Eq) rEqNil := by
  intro pins s σ H x y v u Q I rx ry h
  obtain ⟨a, b, ks, rfl, rfl, ea, eb, q⟩ := h
  obtain rfl : v = Value.ref a := rx
  obtain rfl : u = Value.ref b := ry
  obtain ⟨_, ya, va, ra, da⟩ := (show ObjOk X.prog X.w H s.heap a (.dK ks) from I.hok a _ ea)
  obtain ⟨_, yb, vb, rb, db⟩ := (show ObjOk X.prog X.w H s.heap b (.dK []) from I.hok b _ eb)
  have la : ks.length = va.length := Paired.length ra
  have lb : vb.length = 0 := (Paired.length rb).symm
  refine PySem.W.keq_eq (knd := mixKind X.prog X.w) (r := true) ya yb da db hu (fun e => ?_) (fin_bl I q ?_)
  · have : va = [] := List.length_eq_zero_iff.mp (by omega)
    subst this
    exact .nil
  · rw [lb, ← la]
    cases ks <;> simp
theorem op_neNil (hu : X.A.units < cLine) : OpR X (compareOp .NotEq) rNeNil := by
  intro pins s σ H x y v u Q I rx ry h
  obtain ⟨a, b, ks, rfl, rfl, ea, eb, q⟩ := h
  obtain rfl : v = Value.ref a := rx
  obtain rfl : u = Value.ref b := ry
  obtain ⟨_, ya, va, ra, da⟩ := (show ObjOk X.prog X.w H s.heap a (.dK ks) from I.hok a _ ea)
  obtain ⟨_, yb, vb, rb, db⟩ := (show ObjOk X.prog X.w H s.heap b (.dK []) from I.hok b _ eb)
  have la : ks.length = va.length := Paired.length ra
  have lb : vb.length = 0 := (Paired.length rb).symm
  refine PySem.W.keq_ne (knd := mixKind X.prog X.w) (r := true) ya yb da db hu (fun e => ?_) (fin_bl I q ?_)
  · have : va = [] := List.length_eq_zero_iff.mp (by omega)
    subst this
    exact .nil
  · rw [lb, ← la]
    cases ks <;> simp
end
end L2
namespace KB
open PySem PySem.Spec PyProof.Rows L2 Evl
/-! ### one row changed, one row more -/
theorem Born.congr {l l' : List Rw} (h : l.map (fun r => (r.n, r.up)) = l'.map (fun r => (r.n, r.up))) (B : Born l) : Born l' := by
  have hn : l'.map (·.n) = l.map (·.n) := by
    have := congrArg (List.map Prod.fst) h
    rw [List.map_map, List.map_map] at this
    exact this.symm
  have len : l'.length = l.length := by
    have := congrArg List.length h
    rw [List.length_map, List.length_map] at this
    exact this.symm
  have at_ : ∀ {i : Nat} {r : Rw}, l'[i]? = some r → ∃ q, l[i]? = some q ∧ q.n = r.n ∧ q.up = r.up := fun {i r} e => by
    have e1 : (l'.map (fun r => (r.n, r.up)))[i]? = some (r.n, r.up) := by rw [List.getElem?_map, e]; rfl
    rw [← h, List.getElem?_map] at e1
    obtain ⟨q, e2, e3⟩ := Option.map_eq_some_iff.mp e1
    exact ⟨q, e2, (Prod.mk.inj e3).1, (Prod.mk.inj e3).2⟩
  have at' : ∀ {i : Nat} {r : Rw}, l[i]? = some r → ∃ q, l'[i]? = some q ∧ q.n = r.n ∧ q.up = r.up := fun {i r} e => by
    have e1 : (l.map (fun r => (r.n, r.up)))[i]? = some (r.n, r.up) := by rw [List.getElem?_map, e]; rfl
    rw [h, List.getElem?_map] at e1
    obtain ⟨q, e2, e3⟩ := Option.map_eq_some_iff.mp e1
    exact ⟨q, e2, (Prod.mk.inj e3).1, (Prod.mk.inj e3).2⟩
  refine ⟨by rw [hn]; exact B.nd, fun r m => ?_, fun i r e => ?_, fun z => ?_, by rw [len]; exact B.few⟩
  · obtain ⟨i, e⟩ := List.mem_iff_getElem?.mp m
    obtain ⟨q, e1, e2, _⟩ := at_ e
    rw [← e2]
    exact B.low q (List.mem_of_getElem? e1)
  · obtain ⟨q, e1, e2, e3⟩ := at_ e
    have p := B.par i q e1
    rw [e3] at p
    refine ⟨p.1, fun z => ?_⟩
    obtain ⟨j, q', hj, eq', en⟩ := p.2 z
    obtain ⟨q2, f1, f2, _⟩ := at' eq'
    exact ⟨j, q2, hj, f1, by rw [f2, en]⟩
  · rw [z] at len
    exact B.ne (List.length_eq_zero_iff.mp len.symm)
def setL (L : List Ent) (r : Rw) : List Ent := L.map fun e => if e.1.n = r.n then (r, e.2) else e
theorem set_nums (L : List Ent) (r : Rw) : numsL (setL L r) = numsL L := by
  unfold numsL setL
  rw [List.map_map]
  refine List.map_congr_left fun e _ => ?_
  show (if e.1.n = r.n then (r, e.2) else e).1.n = e.1.n
  split
  · rename_i h; exact h.symm
  · rfl
theorem set_adr (L : List Ent) (r : Rw) : (setL L r).map (·.2) = L.map (·.2) := by
  unfold setL
  rw [List.map_map]
  refine List.map_congr_left fun e _ => ?_
  show (if e.1.n = r.n then (r, e.2) else e).2 = e.2
  split <;> rfl
theorem set_tbl (L : List Ent) (r : Rw) : tbl (setL L r) = tbl L := by
  unfold tbl setL
  rw [List.map_map]
  refine List.map_congr_left fun e _ => ?_
  show (Sum.inl (if e.1.n = r.n then (r, e.2) else e).1.n, V.ref (if e.1.n = r.n then (r, e.2) else e).2) = _
  split
  · rename_i h; rw [h]
  · rfl
theorem set_born {L : List Ent} {r : Rw} (B : Born (rowsL L)) (h : ∀ e ∈ L, e.1.n = r.n → e.1.up = r.up) : Born (rowsL (setL L r)) := by
  refine B.congr ?_
  unfold rowsL setL
  rw [List.map_map, List.map_map, List.map_map]
  refine List.map_congr_left fun e m => ?_
  show (e.1.n, e.1.up) = ((if e.1.n = r.n then (r, e.2) else e).1.n, (if e.1.n = r.n then (r, e.2) else e).1.up)
  split
  · rename_i z; rw [z, h e m z]
  · rfl
theorem set_bd {L : List Ent} {r : Rw} (b : Bd L) (h : r.n ≤ 199 ∧ 0 ≤ r.s ∧ r.s ≤ 300 ∧ 0 ≤ r.g ∧ r.g ≤ 300) : Bd (setL L r) := fun e m => by
  obtain ⟨x, mx, rfl⟩ := List.mem_map.mp m
  split
  · exact h
  · exact b x mx
theorem set_apt {L : List Ent} {r : Rw} {p : Addr} (a : Apt p L) : Apt p (setL L r) := fun e m => by
  obtain ⟨x, mx, rfl⟩ := List.mem_map.mp m
  split
  · exact a x mx
  · exact a x mx
def AdN (L : List Ent) : Prop := (L.map (·.2)).Nodup
theorem adr_inj {L : List Ent} (nd : AdN L) : ∀ {e e' : Ent}, e ∈ L → e' ∈ L → e.2 = e'.2 → e = e' := by
  unfold AdN at nd
  induction L with
  | nil => exact fun h => nomatch h
  | cons x L ih =>
    rw [List.map_cons, List.nodup_cons] at nd
    intro e e' h h' eq
    rcases List.mem_cons.mp h with a | a
    · rcases List.mem_cons.mp h' with b | b
      · rw [a, b]
      · exact absurd (by rw [← a, eq]; exact List.mem_map_of_mem (f := fun e : Ent => e.2) b) nd.1
    · rcases List.mem_cons.mp h' with b | b
      · exact absurd (by rw [← b, ← eq]; exact List.mem_map_of_mem (f := fun e : Ent => e.2) a) nd.1
      · exact ih nd.2 a b eq
theorem LkU.set {H : Hp} {kd : Addr} {L : List Ent} {e : Ent} {r : Rw} (U : LkU H kd L) (B : Born (rowsL L)) (nd : AdN L) (m : e ∈ L) (hn : r.n = e.1.n) : LkU (upd H e.2 (.lst (row5 r))) kd (setL L r) := by
  have ne : kd ≠ e.2 := fun z => by
    have := U.rows e m
    rw [← z, U.top] at this
    cases this
  refine ⟨by rw [upd_ne ne, set_tbl]; exact U.top, fun x mx => ?_⟩
  obtain ⟨y, my, rfl⟩ := List.mem_map.mp mx
  by_cases z : y.1.n = r.n
  · rw [if_pos z]
    have ey : y = e := by
      have i1 := val_tbl B my
      have i2 := val_tbl B m
      rw [z, hn, i2] at i1
      exact adr_inj nd my m (by injection (Option.some.inj i1) with h; exact h.symm)
    rw [ey]
    exact upd_same
  · rw [if_neg z]
    have ny : y.2 ≠ e.2 := fun w => z (by rw [adr_inj nd my m w, hn])
    rw [upd_ne ny]
    exact U.rows y my
theorem add_born {L : List Ent} {r : Rw} {a : Addr} (B : Born (rowsL L)) (nr : r.n ∉ numsL L) (low : 2 ≤ r.n) (hup : r.up ∈ numsL L) (few : L.length < 20) : Born (rowsL (L ++ [(r, a)])) := by
  have er : rowsL (L ++ [(r, a)]) = rowsL L ++ [r] := by unfold rowsL; rw [List.map_append]; rfl
  have ln : (rowsL L).length = L.length := List.length_map _
  have nums : (rowsL L).map (·.n) = numsL L := by unfold rowsL numsL; rw [List.map_map]; rfl
  rw [er]
  have lw : ∀ q ∈ rowsL L ++ [r], 2 ≤ q.n := fun q m => by
    rcases List.mem_append.mp m with m | m
    · exact B.low q m
    · rw [List.mem_singleton.mp m]; exact low
  refine ⟨?_, lw, fun i q e => ?_, by simp, by rw [List.length_append, ln]; show L.length + 1 ≤ 20; omega⟩
  · rw [List.map_append, nums]
    refine List.nodup_append.mpr ⟨by rw [← nums]; exact B.nd, by simp, fun b mb b' mb' z => nr ?_⟩
    have : b' = r.n := by simpa using mb'
    rw [← this, ← z]
    exact mb
  · rw [List.getElem?_append] at e
    by_cases hi : i < (rowsL L).length
    · rw [if_pos hi] at e
      have p := B.par i q e
      refine ⟨p.1, fun z => ?_⟩
      obtain ⟨j, q', hj, eq', en⟩ := p.2 z
      exact ⟨j, q', hj, by rw [List.getElem?_append, if_pos (by omega)]; exact eq', en⟩
    · rw [if_neg hi] at e
      have hi0 : i - (rowsL L).length = 0 := by
        cases hz : i - (rowsL L).length with
        | zero => rfl
        | succ k => rw [hz] at e; simp at e
      rw [hi0] at e
      obtain rfl : r = q := by simpa using e
      have ie : i = (rowsL L).length := by omega
      have ne0 : (rowsL L).length ≠ 0 := fun z => B.ne (List.length_eq_zero_iff.mp z)
      obtain ⟨x, mx, ex⟩ := List.mem_map.mp hup
      have mr : x.1 ∈ rowsL L := List.mem_map_of_mem (f := fun e : Ent => e.1) mx
      have l2 := B.low x.1 mr
      refine ⟨⟨fun z => by omega, fun z => by omega⟩, fun _ => ?_⟩
      obtain ⟨j, ej⟩ := List.mem_iff_getElem?.mp mr
      have hj := (List.getElem?_eq_some_iff.mp ej).1
      exact ⟨j, x.1, by omega, by rw [List.getElem?_append, if_pos hj]; exact ej, ex⟩
theorem one_born {r : Rw} {a : Addr} (low : 2 ≤ r.n) (hup : r.up = 1) : Born (rowsL [(r, a)]) := by
  refine ⟨by simp [rowsL], fun q m => ?_, fun i q e => ?_, by simp [rowsL], by simp [rowsL]⟩
  · rw [show q = r by simpa [rowsL] using m]; exact low
  · cases i with
    | zero =>
      obtain rfl : r = q := by simpa [rowsL] using e
      exact ⟨⟨fun _ => rfl, fun _ => hup⟩, fun z => absurd rfl z⟩
    | succ i => simp [rowsL] at e
theorem LkU.add {H : Hp} {kd a : Addr} {L : List Ent} {r : Rw} (U : LkU H kd L) (nr : r.n ∉ numsL L) (ga : H a = some (.lst (row5 r))) : LkU (upd H kd (.dK (putK (tbl L) (Sum.inl r.n) (.ref a)))) kd (L ++ [(r, a)]) := by
  have no : valV (tbl L) (Sum.inl r.n) = none := val_no (fun e : Ent => e.1.n) (fun e => V.ref e.2) r.n L nr
  refine ⟨by rw [upd_same, putK_new _ no]; unfold tbl; rw [List.map_append]; rfl, fun e m => ?_⟩
  have ne : ∀ {b : Addr} {xs : List V}, H b = some (.lst xs) → b ≠ kd := fun h z => by rw [z, U.top] at h; cases h
  rcases List.mem_append.mp m with m | m
  · rw [upd_ne (ne (U.rows e m))]
    exact U.rows e m
  · rw [List.mem_singleton.mp m]
    rw [upd_ne (ne ga)]
    exact ga
end KB
set_option Elab.async false
set_option linter.all false
set_option maxRecDepth 100000
set_option maxHeartbeats 4000000
namespace Evl
open PySem L2
section
variable {K : PySem.W.Frag} {σ : L2.St} {H H' G : Hp} {ta tb te tx td tl : TE} {t : TT}
theorem eu_if {b : Bool} {xs : List V} (h : EvT t σ H b) (h1 : b = true → EvU ta σ H xs) (h2 : b = false → EvU tb σ H xs) : EvU (tIf t ta tb) σ H xs := fun H1 e Q q => h H1 e _ fun H2 e2 => by
  cases b with
  | true =>
    show ta σ H2 Q
    exact h1 rfl H2 (e.trans e2) Q fun p H3 np e3 g => q p H3 (fresh_back e2 np) (e2.trans e3) g
  | false =>
    show tb σ H2 Q
    exact h2 rfl H2 (e.trans e2) Q fun p H3 np e3 g => q p H3 (fresh_back e2 np) (e2.trans e3) g
theorem eu_nil : EvU (tTup tNil) σ H [] := eu_tup ea_nil (by show 0 ≤ 100000; omega)
def rTupOf (K : PySem.W.Frag) : List V → Hp → VK → Prop := fun xs H Q => ∃ p ys, xs = [.ref p] ∧ ((SqL K H p ys ∧ ∀ l, H l = none → Q (.ref l) (upd H l (.tup ys))) ∨ (SqT K H p ys ∧ Q (.ref p) H))
theorem eu_tupOf {a : Addr} {xs : List V} (h : Ev ta σ H (.ref a)) (g : H a = some (.lst xs)) : EvU (tCB (rTupOf K) (tCons ta tNil)) σ H xs := fun H1 e Q q =>
  h H1 e _ fun H2 e2 => ⟨a, xs, rfl, .inl ⟨sq_of (e2 _ _ (e _ _ g)), fun l nl => q l _ (fresh_back e2 nl) (e2.trans (Ex.new nl)) upd_same⟩⟩
end
end Evl
namespace KB
open PySem PySem.Spec PyProof.Rows L2 Evl
/-! ### images as data: tuples, or lists -/
def sqD (b : Bool) (ds : List PyData) : PyData := if b = true then .tuple ds else .list ds
def cellsD (b : Bool) (r : Rw) : PyData := sqD b (if r.w = 1 then [] else [.int 0, .int 0, .int 0, .int 0])
def rowDt (b : Bool) (r : Rw) : PyData := sqD b [.int r.n, if r.up = 1 then .none else .int r.up, .int r.s, .int r.g, .bool r.ad, .str (wordOf r.w), if r.w = 1 then .int (r.n - 9) else .none, .none, cellsD b r, sqD b []]
def imgD (b : Bool) (M : Fam) : PyData := sqD b [sqD b (M.map (rowDt b)), sqD b [], sqD b [], sqD b [], sqD b [], sqD b []]
theorem Dx.sq {H : Hp} {v : V} {b : Bool} {ds : List PyData} (h : Dx H v (sqD b ds)) : ∃ a xs, v = .ref a ∧ (H a = some (.tup xs) ∨ H a = some (.lst xs)) ∧ DxAll H xs ds := by
  cases b with
  | true =>
    have h' : Dx H v (.tuple ds) := h
    cases h' with
    | tup e h => exact ⟨_, _, rfl, .inl e, h⟩
  | false =>
    have h' : Dx H v (.list ds) := h
    cases h' with
    | lst e h => exact ⟨_, _, rfl, .inr e, h⟩
theorem Dx.row {H : Hp} {v : V} {b : Bool} {r : Rw} (h : Dx H v (rowDt b r)) : RowAt H v r := by
  obtain ⟨a, xs, rfl, g, d⟩ := Dx.sq h
  cases d with | cons d0 d => cases d with | cons d1 d => cases d with | cons d2 d => cases d with | cons d3 d => cases d with | cons d4 d => cases d with | cons d5 d => cases d with | cons d6 d => cases d with | cons d7 d => cases d with | cons d8 d => cases d with | cons d9 d =>
    cases d
    refine ⟨a, _, rfl, g, rfl, ?_, ?_, ?_, ?_, ?_, ?_⟩
    · cases d0; rfl
    · by_cases z : r.up = 1
      · rw [if_pos z] at d1 ⊢
        cases d1; rfl
      · rw [if_neg z] at d1 ⊢
        cases d1; rfl
    · cases d2; rfl
    · cases d3; rfl
    · cases d4; rfl
    · cases d5; rfl
theorem Dx.img {H : Hp} {v : V} {b : Bool} {M : Fam} (h : Dx H v (imgD b M)) : ImgAt H v M := by
  obtain ⟨a, xs, rfl, g, d⟩ := Dx.sq h
  cases d with
  | @cons u us _ _ d0 d =>
    obtain ⟨c, ys, rfl, gc, dc⟩ := Dx.sq d0
    obtain ⟨z1, z2, z3⟩ := dc.zip
    have key : ∀ (ys : List V) (M : Fam), DxAll H ys (M.map (rowDt b)) → ∃ L : List (Rw × V), L.map (·.2) = ys ∧ L.map (·.1) = M ∧ ∀ q ∈ L, RowAt H q.2 q.1 := by
      intro ys M
      induction M generalizing ys with
      | nil =>
        intro d
        cases d
        exact ⟨[], rfl, rfl, fun q m => nomatch m⟩
      | cons r M ih =>
        intro d
        cases d with
        | cons d1 d2 =>
          obtain ⟨L, l1, l2, l3⟩ := ih _ d2
          refine ⟨(r, _) :: L, by rw [List.map_cons, l1], by rw [List.map_cons, l2], fun q m => ?_⟩
          rcases List.mem_cons.mp m with m | m
          · rw [m]; exact d1.row
          · exact l3 q m
    obtain ⟨L, l1, l2, l3⟩ := key ys M dc
    exact ⟨a, _, c, L, rfl, g, rfl, by rw [l1]; exact gc, l2, l3⟩
theorem word_end (w : Nat) : decide (V.str (wordOf w) = V.str "ended") = decide (w = 1) := by
  unfold wordOf
  by_cases h : w = 1
  · rw [if_pos h, decide_eq_true h]
    decide +kernel
  · rw [if_neg h, decide_eq_false h]
    by_cases h2 : w = 2
    · rw [if_pos h2]
      decide +kernel
    · rw [if_neg h2]
      decide +kernel
abbrev nImage : List Str := ["_law_kin", "_law_found", "_law_n", "_law_up", "_law_session_here", "_law_group_here", "_law_adopts", "_law_word", "_law_row"]
def spImage : Sp := fun vs H Q _ => ∃ kd L, vs = [.ref kd] ∧ Lk H kd L ∧ Born (rowsL L) ∧ RetD (imgD true (famL L)) H Q
theorem same_row {L : List Ent} (B : Born (rowsL L)) {e : Ent} (me : e ∈ L) {r : Rw} (mr : r ∈ famL L) (h : e.1.n = r.n) : e.1 = r := by
  have h1 := look_of (wfL B).asc (row_in B me)
  have h2 := look_of (wfL B).asc mr
  rw [h, h2] at h1
  exact (Option.some.inj h1).symm
section
variable {P : Program} {w : World} {K : PySem.W.Frag} {mg : Str → Option Value} {base : Heap} {f : Addr} {fd : FuncData}
end
end KB
set_option Elab.async false
set_option linter.all false
set_option maxRecDepth 100000
set_option maxHeartbeats 4000000
namespace KB
open PySem PySem.Spec PyProof.Rows L2
abbrev sSame : Stmt := topS 37
abbrev nSame : List Str := ["_law_found", "_law_due", "_law_mine", "_law_its"]
theorem scSame : FnScope nSame ["_law_found", "_law_due"] (defScope sSame) := ⟨rfl, rfl, rfl, by decide +kernel, rfl, by decide +kernel, by decide +kernel⟩
/-- equal data: True -/
def spSame (n : Nat) : Sp := fun vs H Q _ => ∃ (x y : V) (d : PyData), vs = [x, y] ∧ Dx H x d ∧ Dx H y d ∧ Sh n d ∧ ∀ H', Same H H' → Q (.bl true) H'
theorem kit2 {K : PySem.W.Frag} {T a b : String} {r1 r2 : Bool} (h1 : kitB T a = some r1) (h2 : kitB T b = some r2) : PySem.W.kitAny K (.type T) [.type a, .type b] = some (r1 || r2) := by
  refine kitAny_cons (kit_ty h1) (fun e => ?_) (fun e => by rw [e]; rfl)
  rw [e]
  refine kitAny_cons (kit_ty h2) (fun e2 => by rw [e2]; exact kitAny_nil) (fun e2 => by rw [e2]; rfl)
theorem walk_zipT2 {K : PySem.W.Frag} {a b : Addr} {xs ys : List V} (hl : xs.length = ys.length) : Walk (RZ.ItzT K a b) xs.length (fun H => SqT K H a xs ∧ SqT K H b ys) (YPair (fun i => xs[i]?) (fun i => ys[i]?)) := by
  refine ⟨fun i _ hi q => ?_, fun _ q => ⟨xs, ys, q.1, q.2, .inl (Nat.le_refl _)⟩, fun i H v H' _ q y => ?_⟩
  · have h2 : i < ys.length := by omega
    exact ⟨xs, ys, xs[i], ys[i], q.1, q.2, List.getElem?_eq_getElem hi, List.getElem?_eq_getElem h2⟩
  · obtain ⟨T, x, z, h1, h2, h3, h4, h5⟩ := y
    exact ⟨T, x, z, h1, h2, h3, h4 xs q.1, h5 ys q.2⟩
section
variable {P : Program} {w : World} {K : PySem.W.Frag} {mg : Str → Option Value} {base : Heap} {f : Addr} {fd : FuncData}
theorem no_same : FnOk P w K mg base CX0 0 f fd ["_law_found", "_law_due"] (spSame 0) :=
  ⟨fun vs H Q E ⟨_, _, _, _, _, _, h, _⟩ => h.elim, fun _ _ _ _ _ _ _ _ _ _ _ _ _ ⟨_, _, _, _, _, _, h, _⟩ => h.elim⟩
theorem ok_same {n : Nat} (F : Fun K "_law_same" "_law_same" sSame f fd) (G : FnOk P w K mg base CX0 n f fd ["_law_found", "_law_due"] (spSame n)) (bG : Binds K fd ["_law_found", "_law_due"] []) (mG : mg "_law_same" = some (.ref f))
    (mI : mg "isinstance" = none) (mL : mg "list" = none) (mT : mg "tuple" = none) (mN : mg "len" = none) (mA : mg "all" = none) (mZ : mg "zip" = none) (mB : mg "bool" = none) (mS : mg "str" = none) (mi : mg "int" = none) :
    FnOk P w K mg base CX0 (n + 1) f fd ["_law_found", "_law_due"] (spSame (n + 1)) := by
  refine F.ok scSame (fun vs H Q E h => ?_) (fun cdv A outer s H vs Q E hr h => ?_)
  · obtain ⟨x, y, d, rfl, _⟩ := h
    rfl
  · obtain ⟨x, y, d, rfl, hx, hy, hs, q⟩ := h
    refine ⟨_, pss_cons (ps_if (pt_val (pe_callB call_isiT (by rfl) mI (by decide +kernel) (pa_cons (pv 1) (pa_cons (pe_tup (pa_cons (pe_bltn (v := .ty "list") (by rfl) mL (by decide +kernel) rfl) (pa_cons (pe_bltn (v := .ty "tuple") (by rfl) mT (by decide +kernel) rfl) pa_nil))) pa_nil))))
        (pss_cons (ps_if (PW.pt (pw_or (pt_cmpR op_ne (pe_callB call_isi (by rfl) mI (by decide +kernel) (pa_cons (pv 0) (pa_cons (pe_bltn (v := .ty "list") (by rfl) mL (by decide +kernel) rfl) pa_nil))) (pe_callB call_isi (by rfl) mI (by decide +kernel) (pa_cons (pv 1) (pa_cons (pe_bltn (v := .ty "list") (by rfl) mL (by decide +kernel) rfl) pa_nil))) (nomark _)) (pw_or1 (pt_cmpR op_ne (pe_callB call_isi (by rfl) mI (by decide +kernel) (pa_cons (pv 0) (pa_cons (pe_bltn (v := .ty "tuple") (by rfl) mT (by decide +kernel) rfl) pa_nil))) (pe_callB call_isi (by rfl) mI (by decide +kernel) (pa_cons (pv 1) (pa_cons (pe_bltn (v := .ty "tuple") (by rfl) mT (by decide +kernel) rfl) pa_nil))) (nomark _)))))
          (pss_one (ps_ret pe_bl)) pss_nil)
        (pss_one (ps_ret (pe_and (pe_cmpR op_eq (pe_callB call_len_seq (by rfl) mN PySem.boot_len (pa_cons (pv 0) pa_nil)) (pe_callB call_len_seq (by rfl) mN PySem.boot_len (pa_cons (pv 1) pa_nil)) (nomark _)) (pe_one (pe_callB (cr_all rfl) (by rfl) mA (by decide +kernel) (pa_cons
          (pe_lc (own := [("_law_mine", 2), ("_law_its", 3)]) (g := gTup _ 2 (gCons (gName 2) (gCons (gName 3) gNil))) (tt := tYes) rfl scSame.nd (RZ.pi_zipA (by rfl) mZ (pa_cons (pv 0) (pa_cons (pv 1) pa_nil))) (blkOk_by (N := nSame) (sc := defScope sSame) (by decide +kernel))
            (fun _ _ _ _ _ => pg_tup rfl (pgs_cons (pg_name (i := 2) scSame.nd rfl (Or.inl rfl)) (pgs_cons (pg_name (i := 3) scSame.nd rfl (Or.inl rfl)) pgs_nil))) (fun _ _ _ _ _ => pts_nil) (fun _ _ _ _ _ => pe_call G hr rfl mG F.kp bG .nil pass0 (pa_cons (pv 2) (pa_cons (pv 3) pa_nil)))) pa_nil))))))) pss_nil)
      (pss_cons (ps_if (PW.pt (pw_or (pt_cmp (pc_isN (pv 1))) (pw_or1 (pt_val (pe_callB call_isiT (by rfl) mI (by decide +kernel) (pa_cons (pv 1) (pa_cons (pe_tup (pa_cons (pe_bltn (v := .ty "bool") (by rfl) mB (by decide +kernel) rfl) (pa_cons (pe_bltn (v := .ty "str") (by rfl) mS (by decide +kernel) rfl) pa_nil))) pa_nil)))))))
        (pss_one (ps_ret (pe_and (pe_cmpR op_eq (pv 0) (pv 1) (nomark _)) (pe_and (pe_cmpR op_eq (pe_callB call_isi (by rfl) mI (by decide +kernel) (pa_cons (pv 0) (pa_cons (pe_bltn (v := .ty "bool") (by rfl) mB (by decide +kernel) rfl) pa_nil))) (pe_callB call_isi (by rfl) mI (by decide +kernel) (pa_cons (pv 1) (pa_cons (pe_bltn (v := .ty "bool") (by rfl) mB (by decide +kernel) rfl) pa_nil))) (nomark _)) (pe_one (pe_cmpR op_eq (pe_cmp (pc_isN (pv 0))) (pe_cmp (pc_isN (pv 1))) (nomark _)))))))  pss_nil)
      (pss_one (ps_ret (pe_and (pe_callB call_isi (by rfl) mI (by decide +kernel) (pa_cons (pv 0) (pa_cons (pe_bltn (v := .ty "int") (by rfl) mi (by decide +kernel) rfl) pa_nil))) (pe_and (pe_not (pe_callB call_isi (by rfl) mI (by decide +kernel) (pa_cons (pv 0) (pa_cons (pe_bltn (v := .ty "bool") (by rfl) mB (by decide +kernel) rfl) pa_nil)))) (pe_one (pe_cmpR op_eq (pv 0) (pv 1) (nomark _)))))))), ?_⟩
    cases hx with
    | non =>
      cases hy
      refine ⟨_, rfl, by show 2 ≤ sizeLine; decide, fun t1 n1 => ⟨_, t1, _, _, _, false, rfl, upd_same, .cons (.ty _) (.cons (.ty _) .nil), .base .non, kit2 (T := "NoneType") (a := "list") (b := "tuple") (r1 := false) (r2 := false) (by decide +kernel) (by decide +kernel), _, rfl, iteF ?_⟩⟩
      have s1 := same_new (o := HO.tup [.ty "list", .ty "tuple"]) n1
      refine ⟨_, rfl, _, rfl, iteT (iteT ?_)⟩
      refine ⟨_, rfl, _, rfl, rfl, _, rfl, iteT ?_⟩
      refine ⟨_, rfl, _, _, _, _, false, rfl, .ty _, .base .non, kit_ty (by decide +kernel), _, rfl, _, _, _, _, false, rfl, .ty _, .base .non, kit_ty (by decide +kernel), rfl, _, rfl, iteT ?_⟩
      exact ⟨_, rfl, _, rfl, rfl, q _ s1⟩
    | bl b =>
      cases hy
      refine ⟨_, rfl, by show 2 ≤ sizeLine; decide, fun t1 n1 => ⟨_, t1, _, _, _, false, rfl, upd_same, .cons (.ty _) (.cons (.ty _) .nil), .base (.bl b), kit2 (T := "bool") (a := "list") (b := "tuple") (r1 := false) (r2 := false) (by decide +kernel) (by decide +kernel), _, rfl, iteF ?_⟩⟩
      have s1 := same_new (o := HO.tup [.ty "list", .ty "tuple"]) n1
      refine ⟨_, rfl, _, rfl, iteF ?_⟩
      refine ⟨_, rfl, by show 2 ≤ sizeLine; decide, fun t2 n2 => ⟨_, t2, _, _, _, true, rfl, upd_same, .cons (.ty _) (.cons (.ty _) .nil), .base (.bl b), kit2 (T := "bool") (a := "bool") (b := "str") (r1 := true) (r2 := false) (by decide +kernel) (by decide +kernel), _, rfl, iteT ?_⟩⟩
      have s2 := s1.trans (same_new (o := HO.tup [.ty "bool", .ty "str"]) n2)
      refine ⟨_, rfl, _, rfl, rfl, _, rfl, ?_⟩
      rw [decide_eq_true (rfl : (V.bl b) = V.bl b)]
      refine iteT ⟨_, rfl, _, _, _, _, true, rfl, .ty _, .base (.bl b), kit_ty (by decide +kernel), _, rfl, _, _, _, _, true, rfl, .ty _, .base (.bl b), kit_ty (by decide +kernel), rfl, _, rfl, iteT ?_⟩
      exact ⟨_, rfl, _, rfl, rfl, q _ s2⟩
    | str z =>
      cases hy
      refine ⟨_, rfl, by show 2 ≤ sizeLine; decide, fun t1 n1 => ⟨_, t1, _, _, _, false, rfl, upd_same, .cons (.ty _) (.cons (.ty _) .nil), .base (.str z), kit2 (T := "str") (a := "list") (b := "tuple") (r1 := false) (r2 := false) (by decide +kernel) (by decide +kernel), _, rfl, iteF ?_⟩⟩
      have s1 := same_new (o := HO.tup [.ty "list", .ty "tuple"]) n1
      refine ⟨_, rfl, _, rfl, iteF ?_⟩
      refine ⟨_, rfl, by show 2 ≤ sizeLine; decide, fun t2 n2 => ⟨_, t2, _, _, _, true, rfl, upd_same, .cons (.ty _) (.cons (.ty _) .nil), .base (.str z), kit2 (T := "str") (a := "bool") (b := "str") (r1 := false) (r2 := true) (by decide +kernel) (by decide +kernel), _, rfl, iteT ?_⟩⟩
      have s2 := s1.trans (same_new (o := HO.tup [.ty "bool", .ty "str"]) n2)
      refine ⟨_, rfl, _, rfl, rfl, _, rfl, ?_⟩
      rw [decide_eq_true (rfl : (V.str z) = V.str z)]
      refine iteT ⟨_, rfl, _, _, _, _, false, rfl, .ty _, .base (.str z), kit_ty (by decide +kernel), _, rfl, _, _, _, _, false, rfl, .ty _, .base (.str z), kit_ty (by decide +kernel), rfl, _, rfl, iteT ?_⟩
      exact ⟨_, rfl, _, rfl, rfl, q _ s2⟩
    | int i =>
      cases hy
      refine ⟨_, rfl, by show 2 ≤ sizeLine; decide, fun t1 n1 => ⟨_, t1, _, _, _, false, rfl, upd_same, .cons (.ty _) (.cons (.ty _) .nil), .base (.int i), kit2 (T := "int") (a := "list") (b := "tuple") (r1 := false) (r2 := false) (by decide +kernel) (by decide +kernel), _, rfl, iteF ?_⟩⟩
      have s1 := same_new (o := HO.tup [.ty "list", .ty "tuple"]) n1
      refine ⟨_, rfl, _, rfl, iteF ?_⟩
      refine ⟨_, rfl, by show 2 ≤ sizeLine; decide, fun t2 n2 => ⟨_, t2, _, _, _, false, rfl, upd_same, .cons (.ty _) (.cons (.ty _) .nil), .base (.int i), kit2 (T := "int") (a := "bool") (b := "str") (r1 := false) (r2 := false) (by decide +kernel) (by decide +kernel), _, rfl, iteF ?_⟩⟩
      have s2 := s1.trans (same_new (o := HO.tup [.ty "bool", .ty "str"]) n2)
      refine ⟨_, rfl, _, _, _, _, true, rfl, .ty _, .base (.int i), kit_ty (by decide +kernel), _, rfl, iteT ?_⟩
      refine ⟨_, rfl, _, _, _, _, false, rfl, .ty _, .base (.int i), kit_ty (by decide +kernel), _, rfl, _, rfl, iteT ?_⟩
      refine ⟨_, rfl, _, rfl, rfl, ?_⟩
      rw [decide_eq_true (rfl : (V.int i) = V.int i)]
      exact q _ s2
    | @lst a xs ds ea hxs =>
      cases hy with
      | @lst b ys _ eb hys =>
        have hlen : xs.length = ys.length := hxs.length.trans hys.length.symm
        refine ⟨_, rfl, by show 2 ≤ sizeLine; decide, fun t1 n1 => ?_⟩
        have s1 := same_new (o := HO.tup [.ty "list", .ty "tuple"]) n1
        refine ⟨_, t1, _, _, _, true, rfl, upd_same, .cons (.ty _) (.cons (.ty _) .nil), .base (.lst (s1 _ _ eb)), kit2 (T := "list") (a := "list") (b := "tuple") (r1 := true) (r2 := false) (by decide +kernel) (by decide +kernel), _, rfl, iteT ?_⟩
        refine ⟨_, rfl, _, _, _, _, true, rfl, .ty _, .base (.lst (s1 _ _ ea)), kit_ty (by decide +kernel), _, rfl, _, _, _, _, true, rfl, .ty _, .base (.lst (s1 _ _ eb)), kit_ty (by decide +kernel), rfl, _, rfl, iteF ?_⟩
        refine ⟨_, rfl, _, _, _, _, false, rfl, .ty _, .base (.lst (s1 _ _ ea)), kit_ty (by decide +kernel), _, rfl, _, _, _, _, false, rfl, .ty _, .base (.lst (s1 _ _ eb)), kit_ty (by decide +kernel), rfl, _, rfl, iteF ?_⟩
        refine ⟨_, rfl, a, xs, rfl, .inl (SqL.of (s1 _ _ ea)), _, rfl, b, ys, rfl, .inl (SqL.of (s1 _ _ eb)), rfl, _, rfl, ?_⟩
        rw [hlen, decide_eq_true (rfl : (V.int (ys.length : Int)) = V.int (ys.length : Int))]
        refine iteT ?_
        refine ⟨_, rfl, _, rfl, a, b, xs, ys, rfl, .inl ⟨SqL.of (s1 _ _ ea), SqL.of (s1 _ _ eb), fun D nD => ?_⟩⟩
        have nDH : H D = none := s1.free nD
        refine lc_it (walk_zip (n := xs.length) (by omega)) (fun i H3 => Same H H3 ∧ H3 D = some (.lst ((List.replicate i true).map V.bl)))
          ⟨s1.trans (same_new nD), upd_same⟩ (fun i H3 _ p => ⟨SqL.of (p.1 _ _ ea), SqL.of (p.1 _ _ eb)⟩) ?_ ?_
        · rintro i x H3 H4 hi ⟨s3, eD⟩ ⟨t, x1, x2, rfl, nt, rfl, f1, f2⟩
          have f1' : xs[i]? = some x1 := f1
          have f2' : ys[i]? = some x2 := f2
          obtain ⟨d1, e1, g1⟩ := hxs.get f1'
          obtain ⟨d2, e2, g2⟩ := hys.get f2'
          obtain rfl : d1 = d2 := Option.some.inj (e1.symm.trans e2)
          have s4 := s3.trans (same_new (o := HO.tup [x1, x2]) nt)
          refine ⟨t, _, rfl, .inl (.inl upd_same), rfl, _, _, rfl, _, _, rfl, rfl, rfl, _, rfl, _, rfl, x1, x2, d1, rfl, g1.mono s4, g2.mono s4, hs.2 d1 (List.mem_of_getElem? e1), fun H5 s5 => ?_⟩
          refine ⟨_, s5 _ _ ((upd_ne (ne_of_none eD nt)).trans eD), ?_, same_mut (s4.trans s5) nDH, ?_⟩
          · rw [List.length_map, List.length_replicate]
            have z := hs.1
            have z2 := hxs.length
            exact Nat.lt_of_le_of_lt (show i ≤ 1000 by omega) (by decide)
          · rw [upd_same, List.replicate_succ', List.map_append]
            rfl
        · rintro H3 ⟨s3, eD⟩
          refine ⟨D, _, rfl, SqL.of eD, ?_⟩
          have al : (List.replicate xs.length true).all id = true := by
            rw [List.all_eq_true]
            intro z hz
            rw [List.eq_of_mem_replicate hz]
            rfl
          rw [al]
          exact q _ s3
    | @tup a xs ds ea hxs =>
      cases hy with
      | @tup b ys _ eb hys =>
        have hlen : xs.length = ys.length := hxs.length.trans hys.length.symm
        refine ⟨_, rfl, by show 2 ≤ sizeLine; decide, fun t1 n1 => ?_⟩
        have s1 := same_new (o := HO.tup [.ty "list", .ty "tuple"]) n1
        refine ⟨_, t1, _, _, _, true, rfl, upd_same, .cons (.ty _) (.cons (.ty _) .nil), .base (.tup (s1 _ _ eb)), kit2 (T := "tuple") (a := "list") (b := "tuple") (r1 := false) (r2 := true) (by decide +kernel) (by decide +kernel), _, rfl, iteT ?_⟩
        refine ⟨_, rfl, _, _, _, _, false, rfl, .ty _, .base (.tup (s1 _ _ ea)), kit_ty (by decide +kernel), _, rfl, _, _, _, _, false, rfl, .ty _, .base (.tup (s1 _ _ eb)), kit_ty (by decide +kernel), rfl, _, rfl, iteF ?_⟩
        refine ⟨_, rfl, _, _, _, _, true, rfl, .ty _, .base (.tup (s1 _ _ ea)), kit_ty (by decide +kernel), _, rfl, _, _, _, _, true, rfl, .ty _, .base (.tup (s1 _ _ eb)), kit_ty (by decide +kernel), rfl, _, rfl, iteF ?_⟩
        refine ⟨_, rfl, a, xs, rfl, .inr (SqT.of (s1 _ _ ea)), _, rfl, b, ys, rfl, .inr (SqT.of (s1 _ _ eb)), rfl, _, rfl, ?_⟩
        rw [hlen, decide_eq_true (rfl : (V.int (ys.length : Int)) = V.int (ys.length : Int))]
        refine iteT ?_
        refine ⟨_, rfl, _, rfl, a, b, xs, ys, rfl, .inr ⟨SqT.of (s1 _ _ ea), SqT.of (s1 _ _ eb), fun D nD => ?_⟩⟩
        have nDH : H D = none := s1.free nD
        refine lc_it (walk_zipT2 hlen) (fun i H3 => Same H H3 ∧ H3 D = some (.lst ((List.replicate i true).map V.bl)))
          ⟨s1.trans (same_new nD), upd_same⟩ (fun i H3 _ p => ⟨SqT.of (p.1 _ _ ea), SqT.of (p.1 _ _ eb)⟩) ?_ ?_
        · rintro i x H3 H4 hi ⟨s3, eD⟩ ⟨t, x1, x2, rfl, nt, rfl, f1, f2⟩
          have f1' : xs[i]? = some x1 := f1
          have f2' : ys[i]? = some x2 := f2
          obtain ⟨d1, e1, g1⟩ := hxs.get f1'
          obtain ⟨d2, e2, g2⟩ := hys.get f2'
          obtain rfl : d1 = d2 := Option.some.inj (e1.symm.trans e2)
          have s4 := s3.trans (same_new (o := HO.tup [x1, x2]) nt)
          refine ⟨t, _, rfl, .inl (.inl upd_same), rfl, _, _, rfl, _, _, rfl, rfl, rfl, _, rfl, _, rfl, x1, x2, d1, rfl, g1.mono s4, g2.mono s4, hs.2 d1 (List.mem_of_getElem? e1), fun H5 s5 => ?_⟩
          refine ⟨_, s5 _ _ ((upd_ne (ne_of_none eD nt)).trans eD), ?_, same_mut (s4.trans s5) nDH, ?_⟩
          · rw [List.length_map, List.length_replicate]
            have z := hs.1
            have z2 := hxs.length
            exact Nat.lt_of_le_of_lt (show i ≤ 1000 by omega) (by decide)
          · rw [upd_same, List.replicate_succ', List.map_append]
            rfl
        · rintro H3 ⟨s3, eD⟩
          refine ⟨D, _, rfl, SqL.of eD, ?_⟩
          have al : (List.replicate xs.length true).all id = true := by
            rw [List.all_eq_true]
            intro z hz
            rw [List.eq_of_mem_replicate hz]
            rfl
          rw [al]
          exact q _ s3
end
end KB
set_option Elab.async false
set_option linter.all false
set_option maxRecDepth 100000
set_option maxHeartbeats 4000000
namespace KB
open PySem PySem.Spec PyProof.Rows L2 Evl
mutual
def listsD : PyData → PyData
  | .list ds => .list (listsAll ds)
  | .tuple ds => .list (listsAll ds)
  | .none => .none
  | .bool b => .bool b
  | .int i => .int i
  | .str s => .str s
  | .dict d => .dict d
def listsAll : List PyData → List PyData
  | [] => []
  | d :: ds => listsD d :: listsAll ds
end
theorem listsAll_map : ∀ (ds : List PyData), listsAll ds = ds.map listsD
  | [] => by simp [listsAll]
  | d :: ds => by simp [listsAll, listsAll_map ds]
def spLists (n : Nat) : Sp := fun vs H Q _ => ∃ (v : V) (d : PyData) (M : List Addr), vs = [v] ∧ Dx (mask H M) v d ∧ (∀ b ∈ M, H b ≠ none) ∧ Sh n d ∧ ∀ (v' : V) (H' : Hp), Ex H H' → Dx (mask H' M) v' (listsD d) → Q v' H'
section
variable {P : Program} {w : World} {K : PySem.W.Frag} {mg : Str → Option Value} {base : Heap} {f : Addr} {fd : FuncData}
theorem no_lists : FnOk P w K mg base CX0 0 f fd ["_law_matter"] (spLists 0) :=
  ⟨fun vs H Q E ⟨_, _, _, _, _, _, h, _⟩ => h.elim, fun _ _ _ _ _ _ _ _ _ _ _ _ _ ⟨_, _, _, _, _, _, h, _⟩ => h.elim⟩
end
end KB
set_option Elab.async false
set_option linter.all false
set_option maxRecDepth 100000
set_option maxHeartbeats 4000000
namespace L2
open PySem PySem.Spec PyProof.Rows
def kwG : List Value → List Value → List Value := fun us ws => match us with | [] => ws | _ :: _ => []
def kwV : List V → List V → List V := fun us ws => match us with | [] => ws | _ :: _ => []
theorem kw_one {K : PySem.W.Frag} {fd : FuncData} {kn : Str} (h : ∀ (s : Shared) (v : Value), BindsTo s fd ⟨[], [(kn, v)]⟩ [(kn, v)]) : KBinds K fd [kn] [kn] kwG kwV := by
  refine ⟨fun s us ws _ hl => ?_, fun {vs us zs ws} r rz => ?_⟩
  · match us, ws, hl with
    | [], [w], _ => exact h s w
    | [], [], hl => exact absurd hl (by simp [kwG])
    | [], _ :: _ :: _, hl => exact absurd hl (by simp [kwG])
    | _ :: _, _, hl => exact absurd hl (by simp [kwG])
  · cases r with
    | nil => exact rz
    | cons _ _ => exact .nil
section
variable {X : Cx} {k : Nat} {f : Addr} {fd : FuncData} {ps ks : List Str} {sp : Sp} {x : Str} {p pos : Pos} {kws : List Keyword} {tk : TA} {g : List Value → List Value → List Value} {gV : List V → List V → List V}
theorem pe_callK0 (F : FnOk X.prog X.w X.K X.mg X.base CX0 k f fd ps sp) (hr : Room k X.A) (hg : Gl X x) (hm : X.mg x = some (.ref f)) (hk : PySem.W.keepIn X.K (.ref f) = true) (hb : KBinds X.K fd ps ks g gV) (hkw : PK X kws tk)
    (hall : (backToKw pos (keywordEach kws X.env)).all (·.1.isSome) = true := by rfl) (hks : (backToKw pos (keywordEach kws X.env)).filterMap (·.1) = ks := by rfl) (hdb : (x == ("__debug__" : Str)) = false := by decide)
    (hpl : ((backTo pos (starEach [] X.env)).any (·.1) || (backToKw pos (keywordEach kws X.env)).any (·.1.isNone)) = false := by rfl) :
    PE X (.Call (.Name x p) [] kws pos) (tCallK sp gV E0 tNil tk) := by
  refine ⟨fun pins s σ H Q I h => wpAny_Call_Name_kw (ld_glob I hg hm ?_ hdb)⟩
  refine PySem.W.callWith_KW0 (h₀ := X.base) I.ok.mod.kin hk hall (thn (hkw.run pos pins s σ H _ I h) fun ws s2 ⟨zs, H2, I2, rz, q2⟩ => ⟨I2.kIn, ?_⟩) hpl
  rw [hks]
  exact run_fnk (us := []) (vs := []) F hr hb pass0 I2 .nil rz q2
end
end L2
namespace KB
open PySem PySem.Spec PyProof.Rows L2 Evl
section
variable {K : PySem.W.Frag} {σ : L2.St} {H H' : Hp} {ta tb te : TE} {tz : TS} {D : Ends}
theorem q_parXX {d1 d2 : PyData} {i j : Nat} (h1 : EvX ta σ H d1) (h2 : EvX tb σ H d2) (k : ∀ v u H1, Ex H H1 → Dx H1 v d1 → Dx H1 u d2 → tz D ((σ.set i (some v)).set j (some u)) H1) : tSeq (tPar i j (tCons ta (tCons tb tNil))) tz D σ H :=
  h1 H (Ex.refl H) _ fun v H1 e1 g1 => h2 H1 e1 _ fun u H2 e2 g2 => ⟨_, _, rfl, k v u H2 (e1.trans e2) (g1.mono e2) g2⟩
theorem q_parXV {d1 : PyData} {v2 : V} {i j : Nat} (h1 : EvX ta σ H d1) (h2 : Ev tb σ H v2) (k : ∀ v H1, Ex H H1 → Dx H1 v d1 → tz D ((σ.set i (some v)).set j (some v2)) H1) : tSeq (tPar i j (tCons ta (tCons tb tNil))) tz D σ H :=
  h1 H (Ex.refl H) _ fun v H1 e1 g1 => h2 H1 e1 _ fun H2 e2 => ⟨_, _, rfl, k v H2 (e1.trans e2) (g1.mono e2)⟩
end
/-! ### sizes -/
theorem ring_len {M : Fam} : ∀ (k : Nat) (row : List Int) (l : Option Int), (ringGo M k row l).1.length ≤ row.length + k
  | 0, row, l => Nat.le_refl _
  | k + 1, row, none => Nat.le_add_right _ _
  | k + 1, row, some x => by
    show (if x ∈ row then (row, some x) else ringGo M k (row ++ [x]) (need M x)).1.length ≤ _
    split
    · exact Nat.le_add_right _ _
    · have := ring_len (M := M) k (row ++ [x]) (need M x)
      rw [List.length_append] at this
      simp at this
      omega
theorem ring_le {M : Fam} {n : Int} {row : List Int} (h : ring M n = some row) : row.length ≤ 65 := by
  unfold ring at h
  dsimp only at h
  split at h
  · have e := Option.some.inj h
    rw [← e]
    have := ring_len (M := M) 64 [n] (need M n)
    simp at this
    omega
  · cases h
/-- a reason of a family: its ring is short -/
def RsOk : Rs → Prop
  | .ring row => row.length ≤ 65
  | _ => True
theorem reasons_ok (M : Fam) : ∀ r ∈ reasons M, RsOk r := fun r m => by
  unfold reasons at m
  rcases List.mem_append.mp m with m | m
  · rcases List.mem_append.mp m with m | m
    · obtain ⟨s, _, m⟩ := List.mem_flatMap.mp m
      obtain ⟨n, _, rfl⟩ := List.mem_map.mp m
      exact True.intro
    · obtain ⟨g, _, rfl⟩ := List.mem_map.mp m
      exact True.intro
  · obtain ⟨row, m2, rfl⟩ := List.mem_map.mp m
    obtain ⟨n, _, e⟩ := List.mem_filterMap.mp m2
    exact ring_le e
theorem barM_ok {M : Fam} {r : Rs} (h : barM M = some r) : RsOk r := reasons_ok M r (List.mem_of_mem_head? h)
theorem sh_ints (k : Nat) (ns : List Int) : ∀ d ∈ ns.map PyData.int, Sh (k + 1) d := fun d m => by
  obtain ⟨n, _, rfl⟩ := List.mem_map.mp m
  exact True.intro
theorem sh_rs {r : Rs} (h : RsOk r) : Sh 3 (rsD r) := by
  cases r with
  | session s n => exact ⟨by show 3 ≤ 1000; omega, fun d m => by simp at m; rcases m with rfl | rfl | rfl <;> exact True.intro⟩
  | group g => exact ⟨by show 2 ≤ 1000; omega, fun d m => by simp at m; rcases m with rfl | rfl <;> exact True.intro⟩
  | ring row =>
    refine ⟨by show 2 ≤ 1000; omega, fun d m => ?_⟩
    simp at m
    rcases m with rfl | rfl
    · exact True.intro
    · refine ⟨by rw [List.length_map]; have : row.length ≤ 65 := h; omega, sh_ints 0 row⟩
theorem sh_opt {M : Fam} : Sh 4 (optD (barM M)) := by
  cases h : barM M with
  | none => exact True.intro
  | some r =>
    have := sh_rs (barM_ok h)
    cases r with
    | session s n => exact ⟨by show 3 ≤ 1000; omega, fun d m => by simp at m; rcases m with rfl | rfl | rfl <;> exact True.intro⟩
    | group g => exact ⟨by show 2 ≤ 1000; omega, fun d m => by simp at m; rcases m with rfl | rfl <;> exact True.intro⟩
    | ring row =>
      refine ⟨by show 2 ≤ 1000; omega, fun d m => ?_⟩
      simp at m
      rcases m with rfl | rfl
      · exact True.intro
      · exact ⟨by rw [List.length_map]; have : row.length ≤ 65 := barM_ok h; omega, sh_ints 1 row⟩
theorem lay_rs (r : Rs) : (rsD r).canLay0 = true ∧ (rsD r).depth ≤ 2 := by
  cases r with
  | session s n => exact ⟨by simp only [rsD, PyData.canLay0, PyData.canLayAll0, Bool.and_true]; decide +kernel, by simp [rsD, PyData.depth, PyData.depthAll]⟩
  | group g => exact ⟨by simp only [rsD, PyData.canLay0, PyData.canLayAll0, Bool.and_true]; decide +kernel, by simp [rsD, PyData.depth, PyData.depthAll]⟩
  | ring row =>
    obtain ⟨a, b⟩ := lay_ints row
    exact ⟨by simp only [rsD, PyData.canLay0, PyData.canLayAll0, Bool.and_true, a]; decide +kernel, by simp [rsD, PyData.depth, PyData.depthAll, b]⟩
theorem shaped_rs (rs : List Rs) : SeqAt.shaped (.list (rs.map rsD)) = true := by
  have h : PyData.canLayAll0 (rs.map rsD) = true ∧ PyData.depthAll (rs.map rsD) ≤ 2 := by
    induction rs with
    | nil => exact ⟨by simp [PyData.canLayAll0], by simp [PyData.depthAll]⟩
    | cons r rs ih =>
      obtain ⟨a, b⟩ := lay_rs r
      refine ⟨by simp only [List.map_cons, PyData.canLayAll0, a, ih.1]; rfl, ?_⟩
      simp only [List.map_cons, PyData.depthAll]
      omega
  show ((PyData.list (rs.map rsD)).canLay0 && decide ((PyData.list (rs.map rsD)).depth ≤ 64)) = true
  have h1 : (PyData.list (rs.map rsD)).canLay0 = true := by simp only [PyData.canLay0]; exact h.1
  have h2 : (PyData.list (rs.map rsD)).depth ≤ 64 := by simp only [PyData.depth]; omega
  rw [h1, decide_eq_true h2]
  rfl
theorem nice_int {i : Int} (h : -1000 ≤ i) (h2 : i ≤ 1000) : Nice 0 (.int i) := by
  show i.natAbs.log2 < 64
  have h3 : i.natAbs < 2 ^ 64 := by omega
  by_cases h0 : i.natAbs = 0
  · rw [h0]; decide
  · exact (Nat.log2_lt h0).mpr h3
/-- small numbers in all rows -/
structure Small (M : Fam) : Prop where
  few : M.length ≤ 20
  row : ∀ r ∈ M, 1 ≤ r.n ∧ r.n ≤ 300 ∧ 0 ≤ r.up ∧ r.up ≤ 300 ∧ 0 ≤ r.s ∧ r.s ≤ 300 ∧ 0 ≤ r.g ∧ r.g ≤ 300
theorem small_of {L : List Ent} (B : Born (rowsL L)) (bd : Bd L) : Small (famL L) := by
  have W := wfL B
  have num : ∀ r ∈ famL L, 2 ≤ r.n ∧ r.n ≤ 199 ∧ 0 ≤ r.s ∧ r.s ≤ 300 ∧ 0 ≤ r.g ∧ r.g ≤ 300 := fun r m => by
    have h1 := W.low r m
    obtain ⟨e, me, rfl⟩ := List.mem_map.mp ((mem_srtR B.nd).mp m)
    have h2 := bd e me
    exact ⟨h1, h2.1, h2.2.1, h2.2.2.1, h2.2.2.2.1, h2.2.2.2.2⟩
  refine ⟨W.few, fun r m => ?_⟩
  have h := num r m
  rcases W.par r m with z | z
  · omega
  · obtain ⟨q, mq, eq⟩ := List.mem_map.mp z
    have h2 := num q mq
    omega
theorem nice_word (w : Nat) : Nice 0 (.str (wordOf w)) := by
  unfold wordOf
  split
  · exact ⟨by decide +kernel, by decide +kernel, by decide +kernel⟩
  · split
    · exact ⟨by decide +kernel, by decide +kernel, by decide +kernel⟩
    · exact ⟨by decide +kernel, by decide +kernel, by decide +kernel⟩
theorem Nice.to {k : Nat} {d : PyData} (h : Nice 0 d) : Nice k d := by
  induction k with
  | zero => exact h
  | succ k ih => exact ih.up
theorem nice_sq {k : Nat} {b : Bool} {ds : List PyData} (h : ds.length ≤ 20) (h2 : ∀ d ∈ ds, Nice k d) : Nice (k + 1) (sqD b ds) := by
  cases b with
  | true => exact ⟨h, h2⟩
  | false => exact ⟨h, h2⟩
theorem nice_row {M : Fam} (S : Small M) {r : Rw} (m : r ∈ M) (b : Bool) : Nice 2 (rowDt b r) := by
  have h := S.row r m
  refine nice_sq (by show 10 ≤ 20; decide) fun d md => ?_
  have nint : ∀ {i : Int}, -1000 ≤ i → i ≤ 1000 → Nice 1 (.int i) := fun a b => (nice_int a b).to
  have nn : Nice 1 PyData.none := True.intro
  simp only [List.mem_cons, List.not_mem_nil, or_false] at md
  rcases md with rfl | rfl | rfl | rfl | rfl | rfl | rfl | rfl | rfl | rfl
  · exact nint (by omega) (by omega)
  · split
    · exact nn
    · exact nint (by omega) (by omega)
  · exact nint (by omega) (by omega)
  · exact nint (by omega) (by omega)
  · exact True.intro
  · exact (nice_word r.w).to
  · split
    · exact nint (by omega) (by omega)
    · exact nn
  · exact nn
  · refine nice_sq (by split <;> decide) fun d md => ?_
    split at md
    · cases md
    · simp only [List.mem_cons, List.not_mem_nil, or_false] at md
      rcases md with rfl | rfl | rfl | rfl <;> exact nice_int (by decide) (by decide)
  · exact nice_sq (by decide) fun d md => nomatch md
theorem nice_img {M : Fam} (S : Small M) (b : Bool) : Nice 4 (imgD b M) := by
  have e0 : Nice 3 (sqD b []) := nice_sq (by decide) fun d md => nomatch md
  refine nice_sq (by show 6 ≤ 20; decide) fun d md => ?_
  simp only [List.mem_cons, List.not_mem_nil, or_false] at md
  rcases md with rfl | rfl | rfl | rfl | rfl | rfl
  · refine nice_sq (by rw [List.length_map]; exact S.few) fun d md => ?_
    obtain ⟨r, mr, rfl⟩ := List.mem_map.mp md
    exact nice_row S mr b
  all_goals exact e0
theorem Nice.sh : ∀ {k : Nat} {d : PyData}, Nice k d → Sh (k + 1) d
  | _, .none, _ => True.intro
  | _, .bool _, _ => True.intro
  | _, .int _, _ => True.intro
  | _, .str _, _ => True.intro
  | 0, .list _, h => by simp [Nice] at h
  | 0, .tuple _, h => by simp [Nice] at h
  | k + 1, .list ds, h => by
    have h2 : ds.length ≤ 20 ∧ ∀ d ∈ ds, Nice k d := by simpa [Nice] using h
    exact ⟨by omega, fun d m => Nice.sh (h2.2 d m)⟩
  | k + 1, .tuple ds, h => by
    have h2 : ds.length ≤ 20 ∧ ∀ d ∈ ds, Nice k d := by simpa [Nice] using h
    exact ⟨by omega, fun d m => Nice.sh (h2.2 d m)⟩
  | _, .dict _, h => by simp [Nice] at h
theorem lists_sq (ds : List PyData) : listsD (sqD true ds) = sqD false (ds.map listsD) := by
  show listsD (.tuple ds) = .list _
  simp only [listsD, listsAll_map]
theorem lists_row (r : Rw) : listsD (rowDt true r) = rowDt false r := by
  have c : listsD (cellsD true r) = cellsD false r := by
    unfold cellsD
    rw [lists_sq]
    split <;> simp [listsD]
  have e : listsD (sqD true []) = sqD false [] := by rw [lists_sq]; rfl
  unfold rowDt
  rw [lists_sq]
  simp only [List.map_cons, List.map_nil, c, e]
  have a1 : listsD (if r.up = 1 then .none else .int r.up) = (if r.up = 1 then .none else .int r.up) := by split <;> simp [listsD]
  have a2 : listsD (if r.w = 1 then .int (r.n - 9) else .none) = (if r.w = 1 then .int (r.n - 9) else .none) := by split <;> simp [listsD]
  rw [a1, a2]
  simp [listsD]
theorem lists_img (M : Fam) : listsD (imgD true M) = imgD false M := by
  have e : listsD (sqD true []) = sqD false [] := by rw [lists_sq]; rfl
  unfold imgD
  rw [lists_sq]
  simp only [List.map_cons, List.map_nil, e]
  rw [lists_sq, List.map_map]
  rw [show (listsD ∘ rowDt true) = rowDt false from funext lists_row]
end KB
set_option Elab.async false
set_option linter.all false
set_option maxRecDepth 100000
set_option maxHeartbeats 4000000
namespace KB
open PySem PySem.Spec PyProof.Rows L2 Evl
section
variable {K : PySem.W.Frag} {σ : L2.St} {H H' : Hp} {ta tb te : TE} {t : TT} {tz : TS} {D : Ends}
theorem ex_if {b : Bool} {d : PyData} (h : EvT t σ H b) (h1 : b = true → EvX ta σ H d) (h2 : b = false → EvX tb σ H d) : EvX (tIf t ta tb) σ H d := fun H1 e Q q => h H1 e _ fun H2 e2 => by
  cases b with
  | true =>
    show ta σ H2 Q
    exact h1 rfl H2 (e.trans e2) Q fun v H3 e3 g => q v H3 (e2.trans e3) g
  | false =>
    show tb σ H2 Q
    exact h2 rfl H2 (e.trans e2) Q fun v H3 e3 g => q v H3 (e2.trans e3) g
theorem ex_lst2 {d1 d2 : PyData} (h1 : EvX ta σ H d1) (h2 : EvX tb σ H d2) : EvX (tLst (tCons ta (tCons tb tNil))) σ H (.list [d1, d2]) := fun H1 e Q q =>
  h1 H1 e _ fun v H2 e2 g2 => h2 H2 (e.trans e2) _ fun u H3 e3 g3 => ⟨by show 2 ≤ sizeLine; decide, fun l nl => q _ _ ((e2.trans e3).trans (Ex.new nl)) (.lst upd_same (.cons ((g2.mono e3).mono (Ex.new nl)) (.cons (g3.mono (Ex.new nl)) .nil)))⟩
theorem ev_same {n : Nat} {d : PyData} (h1 : EvX ta σ H d) (h2 : EvX tb σ H d) (hs : Sh n d) : Ev (tCall (spSame n) [] E0 (tCons ta (tCons tb tNil))) σ H (.bl true) := fun H1 e Q q =>
  h1 H1 e _ fun v H2 e2 g2 => h2 H2 (e.trans e2) _ fun u H3 e3 g3 => ⟨v, u, d, rfl, g2.mono e3, g3, hs, fun H' s => q H' ((e2.trans e3).trans s)⟩
theorem ev_repr {v : V} {d : PyData} {k : Nat} (h : Ev ta σ H v) (g : Dx H v d) (n : Nice k d) (hk : k ≤ 4) : Ev (tCB (rRepr K) (tCons ta tNil)) σ H (.str d.shown) := fun H1 e Q q =>
  h H1 e _ fun H2 e2 => by
    obtain ⟨a, b, c, f, g', i⟩ := nice_facts (K := K) (g.mono (e.trans e2)) n hk
    exact ⟨v, d, rfl, a, b, c, f, g', i, q H2 e2⟩
theorem ex_lists {n : Nat} {v : V} {d : PyData} (h : Ev ta σ H v) (g : Dx H v d) (hs : Sh n d) : EvX (tCall (spLists n) [] E0 (tCons ta tNil)) σ H (listsD d) := fun H1 e Q q =>
  h H1 e _ fun H2 e2 => ⟨v, d, [], rfl, by rw [mask_nil]; exact g.mono (e.trans e2), (fun b m => nomatch m), hs, fun v' H' e3 g3 => q v' H' (e2.trans e3) (by rw [mask_nil] at g3; exact g3)⟩
/-- xs != [], of data -/
theorem et_nenilD {v : V} {ds : List PyData} (h : Ev ta σ H v) (g : Dx H v (.list ds)) (sh : SeqAt.shaped (.list ds) = true) : EvT (tTest (tOp (rNeD K) ta (tLst tNil))) σ H (!decide (ds = [])) := by
  refine et_test (ev_opL h (el_lst ea_nil (by show 0 ≤ 100000; omega)) fun p H1 hp e1 => rv_val fun H2 e2 Q q => ⟨.list ds, .list [], (g.mono (e1.trans e2)).dp, .lst (sq_of (e2 _ _ hp)) .nil, sh, rfl, ?_⟩)
  have : PyData.eqv (.list ds) (.list []) = decide (ds = []) := by
    cases ds <;> simp [PyData.eqv, PyData.eqvAll]
  rw [this]
  exact q
/-- x != f(), equal data -/
theorem ev_neX {v : V} {d : PyData} {k : Nat} (h : Ev ta σ H v) (g : Dx H v d) (h2 : EvX tb σ H d) (n : Nice k d) (hk : k ≤ 4) : Ev (tOp (rNeD K) ta tb) σ H (.bl false) := fun H1 e Q q =>
  h H1 e _ fun H2 e2 => h2 H2 (e.trans e2) _ fun u H3 e3 g3 => by
    obtain ⟨_, b, _⟩ := nice_facts (K := K) g3 n hk
    refine ⟨d, d, ((g.mono (e.trans e2)).mono e3).dp, g3.dp, b, b, ?_⟩
    rw [SeqAt.eqv_refl d n.show.1.2]
    exact q H3 (e2.trans e3)
end
end KB
namespace L2
open PySem PySem.Spec PyProof.Rows
def kwG2 : List Value → List Value → List Value := fun us ws => match us, ws with | [], [t, i] => [i, t] | _, _ => []
def kwV2 : List V → List V → List V := fun us ws => match us, ws with | [], [t, i] => [i, t] | _, _ => []
theorem kw_two {K : PySem.W.Frag} {fd : FuncData} {a b : Str} (h : ∀ (s : Shared) (v u : Value), BindsTo s fd ⟨[], [(b, v), (a, u)]⟩ [(a, u), (b, v)]) : KBinds K fd [a, b] [b, a] kwG2 kwV2 := by
  refine ⟨fun s us ws _ hl => ?_, fun {vs us zs ws} r rz => ?_⟩
  · match us, ws, hl with
    | [], [v, u], _ => exact h s v u
    | [], [], hl => exact absurd hl (by simp [kwG2])
    | [], [_], hl => exact absurd hl (by simp [kwG2])
    | [], _ :: _ :: _ :: _, hl => exact absurd hl (by simp [kwG2])
    | _ :: _, _, hl => exact absurd hl (by simp [kwG2])
  · cases r with
    | nil =>
      cases rz with
      | nil => exact .nil
      | cons h1 t1 =>
        cases t1 with
        | nil => exact .nil
        | cons h2 t2 =>
          cases t2 with
          | nil => exact .cons h2 (.cons h1 .nil)
          | cons _ _ => exact .nil
    | cons _ _ => exact .nil
end L2
set_option Elab.async false
set_option linter.all false
set_option maxRecDepth 100000
set_option maxHeartbeats 4000000
namespace KB
open PySem PySem.Spec PyProof.Rows L2 Evl
/-! ### which data are reasons of a family -/
theorem ringGo_front {M : Fam} : ∀ (k : Nat) (row : List Int) (l : Option Int), ∃ more, (ringGo M k row l).1 = row ++ more
  | 0, row, l => ⟨[], (List.append_nil row).symm⟩
  | k + 1, row, none => ⟨[], (List.append_nil row).symm⟩
  | k + 1, row, some x => by
    show ∃ more, (if x ∈ row then (row, some x) else ringGo M k (row ++ [x]) (need M x)).1 = row ++ more
    split
    · exact ⟨[], (List.append_nil row).symm⟩
    · obtain ⟨more, h⟩ := ringGo_front (M := M) k (row ++ [x]) (need M x)
      exact ⟨x :: more, by rw [h, List.append_assoc]; rfl⟩
theorem ring_head {M : Fam} {n : Int} {row : List Int} (h : ring M n = some row) : ∃ rest, row = n :: rest := by
  unfold ring at h
  dsimp only at h
  split at h
  · have e := Option.some.inj h
    obtain ⟨more, hm⟩ := ringGo_front (M := M) 64 [n] (need M n)
    exact ⟨more, by rw [← e, hm]; rfl⟩
  · cases h
theorem tops_in {M : Fam} {s n : Int} (h : n ∈ tops M s) : n ∈ keys M := (List.mem_filter.mp h).1
theorem barsS_in {M : Fam} {s n : Int} (h : barsS M s n = true) : n ∈ keys M := by
  unfold barsS at h
  split at h
  · rename_i hs
    split at h
    · rename_i e
      rw [e]; exact hs
    · rw [Bool.and_eq_true] at h
      exact tops_in (of_decide_eq_true h.1)
  · split at h
    · rename_i ht
      exact tops_in ht
    · cases h
/-- d is a reason of M -/
def Shows (M : Fam) (d : PyData) : Prop := ∃ r ∈ reasons M, d = rsD r
def ShowsR (M : Fam) (d : PyData) : Prop := ∃ row n, d = .list (row.map PyData.int) ∧ ring M n = some row
theorem shows_iff {M : Fam} (W : WF M) (d : PyData) : Shows M d ↔ (∃ s n, d = .tuple [.str "session", .int s, .int n] ∧ s ∈ sessions M ∧ barsS M s n = true) ∨ (∃ g, d = .tuple [.str "group", .int g] ∧ g ∈ groups M ∧ splitB M g = true) ∨ (∃ e, d = .tuple [.str "ring", e] ∧ ShowsR M e) := by
  constructor
  · rintro ⟨r, m, rfl⟩
    unfold reasons at m
    rcases List.mem_append.mp m with m | m
    · rcases List.mem_append.mp m with m | m
      · obtain ⟨s, ms, m⟩ := List.mem_flatMap.mp m
        obtain ⟨n, mn, rfl⟩ := List.mem_map.mp m
        exact .inl ⟨s, n, rfl, ms, (List.mem_filter.mp mn).2⟩
      · obtain ⟨g, mg, rfl⟩ := List.mem_map.mp m
        exact .inr (.inl ⟨g, rfl, (List.mem_filter.mp mg).1, (List.mem_filter.mp mg).2⟩)
    · obtain ⟨row, m2, rfl⟩ := List.mem_map.mp m
      obtain ⟨n, _, e⟩ := List.mem_filterMap.mp m2
      exact .inr (.inr ⟨_, rfl, row, n, rfl, e⟩)
  · rintro (⟨s, n, rfl, ms, hb⟩ | ⟨g, rfl, mg, hb⟩ | ⟨e, rfl, row, n, rfl, hr⟩)
    · refine ⟨.session s n, ?_, rfl⟩
      unfold reasons
      exact List.mem_append_left _ (List.mem_append_left _ (List.mem_flatMap.mpr ⟨s, ms, List.mem_map_of_mem (List.mem_filter.mpr ⟨barsS_in hb, hb⟩)⟩))
    · refine ⟨.group g, ?_, rfl⟩
      unfold reasons
      exact List.mem_append_left _ (List.mem_append_right _ (List.mem_map_of_mem (List.mem_filter.mpr ⟨mg, hb⟩)))
    · refine ⟨.ring row, ?_, rfl⟩
      unfold reasons
      have hn : n ∈ keys M := by
        by_cases z : n ∈ keys M
        · exact z
        · rw [ring_out W z] at hr; cases hr
      exact List.mem_append_right _ (List.mem_map_of_mem (List.mem_filterMap.mpr ⟨n, hn, hr⟩))
end KB
set_option Elab.async false
set_option linter.all false
set_option maxRecDepth 100000
set_option maxHeartbeats 4000000
namespace KB
open PySem PySem.Spec PyProof.Rows L2 Evl
/-! ### kinds of data -/
def tyN : PyData → String
  | .none => "NoneType"
  | .bool _ => "bool"
  | .int _ => "int"
  | .str _ => "str"
  | .list _ => "list"
  | .tuple _ => "tuple"
  | .dict _ => "dict"
def isNum : PyData → Bool
  | .int _ => true
  | _ => false
theorem Dx.ty {K : PySem.W.Frag} {H : Hp} {v : V} {d : PyData} (h : Dx H v d) : TyX K H v (.type (tyN d)) := by
  cases h with
  | non => exact .base .non
  | bl b => exact .base (.bl b)
  | int i => exact .base (.int i)
  | str x => exact .base (.str x)
  | lst e _ => exact .base (.lst e)
  | tup e _ => exact .base (.tup e)
theorem Dx.nodict {H : Hp} {v : V} {l} (h : Dx H v (.dict l)) : False := by cases h
section
variable {K : PySem.W.Frag} {σ : L2.St} {H H' : Hp} {ta tb te : TE} {t : TT} {d : PyData} {v : V}
theorem ev_isi {T : String} {b : Bool} (h : Ev ta σ H v) (g : Dx H v d) (k : kitB (tyN d) T = some b) : Ev (tCB (rIsi K) (tCons ta (tCons (tC (.ty T)) tNil))) σ H (.bl b) := fun H1 e Q q =>
  h H1 e _ fun H2 e2 => ⟨v, .ty T, .type (tyN d), .type T, b, rfl, .ty _, (g.mono (e.trans e2)).ty, kit_ty k, q H2 e2⟩
def isTy (T : String) (d : PyData) : Bool := decide (tyN d = T)
def tys : List String := ["NoneType", "bool", "int", "str", "list", "tuple", "dict"]
theorem tyN_mem (d : PyData) : tyN d ∈ tys := by cases d <;> simp [tyN, tys]
theorem kit_list (d : PyData) : kitB (tyN d) "list" = some (isTy "list" d) := (by decide +kernel : ∀ z ∈ tys, kitB z "list" = some (decide (z = "list"))) _ (tyN_mem d)
theorem kit_tuple (d : PyData) : kitB (tyN d) "tuple" = some (isTy "tuple" d) := (by decide +kernel : ∀ z ∈ tys, kitB z "tuple" = some (decide (z = "tuple"))) _ (tyN_mem d)
theorem kit_bool (d : PyData) : kitB (tyN d) "bool" = some (isTy "bool" d) := (by decide +kernel : ∀ z ∈ tys, kitB z "bool" = some (decide (z = "bool"))) _ (tyN_mem d)
theorem kit_str (d : PyData) : kitB (tyN d) "str" = some (isTy "str" d) := (by decide +kernel : ∀ z ∈ tys, kitB z "str" = some (decide (z = "str"))) _ (tyN_mem d)
theorem kit_int (d : PyData) : kitB (tyN d) "int" = some (isTy "int" d || isTy "bool" d) := (by decide +kernel : ∀ z ∈ tys, kitB z "int" = some (decide (z = "int") || decide (z = "bool"))) _ (tyN_mem d)
/-- all([f(x) for x in xs]) of data that stand -/
theorem all_num (ds : List (V × PyData)) : ((ds.map fun x => isNum x.2).all id) = ds.all fun x => isNum x.2 := by
  rw [List.all_map]; rfl
end
/-- b tells whether P -/
def RetB (P : Prop) (H : Hp) (Q : VK) : Prop := ∀ b H', Ex H H' → (b = true ↔ P) → Q (.bl b) H'
theorem pairs_of {H : Hp} : ∀ {xs : List V} {ds : List PyData}, DxAll H xs ds → ∃ ps : List (V × PyData), ps.map (·.1) = xs ∧ ps.map (·.2) = ds ∧ ∀ p ∈ ps, Dx H p.1 p.2
  | _, _, .nil => ⟨[], rfl, rfl, fun p m => nomatch m⟩
  | _, _, .cons (v := v) (d := d) h t => by
    obtain ⟨ps, h1, h2, h3⟩ := pairs_of t
    refine ⟨(v, d) :: ps, by rw [List.map_cons, h1], by rw [List.map_cons, h2], fun p m => ?_⟩
    rcases List.mem_cons.mp m with rfl | m
    · exact h
    · exact h3 p m
theorem nums_of : ∀ {ds : List PyData}, ds.all isNum = true → ∃ ns : List Int, ds = ns.map PyData.int
  | [], _ => ⟨[], rfl⟩
  | .int i :: ds, h => by
    have h2 : ds.all isNum = true := by simpa [isNum] using h
    obtain ⟨ns, e⟩ := nums_of h2
    exact ⟨i :: ns, by rw [e]; rfl⟩
  | .none :: _, h => by simp [isNum] at h
  | .bool _ :: _, h => by simp [isNum] at h
  | .str _ :: _, h => by simp [isNum] at h
  | .list _ :: _, h => by simp [isNum] at h
  | .tuple _ :: _, h => by simp [isNum] at h
  | .dict _ :: _, h => by simp [isNum] at h
theorem all_ints (ns : List Int) : (ns.map PyData.int).all isNum = true := by
  rw [List.all_map]
  exact List.all_eq_true.mpr fun x _ => rfl
theorem int_inj {a b : List Int} (h : a.map PyData.int = b.map PyData.int) : a = b := by
  induction a generalizing b with
  | nil => cases b with
    | nil => rfl
    | cons _ _ => cases h
  | cons x a ih => cases b with
    | nil => cases h
    | cons y b =>
      rw [List.map_cons, List.map_cons] at h
      injection h with h1 h2
      injection h1 with h1
      rw [h1, ih h2]
theorem eqv_ints : ∀ (a b : List Int), PyData.eqvAll (a.map PyData.int) (b.map PyData.int) = decide (a = b)
  | [], [] => by simp [PyData.eqvAll]
  | [], _ :: _ => by simp [PyData.eqvAll]
  | _ :: _, [] => by simp [PyData.eqvAll]
  | x :: a, y :: b => by
    simp only [List.map_cons, PyData.eqvAll, PyData.eqv, eqv_ints a b]
    by_cases h1 : x = y <;> by_cases h2 : a = b <;> simp [h1, h2]
abbrev sIsNum : Stmt := topS 20
abbrev sShowsR : Stmt := topS 30
theorem scIsNum : FnScope ["value"] ["value"] (defScope sIsNum) := ⟨rfl, rfl, rfl, by decide +kernel, rfl, by decide +kernel, by decide +kernel⟩
theorem scShowsR : FnScope ["kin", "row", "number"] ["kin", "row"] (defScope sShowsR) := ⟨rfl, rfl, rfl, by decide +kernel, rfl, by decide +kernel, by decide +kernel⟩
def spIsNum : Sp := fun vs H Q _ => ∃ v d, vs = [v] ∧ Dx H v d ∧ RetV (.bl (isNum d)) H Q
def spShowsR (C : Addr) : Sp := fun vs H Q _ => ∃ k M v d n, vs = [.ref k, v] ∧ Kn H C k M ∧ WF M ∧ Dx H v d ∧ Sh n d ∧ RetB (ShowsR M d) H Q
section
variable {P : Program} {w : World} {K : PySem.W.Frag} {mg : Str → Option Value} {base : Heap} {f fI fN fR : Addr} {fd dI dN dR : FuncData} {C : Addr}
theorem ok_isnum (F : Fun K "is_number" "is_number" sIsNum f fd) (mI : mg "isinstance" = none) (mi : mg "int" = none) (mb : mg "bool" = none) : FnOk P w K mg base CX0 1 f fd ["value"] spIsNum := by
  refine F.ok scIsNum (fun vs H Q E h => ?_) (fun cdv A outer s H vs Q E hr h => ?_)
  · obtain ⟨v, d, rfl, _⟩ := h
    rfl
  · obtain ⟨v, d, rfl, g, q⟩ := h
    refine ⟨_, pss_one (ps_ret (pe_and (pe_callB call_isi (by rfl) mI (by decide +kernel) (pa_cons (pv 0) (pa_cons (pe_bltn (v := .ty "int") (by rfl) mi (by decide +kernel) rfl) pa_nil))) (pe_one (pe_not (pe_callB call_isi (by rfl) mI (by decide +kernel) (pa_cons (pv 0) (pa_cons (pe_bltn (v := .ty "bool") (by rfl) mb (by decide +kernel) rfl) pa_nil))))))), ?_⟩
    have e : isNum d = ((isTy "int" d || isTy "bool" d) && !isTy "bool" d) := by cases d <;> rfl
    refine s_ret (ev_andV (ev_isi (ev_var rfl) g (kit_int d)) fun _ => ev_notV (ev_isi (ev_var rfl) g (kit_bool d))) fun H1 e1 => ?_
    rw [← e]
    exact q H1 e1
theorem ok_showsR (F : Fun K "shows_ring" "shows_ring" sShowsR f fd)
    (GI : FnOk P w K mg base CX0 1 fI dI ["value"] spIsNum) (bI : Binds K dI ["value"] []) (kI : PySem.W.keepIn K (.ref fI) = true) (mI : mg "is_number" = some (.ref fI))
    (GN : FnOk P w K mg base CX0 4 fN dN ["kin"] (spNeeds C)) (bN : Binds K dN ["kin"] []) (kN : PySem.W.keepIn K (.ref fN) = true) (mN : mg "needs" = some (.ref fN))
    (GR : FnOk P w K mg base CX0 1 fR dR ["needed", "number"] spRing) (bR : Binds K dR ["needed", "number"] []) (kR : PySem.W.keepIn K (.ref fR) = true) (mR : mg "ring_from" = some (.ref fR))
    (ms : mg "isinstance" = none) (ml : mg "list" = none) (ma : mg "all" = none) : FnOk P w K mg base CX0 5 f fd ["kin", "row"] (spShowsR C) := by
  refine F.ok scShowsR (fun vs H Q E h => ?_) (fun cdv A outer s H vs Q E hr h => ?_)
  · obtain ⟨k, M, v, d, n, rfl, _⟩ := h
    rfl
  · obtain ⟨k, M, v, d, n, rfl, N, W, g, sh, q⟩ := h
    have h1 : Room 1 _ := hr.mono (by decide)
    refine ⟨_, pss_cons (ps_if (PW.pt (pw_or (pt_not (pt_val (pe_callB call_isi (by rfl) ms (by decide +kernel) (pa_cons (pv 1) (pa_cons (pe_bltn (v := .ty "list") (by rfl) ml (by decide +kernel) rfl) pa_nil)))))
        (pw_or (pt_not (pt_truth (pv 1) (by intro _; rfl))) (pw_or1 (pt_not (pt_val (pe_callB (cr_all rfl) (by rfl) ma (by decide +kernel) (pa_cons (pe_lc (own := [("number", 2)]) (g := gName 2) (tt := tYes) (te := tCall spIsNum [] E0 (tCons (tVar 2) tNil)) rfl scShowsR.nd (pi_seq (pv 1)) (blkOk_by (N := ["kin", "row", "number"]) (sc := defScope sShowsR) (by decide +kernel))
          (fun _ _ _ _ _ => pg_name (i := 2) scShowsR.nd rfl (Or.inl rfl)) (fun _ _ _ _ _ => pts_nil) (fun _ _ _ _ _ => pe_call GI h1 rfl mI kI bI .nil pass0 (pa_cons (pv 2) pa_nil))) pa_nil))))))))
        (pss_one (ps_ret pe_bl)) pss_nil)
      (pss_one (ps_ret (pe_cmpR (op_eqD hr.units) (pe_call GR h1 rfl mR kR bR .nil pass0 (pa_cons (pe_call GN hr rfl mN kN bN .nil pass0 (pa_cons (pv 0) pa_nil)) (pa_cons (pe_ix ix_list (pv 1) pe_int (fun _ _ => rfl)) pa_nil))) (pv 1) (nomark _)))), ?_⟩
    have no : ¬ ShowsR M d → ∀ H1, Ex H H1 → Q (.bl false) H1 := fun z H1 e1 => q false H1 e1 ⟨fun h => (Bool.noConfusion h), fun h => absurd h z⟩
    have ringd : ∀ {row : List Int} {n : Int}, ring M n = some row → d = .list (row.map PyData.int) → isTy "list" d = true := fun _ e => by rw [e]; rfl
    have b1 := ev_isi (K := K) (σ := start ["kin", "row", "number"] [.ref k, v]) (ta := tVar 1) (H := H) (ev_var rfl) g (kit_list d)
    cases hl : isTy "list" d with
    | false =>
      rw [hl] at b1
      refine q_if (b := true) (et_or (a := true) (b := false) (et_not (et_test b1)) fun z => nomatch z) (fun _ H1 e1 => no (fun ⟨row, m, e, hr⟩ => ?_) H1 e1) (fun z => nomatch z)
      rw [ringd hr e] at hl
      cases hl
    | true =>
      rw [hl] at b1
      obtain ⟨ds, rfl⟩ : ∃ ds, d = .list ds := by
        cases d <;> first | exact ⟨_, rfl⟩ | (exact Bool.noConfusion (show false = true from hl))
      obtain ⟨a, xs, rfl, ea, hx⟩ : ∃ a xs, v = .ref a ∧ H a = some (.lst xs) ∧ DxAll H xs ds := by
        cases g with
        | lst e h => exact ⟨_, _, rfl, e, h⟩
      obtain ⟨ps, p1, p2, p3⟩ := pairs_of hx
      have len : ds.length ≤ 1000 := by
        cases n with
        | zero => exact sh.elim
        | succ n => exact sh.1
      have lps : ps.length = ds.length := by rw [← p2, List.length_map]
      have bl : EvL (tLc (iSeq K (tVar 1)) (gName 2) tYes (tCall spIsNum [] E0 (tCons (tVar 2) tNil)) [2]) (start ["kin", "row", "number"] [.ref k, .ref a]) H ((ds.map isNum).map V.bl) := by
        have z := el_lcS (K := K) (a := a) (xs := ps) (σ := start ["kin", "row", "number"] [.ref k, .ref a]) (H := H) (tl := tVar 1) (j := 2) (vs := [2]) (t := tYes) (te := tCall spIsNum [] E0 (tCons (tVar 2) tNil)) (fun x => x.1) (fun _ => true) (fun x => .bl (isNum x.2)) (ev_var rfl) (.inl (by rw [p1]; exact sq_of ea)) (by omega) (fun _ => rfl) (fun _ _ _ _ => et_yes)
          (fun x m _ H1 e1 => ev_call (ea_cons (ev_var rfl) ea_nil) fun H2 e2 Q q E => ⟨x.1, x.2, rfl, ((p3 x m).mono e1).mono e2, q⟩)
        rw [Evl.filter_all] at z
        rw [← p2, List.map_map, List.map_map]
        exact z
      have tru : EvT (fun σ H R => tVar 1 σ H fun x H1 => ∃ k, TruV K x H1 k ∧ R k H1) (start ["kin", "row", "number"] [.ref k, .ref a]) H (!xs.isEmpty) := fun H1 e Q q => ⟨_, rfl, _, .inl ⟨xs, sq_of (e _ _ ea), rfl⟩, q H1 (Ex.refl H1)⟩
      refine q_if (et_or (et_not (et_test b1)) fun _ => et_or (et_not tru) fun _ => et_not (et_test (ev_all bl))) (fun hb H1 e1 => no (fun ⟨row, m, e, hr⟩ => ?_) H1 e1) (fun hb H1 e1 => ?_)
      · injection e with e
        obtain ⟨rest, er⟩ := ring_head hr
        have : xs.isEmpty = false := by
          cases xs with
          | nil => have := hx.length; rw [e, er] at this; cases this
          | cons _ _ => rfl
        rw [this, e, List.all_map, List.all_map] at hb
        simp [isNum, Function.comp] at hb
      · have hb2 : xs.isEmpty = false ∧ ds.all isNum = true := by
          rw [List.all_map] at hb
          simpa using hb
        obtain ⟨ns, rfl⟩ := nums_of hb2.2
        cases ns with
        | nil =>
          cases hx
          exact absurd hb2.1 (by decide)
        | cons m rest =>
          cases hx with
          | cons h0 hz =>
            cases h0
            have N1 := N.mono e1
            have ea1 := e1 _ _ ea
            have cl : EvX (tCall spRing [] E0 (tCons (tCall (spNeeds C) [] E0 (tCons (tVar 0) tNil)) (tCons (tOp (rIxL K) (tVar 1) (tC (.int 0))) tNil))) (start ["kin", "row", "number"] [.ref k, .ref a]) H1 (rowD (ring M m)) := fun H2 e2 Q q =>
              ⟨_, rfl, k, M, rfl, N1.mono e2, W, fun dd H3 e3 hd => (ev_op (ev_var rfl) ev_c (rv_ix0 (sq_of (e2 _ _ ea1))) : Ev (tOp (rIxL K) (tVar 1) (tC (.int 0))) (start ["kin", "row", "number"] [.ref k, .ref a]) H2 (.int m)) H3 e3 _ fun H4 e4 => ⟨dd, M, m, rfl, hd.mono e4, W, fun u H5 e5 g5 => q u H5 (e3.trans (e4.trans e5)) g5⟩⟩
            refine cl H1 (Ex.refl H1) _ fun u H2 e2 g2 => ⟨_, rfl, rowD (ring M m), .list ((m :: rest).map PyData.int), g2.dp, ((g.mono e1).mono e2).dp, ?_, shaped_ints _, q _ H2 (e1.trans e2) ?_⟩
            · cases ring M m with
              | none => rfl
              | some row => exact shaped_ints row
            · have back : ShowsR M (.list ((m :: rest).map PyData.int)) → ring M m = some (m :: rest) := fun ⟨row, j, e, hr⟩ => by
                injection e with e
                have e := int_inj e
                obtain ⟨r2, er⟩ := ring_head hr
                rw [er] at e
                injection e with ej er2
                rw [← ej] at hr er
                rw [hr, er, ← er2]
              cases hrg : ring M m with
              | none => exact ⟨fun z => by simp [rowD, PyData.eqv] at z, fun z => by rw [back z] at hrg; cases hrg⟩
              | some row =>
                have : PyData.eqv (rowD (some row)) (.list ((m :: rest).map PyData.int)) = decide (row = m :: rest) := by
                  show PyData.eqv (.list _) _ = _
                  rw [PyData.eqv]
                  exact eqv_ints row (m :: rest)
                rw [this, decide_eq_true_iff]
                exact ⟨fun z => ⟨m :: rest, m, rfl, by rw [hrg, z]⟩, fun z => by rw [back z] at hrg; exact (Option.some.inj hrg).symm⟩
end
end KB
set_option Elab.async false
set_option linter.all false
set_option maxRecDepth 100000
set_option maxHeartbeats 4000000
namespace KB
open PySem PySem.Spec PyProof.Rows L2 Evl
section
variable {K : PySem.W.Frag} {σ : L2.St} {H H' : Hp} {ta tb te tl : TE} {t : TT} {d : PyData} {v : V}
/-- [e for x in xs if t], xs a tuple -/
theorem el_lcT {α : Type} {xs : List α} {j : Nat} {vs : List Nat} (emb : α → V) (p : α → Bool) (g : α → V) (h : EvP tl σ H fun v G => ∃ a, v = .ref a ∧ SqT K G a (xs.map emb)) (hz : xs.length ≤ 40000) (hw : ∀ x, wipe ((wipe σ vs).set j (some x)) vs = wipe σ vs)
    (ht : ∀ b ∈ xs, ∀ H1, Ex H H1 → EvT t ((wipe σ vs).set j (some (emb b))) H1 (p b)) (he : ∀ b ∈ xs, p b = true → ∀ H1, Ex H H1 → Ev te ((wipe σ vs).set j (some (emb b))) H1 (g b)) :
    EvL (tLc (iTup K tl) (gName j) t te vs) σ H ((xs.filter p).map g) := fun H0 e0 Q q => by
  have len : (xs.map emb).length = xs.length := List.length_map _
  have at_ : ∀ {i : Nat} {x : V}, (xs.map emb)[i]? = some x → ∃ b, xs[i]? = some b ∧ b ∈ xs ∧ x = emb b := fun {i x} e => by
    rw [List.getElem?_map] at e
    obtain ⟨b, e1, e2⟩ := Option.map_eq_some_iff.mp e
    exact ⟨b, e1, List.mem_of_getElem? e1, e2.symm⟩
  refine h H0 e0 _ fun v H1 e1 hv => ?_
  obtain ⟨a, rfl, hT⟩ := hv
  refine ⟨a, rfl, ⟨_, hT⟩, fun Dl hD => lc_it (walk_tup (K := K) (a := a) (xs := xs.map emb)) (Made H1 xs p g Dl) ⟨hD, Ex.new hD, upd_same⟩ (fun i G _ m => ex_t m.2.1 hT) ?_ fun G m => ?_⟩
  · rintro i x G _ hi m ⟨rfl, ex⟩
    obtain ⟨b, eb, mb, rfl⟩ := at_ ex
    exact ⟨hw _, made_turn m hz eb (ht b mb H1 (e0.trans e1)) (fun hp => he b mb hp H1 (e0.trans e1))⟩
  · obtain ⟨n1, eG, gD⟩ := m
    rw [len, List.take_length] at gD
    exact q _ _ (fresh_back e1 n1) (e1.trans eG) gD
/-- x == s, s a text -/
theorem ev_eqS {s : Str} (h : Ev ta σ H v) (g : Dx H v d) (sh : SeqAt.shaped d = true) (ss : SeqAt.shaped (.str s) = true) : Ev (tOp (rEqD K) ta (tC (.str s))) σ H (.bl (PyData.eqv d (.str s))) := fun H1 e Q q =>
  h H1 e _ fun H2 e2 => ⟨d, .str s, (g.mono (e.trans e2)).dp, .str s, sh, ss, q H2 e2⟩
theorem ev_lenT {a : Addr} {xs : List V} (h : Ev ta σ H (.ref a)) (g : H a = some (.tup xs)) : Ev (tCB (fun zs H Q => ∃ p ys, zs = [.ref p] ∧ (SqL K H p ys ∨ SqT K H p ys) ∧ Q (.int ys.length) H) (tCons ta tNil)) σ H (.int xs.length) := fun H1 e Q q =>
  h H1 e _ fun H2 e2 => ⟨a, xs, rfl, .inr (st_of ((e.trans e2) _ _ g)), q H2 e2⟩
/-- t[1:] of a tuple -/
theorem ep_tail {a : Addr} {xs : List V} (h : Ev ta σ H (.ref a)) (g : H a = some (.tup xs)) : EvP (tSl (rSlA K) ta (fun σ H Q => tC (.int 1) σ H fun v H1 => ∃ i, v = .int i ∧ Q (some i) H1) (fun _ H Q => Q none H)) σ H fun v G => ∃ b, v = .ref b ∧ SqT K G b (xs.drop 1) := fun H1 e Q q =>
  h H1 e _ fun H2 e2 => by
    have gx := (e.trans e2) _ _ g
    refine ⟨1, rfl, a, xs, rfl, st_of gx, fun hw => ?_, fun _ p np => ?_⟩
    · have : xs = [] := by
        cases xs with
        | nil => rfl
        | cons x xs =>
          have e1 : HT.sIx (x :: xs).length 0 (some 1) = 1 := by
            show HT.sIx (x :: xs).length 0 (some ((1 : Nat) : Int)) = 1
            rw [HT.sIx_nat]
            simp
          rw [e1] at hw
          cases hw.1
      subst this
      exact q _ H2 e2 ⟨a, rfl, st_of gx⟩
    · refine q _ _ (e2.trans (Ex.new np)) ⟨p, rfl, st_of ?_⟩
      rw [upd_same]
      cases xs with
      | nil => simp [cutV]
      | cons x xs => rw [cut1]; rfl
end
theorem eqvS (e : PyData) (s : Str) : PyData.eqv e (.str s) = true ↔ e = .str s := by
  cases e <;> simp [PyData.eqv]
theorem lay_mem : ∀ {ds : List PyData} {d : PyData}, d ∈ ds → PyData.canLayAll0 ds = true → d.canLay0 = true ∧ d.depth ≤ PyData.depthAll ds
  | e :: ds, d, m, h => by
    simp only [PyData.canLayAll0, Bool.and_eq_true] at h
    rcases List.mem_cons.mp m with rfl | m
    · exact ⟨h.1, by simp only [PyData.depthAll]; omega⟩
    · have := lay_mem m h.2
      exact ⟨this.1, by simp only [PyData.depthAll]; omega⟩
theorem shaped_mem {ds : List PyData} {d : PyData} (h : SeqAt.shaped (.tuple ds) = true) (m : d ∈ ds) : SeqAt.shaped d = true := by
  have h1 := SeqAt.canLay_of_shaped h
  have h2 := SeqAt.depth_of_shaped h
  simp only [PyData.canLay0] at h1
  simp only [PyData.depth] at h2
  have := lay_mem m h1
  show (d.canLay0 && decide (d.depth ≤ 64)) = true
  rw [this.1, decide_eq_true (by omega)]
  rfl
theorem w1 : ("ring" : Str) ≠ "group" := by decide +kernel
theorem w2 : ("ring" : Str) ≠ "session" := by decide +kernel
theorem w3 : ("group" : Str) ≠ "session" := by decide +kernel
theorem str_inj {a b : Str} (h : PyData.str a = .str b) : a = b := by injection h
theorem shows_ringI {M : Fam} (W : WF M) (e : PyData) : Shows M (.tuple [.str "ring", e]) ↔ ShowsR M e := by
  rw [shows_iff W]
  constructor
  · rintro (⟨s, n, h, _⟩ | ⟨g, h, _⟩ | ⟨e', h, hs⟩)
    · injection h with h; injection h with _ h; injection h with _ h; cases h
    · injection h with h; injection h with h _; exact absurd (str_inj h) w1
    · injection h with h; injection h with _ h; injection h with h _; rw [h]; exact hs
  · exact fun h => .inr (.inr ⟨e, rfl, h⟩)
theorem shows_groupI {M : Fam} (W : WF M) (g : Int) : Shows M (.tuple [.str "group", .int g]) ↔ g ∈ groups M ∧ splitB M g = true := by
  rw [shows_iff W]
  constructor
  · rintro (⟨s, n, h, _⟩ | ⟨g', h, h1, h2⟩ | ⟨e', h, hs⟩)
    · injection h with h; injection h with _ h; injection h with _ h; cases h
    · injection h with h; injection h with _ h; injection h with h _; injection h with h; rw [h]; exact ⟨h1, h2⟩
    · injection h with h; injection h with h _; exact absurd (str_inj h).symm w1
  · exact fun h => .inr (.inl ⟨g, rfl, h.1, h.2⟩)
theorem shows_sessI {M : Fam} (W : WF M) (s n : Int) : Shows M (.tuple [.str "session", .int s, .int n]) ↔ s ∈ sessions M ∧ barsS M s n = true := by
  rw [shows_iff W]
  constructor
  · rintro (⟨s', n', h, h1, h2⟩ | ⟨g', h, _⟩ | ⟨e', h, hs⟩)
    · injection h with h; injection h with _ h; injection h with ha h; injection h with hb _; injection ha with ha; injection hb with hb; rw [ha, hb]; exact ⟨h1, h2⟩
    · injection h with h; injection h with _ h; injection h with _ h; cases h
    · injection h with h; injection h with h _; exact absurd (str_inj h).symm w2
  · exact fun h => .inl ⟨s, n, rfl, h.1, h.2⟩
theorem tail_dx {H : Hp} {xs : List V} {ds : List PyData} (h : DxAll H xs ds) : DxAll H (xs.drop 1) (ds.drop 1) := by
  cases h with
  | nil => exact .nil
  | cons _ t => exact t
theorem DxAll.at {H : Hp} : ∀ {xs : List V} {ds : List PyData} {i : Nat} {d : PyData}, DxAll H xs ds → ds[i]? = some d → ∃ x, xs[i]? = some x ∧ Dx H x d
  | _, _, 0, d, .cons (d := d0) h _, e => by
    have e : d0 = d := by simpa using e
    exact ⟨_, rfl, by rw [← e]; exact h⟩
  | _, _, i + 1, d, .cons _ t, e => by
    obtain ⟨x, h1, h2⟩ := DxAll.at (i := i) t (by simpa using e)
    exact ⟨x, by simpa using h1, h2⟩
theorem num_int {d : PyData} (h : isNum d = true) : ∃ i, d = .int i := by
  cases d <;> first | exact ⟨_, rfl⟩ | (exact Bool.noConfusion (show false = true from h))
/-- a tuple whose first item is a word -/
theorem head_is {j : Nat} {word : Str} {ds : List PyData} (h : (decide (ds.length = j) && PyData.eqv (ds.headD .none) (.str word)) = true) (hj : 0 < j) : ∃ rest, ds = .str word :: rest ∧ rest.length + 1 = j := by
  rw [Bool.and_eq_true] at h
  have hl := of_decide_eq_true h.1
  cases ds with
  | nil => exact absurd hl (by show 0 ≠ j; omega)
  | cons d ds => exact ⟨ds, by rw [(eqvS d word).mp h.2], hl⟩
theorem head_no {j : Nat} {word : Str} {rest : List PyData} (h : (decide ((PyData.str word :: rest).length = j) && PyData.eqv ((PyData.str word :: rest).headD .none) (.str word)) = false) (hj : rest.length + 1 = j) : False := by
  have t : PyData.eqv (.str word) (.str word) = true := (eqvS _ _).mpr rfl
  rw [List.length_cons, decide_eq_true hj] at h
  have h2 : (true && PyData.eqv (.str word) (.str word)) = false := h
  rw [t] at h2
  cases h2
abbrev sShowsB : Stmt := topS 31
theorem scShowsB : FnScope ["image", "thing", "kin", "number"] ["image", "thing"] (defScope sShowsB) := ⟨rfl, rfl, rfl, by decide +kernel, rfl, by decide +kernel, by decide +kernel⟩
def spShowsB : Sp := fun vs H Q _ => ∃ img M v d n, vs = [img, v] ∧ ImgAt H img M ∧ WF M ∧ Dx H v d ∧ Sh n d ∧ SeqAt.shaped d = true ∧ RetB (Shows M d) H Q
section
variable {P : Program} {w : World} {K : PySem.W.Frag} {mg : Str → Option Value} {base : Heap} {f fI fN fR fS fG fB fD : Addr} {fd dI dN dR dS dG dB dD : FuncData} {C : Addr}
theorem ok_showsB (F : Fun K "shows_bar" "shows_bar" sShowsB f fd) (MK : Mk K C fI) (mC : mg "Kin" = some (.ref C))
    (GI : FnOk P w K mg base CX0 1 fI dI ["self", "image"] (spInit C)) (bI : Binds K dI ["self", "image"] [])
    (GR : FnOk P w K mg base CX0 5 fR dR ["kin", "row"] (spShowsR C)) (bR : Binds K dR ["kin", "row"] []) (kR : PySem.W.keepIn K (.ref fR) = true) (mR : mg "shows_ring" = some (.ref fR))
    (GN : FnOk P w K mg base CX0 1 fN dN ["value"] spIsNum) (bN : Binds K dN ["value"] []) (kN : PySem.W.keepIn K (.ref fN) = true) (mN : mg "is_number" = some (.ref fN))
    (GG : FnOk P w K mg base CX0 1 fG dG ["kin"] (spGroups C)) (bG : Binds K dG ["kin"] []) (kG : PySem.W.keepIn K (.ref fG) = true) (mG : mg "groups_of" = some (.ref fG))
    (GB : FnOk P w K mg base CX0 2 fB dB ["kin", "group"] (spBarsG C)) (bB : Binds K dB ["kin", "group"] []) (kB : PySem.W.keepIn K (.ref fB) = true) (mB : mg "bars_group" = some (.ref fB))
    (GS : FnOk P w K mg base CX0 1 fS dS ["kin"] (spSessions C)) (bS : Binds K dS ["kin"] []) (kS : PySem.W.keepIn K (.ref fS) = true) (mS : mg "sessions_of" = some (.ref fS))
    (GD : FnOk P w K mg base CX0 3 fD dD ["kin", "session", "number"] (spBarsS C)) (bD : Binds K dD ["kin", "session", "number"] []) (kD : PySem.W.keepIn K (.ref fD) = true) (mD : mg "bars_session" = some (.ref fD))
    (ms : mg "isinstance" = none) (mt : mg "tuple" = none) (ml : mg "len" = none) (ma : mg "all" = none) : FnOk P w K mg base CX0 6 f fd ["image", "thing"] spShowsB := by
  refine F.ok scShowsB (fun vs H Q E h => ?_) (fun cdv A outer s H vs Q E hr h => ?_)
  · obtain ⟨img, M, v, d, n, rfl, _⟩ := h
    rfl
  · obtain ⟨img, M, v, d, n, rfl, I, W, g, sh, sd, q⟩ := h
    have h1 : Room 1 _ := hr.mono (by decide)
    have h2 : Room 2 _ := hr.mono (by decide)
    have h3 : Room 3 _ := hr.mono (by decide)
    refine ⟨_, pss_cons (ps_set (i := 2) scShowsB.nd rfl (.inl rfl) (pe_make MK GI h2 rfl mC bI .nil pass0 (pa_cons (pv 0) pa_nil)))
      (pss_cons (ps_if (pt_not (pt_val (pe_callB call_isi (by rfl) ms (by decide +kernel) (pa_cons (pv 1) (pa_cons (pe_bltn (v := .ty "tuple") (by rfl) mt (by decide +kernel) rfl) pa_nil))))) (pss_one (ps_ret pe_bl)) pss_nil)
      (pss_cons (ps_if (PW.pt (pw_and (pt_cmpR op_eq (pe_callB call_len_seq (by rfl) ml PySem.boot_len (pa_cons (pv 1) pa_nil)) pe_int (nomark _)) (pw_and1 (pt_cmpR (op_eqD hr.units) (pe_ix ix_tup (pv 1) pe_int (fun _ _ => rfl)) pe_str (nomark _)))))
        (pss_one (ps_ret (pe_call GR hr rfl mR kR bR .nil pass0 (pa_cons (pv 2) (pa_cons (pe_ix ix_tup (pv 1) pe_int (fun _ _ => rfl)) pa_nil))))) pss_nil)
      (pss_cons (ps_if (pt_not (pt_val (pe_callB (cr_all rfl) (by rfl) ma (by decide +kernel) (pa_cons (pe_lc (own := [("number", 3)]) (g := gName 3) (tt := tYes) (te := tCall spIsNum [] E0 (tCons (tVar 3) tNil)) rfl scShowsB.nd (pi_tup (pe_slice sl_tupA (pv 1) (po_some pe_int) po_none)) (blkOk_by (N := ["image", "thing", "kin", "number"]) (sc := defScope sShowsB) (by decide +kernel))
          (fun _ _ _ _ _ => pg_name (i := 3) scShowsB.nd rfl (Or.inl rfl)) (fun _ _ _ _ _ => pts_nil) (fun _ _ _ _ _ => pe_call GN h1 rfl mN kN bN .nil pass0 (pa_cons (pv 3) pa_nil))) pa_nil)))) (pss_one (ps_ret pe_bl)) pss_nil)
      (pss_cons (ps_if (PW.pt (pw_and (pt_cmpR op_eq (pe_callB call_len_seq (by rfl) ml PySem.boot_len (pa_cons (pv 1) pa_nil)) pe_int (nomark _)) (pw_and1 (pt_cmpR (op_eqD hr.units) (pe_ix ix_tup (pv 1) pe_int (fun _ _ => rfl)) pe_str (nomark _)))))
        (pss_one (ps_ret (pe_and (pe_cmpR op_in_seq (pe_ix ix_tup (pv 1) pe_int (fun _ _ => rfl)) (pe_call GG h1 rfl mG kG bG .nil pass0 (pa_cons (pv 2) pa_nil)) rfl) (pe_one (pe_call GB h2 rfl mB kB bB .nil pass0 (pa_cons (pv 2) (pa_cons (pe_ix ix_tup (pv 1) pe_int (fun _ _ => rfl)) pa_nil))))))) pss_nil)
      (pss_cons (ps_if (PW.pt (pw_and (pt_cmpR op_eq (pe_callB call_len_seq (by rfl) ml PySem.boot_len (pa_cons (pv 1) pa_nil)) pe_int (nomark _)) (pw_and1 (pt_cmpR (op_eqD hr.units) (pe_ix ix_tup (pv 1) pe_int (fun _ _ => rfl)) pe_str (nomark _)))))
        (pss_one (ps_ret (pe_and (pe_cmpR op_in_seq (pe_ix ix_tup (pv 1) pe_int (fun _ _ => rfl)) (pe_call GS h1 rfl mS kS bS .nil pass0 (pa_cons (pv 2) pa_nil)) rfl) (pe_one (pe_call GD h3 rfl mD kD bD .nil pass0 (pa_cons (pv 2) (pa_cons (pe_ix ix_tup (pv 1) pe_int (fun _ _ => rfl)) (pa_cons (pe_ix ix_tup (pv 1) pe_int (fun _ _ => rfl)) pa_nil)))))))) pss_nil)
      (pss_one (ps_ret pe_bl))))))), ?_⟩
    have mk : EvP (tMake C (spInit C) [] E0 (tCons (tVar 0) tNil)) (start ["image", "thing", "kin", "number"] [img, v]) H (fun v G => ∃ k, v = .ref k ∧ Kn G C k M) := fun H1 e1 Q qq =>
      ⟨_, rfl, fun x dx nx ndx ne => ⟨x, dx, img, M, rfl, upd_same, (I.mono e1).mono ((Ex.new ndx).trans (Ex.new (by rw [upd_ne ne.symm]; exact nx))), W, fun H' o N => ⟨rfl, qq _ H' (fun b u hb => o b u (ne_of_none hb nx) (by rw [upd_ne (ne_of_none hb nx), upd_ne (ne_of_none hb ndx)]; exact hb)) ⟨x, rfl, N⟩⟩⟩⟩
    refine q_asgP mk fun kv H1 e1 hv => ?_
    obtain ⟨k, rfl, N⟩ := hv
    have no : ¬ Shows M d → ∀ H2, Ex H1 H2 → Q (.bl false) H2 := fun z H2 e2 => q false H2 (e1.trans e2) ⟨fun h => Bool.noConfusion h, fun h => absurd h z⟩
    have g1 := g.mono e1
    have b1 := ev_isi (K := K) (σ := [some img, some v, some (.ref k), none]) (ta := tVar 1) (H := H1) (ev_var rfl) g1 (kit_tuple d)
    cases hl : isTy "tuple" d with
    | false =>
      rw [hl] at b1
      refine q_if (et_not (et_test b1)) (fun _ H2 e2 => no (fun ⟨r, _, e⟩ => ?_) H2 e2) (fun z => Bool.noConfusion z)
      have : isTy "tuple" d = true := by rw [e]; cases r <;> rfl
      rw [this] at hl
      cases hl
    | true =>
      rw [hl] at b1
      obtain ⟨ds, rfl⟩ : ∃ ds, d = .tuple ds := by
        cases d <;> first | exact ⟨_, rfl⟩ | (exact Bool.noConfusion (show false = true from hl))
      obtain ⟨a, xs, rfl, ea0, hx0⟩ : ∃ a xs, v = .ref a ∧ H a = some (.tup xs) ∧ DxAll H xs ds := by
        cases g with
        | tup e h => exact ⟨_, _, rfl, e, h⟩
      refine q_if (et_not (et_test b1)) (fun z => Bool.noConfusion z) (fun _ H2 e2 => ?_)
      have N2 := N.mono e2
      have ea := (e1.trans e2) _ _ ea0
      have hx := hx0.mono (e1.trans e2)
      have len : ds.length ≤ 1000 := by
        cases n with
        | zero => exact sh.elim
        | succ n => exact sh.1
      have lx := hx.length
      -- len(thing) == j and thing[0] == word
      have tst : ∀ (j : Nat) (word : Str) (H3 : Hp), Ex H2 H3 → 0 < j → SeqAt.shaped (.str word) = true → EvT (tAnd (tTest (tOp rEq (tCB (fun zs H Q => ∃ p ys, zs = [.ref p] ∧ (SqL K H p ys ∨ SqT K H p ys) ∧ Q (.int ys.length) H) (tCons (tVar 1) tNil)) (tC (.int (j : Int))))) (tTest (tOp (rEqD K) (tOp (rIxT K) (tVar 1) (tC (.int 0))) (tC (.str word))))) [some img, some (.ref a), some (.ref k), none] H3 (decide (ds.length = j) && PyData.eqv (ds.headD .none) (.str word)) := by
        intro j word H3 e3 hj hs
        refine et_and (et_is (et_test (ev_op (ev_lenT (ev_var rfl) (e3 _ _ ea)) ev_c (rv_eq rfl))) (by rw [dec_int, lx]; exact decide_eq_decide.mpr ⟨fun z => by omega, fun z => by omega⟩)) fun hL => ?_
        have hL := of_decide_eq_true hL
        cases ds with
        | nil => exact absurd hL (by show 0 ≠ j; omega)
        | cons d0 ds =>
          cases hx with
          | cons h0 hz => exact et_test (ev_eqS (ev_op (ev_var rfl) ev_c (rv_ixT (st_of (e3 _ _ ea)) (atI_nat (j := 0) rfl))) (h0.mono e3) (shaped_mem sd List.mem_cons_self) hs)
      have ix : ∀ {j : Nat} {x : V} {H3 : Hp}, Ex H2 H3 → xs[j]? = some x → Ev (tOp (rIxT K) (tVar 1) (tC (.int (j : Int)))) [some img, some (.ref a), some (.ref k), none] H3 x := fun e3 h => ev_op (ev_var rfl) ev_c (rv_ixT (st_of (e3 _ _ ea)) (atI_nat h))
      refine q_if (tst 2 "ring" H2 (Ex.refl H2) (by decide) (by decide +kernel)) (fun hb H3 e3 => ?_) (fun hA H3 e3 => ?_)
      · obtain ⟨rest, rfl, hl2⟩ := head_is hb (by decide)
        match rest, hl2 with
        | [e], _ =>
          have sh2 : ∃ m, Sh m e := by
            cases n with
            | zero => exact sh.elim
            | succ n => exact ⟨n, sh.2 e (by simp)⟩
          obtain ⟨m, sh2⟩ := sh2
          obtain ⟨x, ex, gx⟩ := hx.at (i := 1) (d := e) rfl
          exact ⟨_, rfl, (ix (j := 1) e3 ex) H3 (Ex.refl H3) _ fun H4 e4 => ⟨k, M, x, e, m, rfl, N2.mono (e3.trans e4), W, (gx.mono e3).mono e4, sh2, fun b H5 e5 hb => q b H5 (((e1.trans e2).trans e3).trans (e4.trans e5)) (hb.trans (shows_ringI W e).symm)⟩⟩
      obtain ⟨ps, p1, p2, p3⟩ := pairs_of (tail_dx hx)
      have lps : ps.length ≤ 1000 := by
        have : ps.length = (ds.drop 1).length := by rw [← p2, List.length_map]
        rw [List.length_drop] at this
        omega
      have bl : EvL (tLc (iTup K (tSl (rSlA K) (tVar 1) (fun σ H Q => tC (.int 1) σ H fun v H1 => ∃ i, v = .int i ∧ Q (some i) H1) (fun _ H Q => Q none H))) (gName 3) tYes (tCall spIsNum [] E0 (tCons (tVar 3) tNil)) [3]) [some img, some (.ref a), some (.ref k), none] H3 (((ds.drop 1).map isNum).map V.bl) := by
        have z := el_lcT (K := K) (xs := ps) (σ := [some img, some (.ref a), some (.ref k), none]) (H := H3) (tl := tSl (rSlA K) (tVar 1) (fun σ H Q => tC (.int 1) σ H fun v H1 => ∃ i, v = .int i ∧ Q (some i) H1) (fun _ H Q => Q none H)) (j := 3) (vs := [3]) (t := tYes) (te := tCall spIsNum [] E0 (tCons (tVar 3) tNil)) (fun x => x.1) (fun _ => true) (fun x => .bl (isNum x.2)) (by rw [p1]; exact ep_tail (ev_var rfl) (e3 _ _ ea)) (by omega) (fun _ => rfl) (fun _ _ _ _ => et_yes)
          (fun x m _ H4 e4 => ev_call (ea_cons (ev_var rfl) ea_nil) fun H5 e5 Q q E => ⟨x.1, x.2, rfl, (p3 x m).mono (e3.trans (e4.trans e5)), q⟩)
        rw [Evl.filter_all] at z
        rw [← p2, List.map_map, List.map_map]
        exact z
      refine q_if (et_not (et_test (ev_all bl))) (fun hb H4 e4 => no (fun hS => ?_) H4 (e2.trans (e3.trans e4))) (fun hN H4 e4 => ?_)
      · rw [List.all_map] at hb
        rcases (shows_iff W _).mp hS with ⟨s, n, h, _⟩ | ⟨g', h, _⟩ | ⟨e', h, hs⟩
        · injection h with h; rw [h] at hb; exact Bool.noConfusion (show false = true from hb)
        · injection h with h; rw [h] at hb; exact Bool.noConfusion (show false = true from hb)
        · injection h with h; rw [h] at hA; exact head_no hA rfl
      have hN2 : (ds.drop 1).all isNum = true := by
        rw [List.all_map] at hN
        simpa using hN
      have e24 := e3.trans e4
      have N4 := N2.mono e24
      refine q_if (tst 2 "group" H4 e24 (by decide) (by decide +kernel)) (fun hb H5 e5 => ?_) (fun hB H5 e5 => ?_)
      · obtain ⟨rest, rfl, hl2⟩ := head_is hb (by decide)
        match rest, hl2, hN2 with
        | [e], _, hN2 =>
          have hN3 : isNum e = true := by simpa using hN2
          obtain ⟨i, rfl⟩ := num_int hN3
          obtain ⟨x, ex, gx⟩ := hx.at (i := 1) (d := .int i) rfl
          cases gx
          have N5 := N4.mono e5
          have e25 := e24.trans e5
          have cG : SpL (spGroups C) ([.ref k] ++ []) H5 ((groups M).map V.int) := fun H6 e6 Q q E => ⟨k, M, rfl, N5.mono e6, W, q⟩
          refine s_ret (ev_andV (ev_opL (ix (j := 1) e25 ex) (el_call (ea_cons (ev_var rfl) ea_nil) cG) (fun p H6 hp e6 => rv_inI (sq_of hp))) (fun hin => ev_call (z := .bl (splitB M i)) (ea_cons (ev_var rfl) (ea_cons (ix (j := 1) e25 ex) ea_nil)) fun H6 e6 Q q E => ⟨k, M, i, rfl, N5.mono e6, W, of_decide_eq_true hin, q⟩)) fun H6 e6 => q _ H6 ((e1.trans e2).trans (e25.trans e6)) ?_
          rw [shows_groupI W, Bool.and_eq_true, decide_eq_true_iff]
      refine q_if (tst 3 "session" H5 (e24.trans e5) (by decide) (by decide +kernel)) (fun hb H6 e6 => ?_) (fun hC H6 e6 => ?_)
      · obtain ⟨rest, rfl, hl2⟩ := head_is hb (by decide)
        match rest, hl2, hN2 with
        | [e, e'], _, hN2 =>
          have hN3 : isNum e = true ∧ isNum e' = true := by simpa using hN2
          obtain ⟨i, rfl⟩ := num_int hN3.1
          obtain ⟨i', rfl⟩ := num_int hN3.2
          obtain ⟨x, ex, gx⟩ := hx.at (i := 1) (d := .int i) rfl
          cases gx
          obtain ⟨x', ex', gx'⟩ := hx.at (i := 2) (d := .int i') rfl
          cases gx'
          have e26 := (e24.trans e5).trans e6
          have N6 := N2.mono e26
          have cS : SpL (spSessions C) ([.ref k] ++ []) H6 ((sessions M).map V.int) := fun H7 e7 Q q E => ⟨k, M, rfl, N6.mono e7, W, q⟩
          refine s_ret (ev_andV (ev_opL (ix (j := 1) e26 ex) (el_call (ea_cons (ev_var rfl) ea_nil) cS) (fun p H7 hp e7 => rv_inI (sq_of hp))) (fun hin => ev_call (z := .bl (barsS M i i')) (ea_cons (ev_var rfl) (ea_cons (ix (j := 1) e26 ex) (ea_cons (ix (j := 2) e26 ex') ea_nil))) fun H7 e7 Q q E => ⟨k, M, i, i', rfl, N6.mono e7, W, q⟩)) fun H7 e7 => q _ H7 ((e1.trans e2).trans (e26.trans e7)) ?_
          rw [shows_sessI W, Bool.and_eq_true, decide_eq_true_iff]
      refine no (fun hS => ?_) H6 (e2.trans ((e24.trans e5).trans e6))
      rcases (shows_iff W _).mp hS with ⟨s, n, h, _⟩ | ⟨g', h, _⟩ | ⟨e', h, hs⟩
      · injection h with h; rw [h] at hC; exact head_no hC rfl
      · injection h with h; rw [h] at hB; exact head_no hB rfl
      · injection h with h; rw [h] at hA; exact head_no hA rfl
end
end KB
set_option Elab.async false
set_option linter.all false
set_option maxRecDepth 100000
set_option maxHeartbeats 4000000
namespace L2
open PySem PySem.Spec PyProof.Rows
/-- a def of the module -/
structure Kf (P : Program) (w : World) (K : PySem.W.Frag) (mg : Str → Option Value) (base : Heap) (L : Nat) (x : Str) (ps : List Str) (sp : Sp) : Prop where
  ex : ∃ k f fd, k ≤ L ∧ FnOk P w K mg base CX0 k f fd ps sp ∧ Binds K fd ps [] ∧ PySem.W.keepIn K (.ref f) = true ∧ mg x = some (.ref f)
/-- a class that is made -/
structure Kc (P : Program) (w : World) (K : PySem.W.Frag) (mg : Str → Option Value) (base : Heap) (L : Nat) (C : Addr) (x : Str) (ps : List Str) (sp : Sp) : Prop where
  ex : ∃ k f fd, k + 1 ≤ L ∧ FnOk P w K mg base CX0 k f fd ps sp ∧ Binds K fd ps [] ∧ Mk K C f ∧ mg x = some (.ref C)
section
variable {X : Cx} {L : Nat} {C : Addr} {ps : List Str} {sp : Sp} {x m : Str} {p pos apos : Pos} {e o : Expr} {es : List Expr} {ta : TE} {t : TA}
theorem pe_fn (G : Kf X.prog X.w X.K X.mg X.base L x ps sp) (hr : Room L X.A) (ha : PA X (e :: es) t) (hg : Gl X x := by rfl) (hdb : (x == ("__debug__" : Str)) = false := by decide)
    (he : starEach (e :: es) X.env = (false, eval e X.env) :: starEach es X.env := by rfl) (hpl : (backTo pos (starEach es X.env)).any (·.1) = false := by rfl) : PE X (.Call (.Name x p) (e :: es) [] pos) (tCall sp [] E0 t) := by
  obtain ⟨k, f, fd, hk, F, b, kp, mg⟩ := G.ex
  exact pe_call F (hr.mono hk) hg mg kp b .nil pass0 ha hdb he hpl
theorem pe_mk (G : Kc X.prog X.w X.K X.mg X.base L C x ps sp) (hr : Room L X.A) (ha : PA X (e :: es) t) (hg : Gl X x := by rfl) (hdb : (x == ("__debug__" : Str)) = false := by decide)
    (he : starEach (e :: es) X.env = (false, eval e X.env) :: starEach es X.env := by rfl) (hpl : (backTo pos (starEach es X.env)).any (·.1) = false := by rfl) : PE X (.Call (.Name x p) (e :: es) [] pos) (tMake C sp [] E0 t) := by
  obtain ⟨k, f, fd, hk, F, b, M, mg⟩ := G.ex
  exact pe_make M F (hr.mono hk) hg mg b .nil pass0 ha hdb he hpl
end
/-- min(xs, default=None) of a list of ints: None of none, else one of them -/
def rMinDef (K : PySem.W.Frag) : List V → List V → Hp → VK → Prop := fun vs zs H Q => ∃ (a : Addr) (ns : List Int), vs = [V.ref a] ∧ zs = [.non] ∧ SqL K H a (ns.map V.int) ∧ (ns = [] → Q .non H) ∧ ∀ m, m ∈ ns → Q (.int m) H
theorem dp_ints {K : PySem.W.Frag} {H : Hp} : ∀ ns : List Int, DpAll K H (ns.map V.int) (ns.map PyData.int)
  | [] => .nil
  | n :: ns => .cons (.int n) (dp_ints ns)
theorem depth_ints : ∀ ns : List Int, PyData.depthAll (ns.map PyData.int) ≤ 1
  | [] => by simp [PyData.depthAll]
  | n :: ns => by
    have := depth_ints ns
    simp only [List.map_cons, PyData.depthAll, PyData.depth]
    omega
theorem cr_minDef {X : Cx} (hc : X.calm = true) (hu : X.A.units + 2 < cLine) : CallRK X (.builtin "min") [Str.ofString "default"] (rMinDef X.K) := by
  intro pins s σ H vs zs us ws Q I r rz h
  obtain ⟨a, ns, rfl, rfl, hs, q0, q1⟩ := h
  obtain rfl := Vals.ref1 r
  obtain ⟨w1, rfl, e1⟩ := vals1 rz
  obtain rfl : w1 = Value.none := e1
  obtain ⟨its, rv, hl, hz⟩ := I.list hs
  have hi := rv.ints
  obtain ⟨as, rd⟩ := Dp.readsAll I (ns.map PyData.int) (ns.map V.int) its (dp_ints ns) rv
  refine PySem.W.min_list_default (I.ok.hd hc) hl.isList (by simpa using rd) ⟨fun x mx y my => ?_, fun x mx => ?_⟩ ?_ (fun e h' tk hk => ?_) fun y ys i v h' tk bs e hv hr hk => ?_
  · obtain ⟨n, _, rfl⟩ := List.mem_map.mp mx
    obtain ⟨m, _, rfl⟩ := List.mem_map.mp my
    rfl
  · obtain ⟨n, _, rfl⟩ := List.mem_map.mp mx
    exact fun z => nomatch z
  · have := depth_ints ns
    omega
  · have : ns = [] := by simpa using e
    exact ⟨.non, H, I.kept hk, rfl, q0 this⟩
  · obtain ⟨n, t, rfl, hn⟩ := hi.at i v (by simpa using hv)
    exact ⟨.int n, H, I.kept hk, ⟨t, rfl⟩, q1 n (List.mem_of_getElem? hn)⟩
end L2
set_option Elab.async false
set_option linter.all false
set_option maxRecDepth 100000
set_option maxHeartbeats 4000000
namespace KB
open PySem PySem.Spec PyProof.Rows L2 Evl
/-! ### helpers: what they are -/
def lostB (M : Fam) (s : Int) : Bool := !decide (s = 1) && !decide (s ∈ keys M)
def lost (M : Fam) : List Int := (sessions M).filter (lostB M)
def emptyB (M : Fam) (g : Int) : Bool := !decide (g = 1) && (!decide (g ∈ keys M) && !decide (g ∈ lost M))
def empties (M : Fam) : List Int := (groups M).filter (emptyB M)
def ownG (M : Fam) (s : Int) : List Int := ((keys M).filter fun n => decide (ses M n = s)).map (grp M)
def emptiesIn (M : Fam) (s : Int) : List Int := (empties M).filter fun g => decide (g ∈ ownG M s)
theorem WF.end_ {M : Fam} {r : Rw} (W : WF M) (m : r ∈ M) : end? M r.n = decide (r.w = 1) := by unfold end?; rw [look_of W.asc m]; rfl
theorem word_ended (n : Nat) : decide (V.str (wordOf n) = V.str "ended") = decide (n = 1) := by
  unfold wordOf
  by_cases h : n = 1
  · simp [h]
  · rw [if_neg h, decide_eq_false h]
    split <;> decide +kernel
theorem ses_few {M : Fam} (W : WF M) : (sessions M).length ≤ 20 := by
  have h := len_asc (M.map (·.s))
  rw [List.length_map] at h
  have := W.few
  unfold sessions
  omega
theorem grp_few {M : Fam} (W : WF M) : (groups M).length ≤ 20 := by
  have h := len_asc (M.map (·.g))
  rw [List.length_map] at h
  have := W.few
  unfold groups
  omega
section
variable {K : PySem.W.Frag} {σ : L2.St} {H H' : Hp} {C k : Addr} {M : Fam} {ta tb : TE} {n : Int}
theorem rv_ixR {p : Addr} {xs : List V} {i : Nat} {v : V} (h : H p = some (.tup xs) ∨ H p = some (.lst xs)) (ha : xs[i]? = some v) : RV (rIx K) (.ref p) (.int (i : Int)) H v := fun H1 e _ q => by
  rcases h with h | h
  · exact .inr (.inl ⟨p, xs, _, v, rfl, rfl, st_of (e _ _ h), atI_nat ha, q H1 (Ex.refl H1)⟩)
  · exact .inl ⟨p, xs, _, v, rfl, rfl, sq_of (e _ _ h), atI_nat ha, q H1 (Ex.refl H1)⟩
theorem kn_nin (T : KT K C) (N : Kn H C k M) (hk : Ev ta σ H (.ref k)) (hb : Ev tb σ H (.int n)) : Ev (tDNotIn tb (tFld K ta "rows")) σ H (.bl (!decide (n ∈ keys M))) := by
  obtain ⟨dx, a1, a2, a3, a4, a5, a6, root, k1, k3, k4, k5, k6, h0, h1, h2, h3, h4, h5, h6, r1, _⟩ := N.is
  rw [← r1 n]
  exact fun H1 e Q q => hb H1 e _ fun H2 e2 => ev_fld hk h0 T.cls T.n1 rfl H2 (e.trans e2) _ fun H3 e3 => ⟨a1, _, rfl, DGet.k (k := Sum.inl n) (((e.trans e2).trans e3) _ _ h1), q H3 (e2.trans e3)⟩
theorem kn_word (T : KT K C) (N : Kn H C k M) (W : WF M) (hk : Ev ta σ H (.ref k)) (hb : Ev tb σ H (.int n)) (m : n ∈ keys M) : ∃ r ∈ M, r.n = n ∧ Ev (tOp (rIx K) (tDGet (tFld K ta "rows") tb) (tC (.int 5))) σ H (.str (wordOf r.w)) := by
  obtain ⟨dx, a1, a2, a3, a4, a5, a6, root, k1, k3, k4, k5, k6, h0, h1, h2, h3, h4, h5, h6, r1, r2, _⟩ := N.is
  obtain ⟨r, mr, rfl⟩ := W.row m
  obtain ⟨v, ev, a, xs, rfl, ha, _, _, _, _, _, _, x5⟩ := r2 r mr
  exact ⟨r, mr, rfl, ev_op (ev_dget (ev_fld hk h0 T.cls T.n1 rfl) hb h1 ev) ev_c (rv_ixR (i := 5) ha x5)⟩
end
abbrev sIsLost : Stmt := topS 6
theorem scIsLost : FnScope ["kin", "session"] ["kin", "session"] (defScope sIsLost) := ⟨rfl, rfl, rfl, by decide +kernel, rfl, by decide +kernel, by decide +kernel⟩
abbrev sEnded : Stmt := topS 12
theorem scEnded : FnScope ["kin", "number"] ["kin", "number"] (defScope sEnded) := ⟨rfl, rfl, rfl, by decide +kernel, rfl, by decide +kernel, by decide +kernel⟩
abbrev sLost : Stmt := topS 13
abbrev nLost : List Str := ["kin", "session"]
theorem scLost : FnScope nLost ["kin"] (defScope sLost) := ⟨rfl, rfl, rfl, by decide +kernel, rfl, by decide +kernel, by decide +kernel⟩
abbrev sEmpties : Stmt := topS 14
abbrev nEmpties : List Str := ["kin", "lost", "group"]
theorem scEmpties : FnScope nEmpties ["kin"] (defScope sEmpties) := ⟨rfl, rfl, rfl, by decide +kernel, rfl, by decide +kernel, by decide +kernel⟩
def spIsLost (C : Addr) : Sp := fun vs H Q _ => ∃ k M s, vs = [.ref k, .int s] ∧ Kn H C k M ∧ RetV (.bl (lostB M s)) H Q
def spEnded (C : Addr) : Sp := fun vs H Q _ => ∃ k M n, vs = [.ref k, .int n] ∧ Kn H C k M ∧ WF M ∧ n ∈ keys M ∧ RetV (.bl (end? M n)) H Q
def spLost (C : Addr) : Sp := fun vs H Q _ => ∃ k M, vs = [.ref k] ∧ Kn H C k M ∧ WF M ∧ RetL ((lost M).map V.int) H Q
def spEmpties (C : Addr) : Sp := fun vs H Q _ => ∃ k M, vs = [.ref k] ∧ Kn H C k M ∧ WF M ∧ RetL ((empties M).map V.int) H Q
section
variable {P : Program} {w : World} {K : PySem.W.Frag} {mg : Str → Option Value} {base : Heap} {C f : Addr} {fd : FuncData} {t0 : Tok}
theorem ok_isLost (F : Fun K "is_lost" "is_lost" sIsLost f fd) (T : KT K C) (m_FIRST : mg "FIRST" = some (.int 1 t0)) (G_is_led : Kf P w K mg base 1 "is_led" ["kin", "session"] (spIsLed C)) : FnOk P w K mg base CX0 2 f fd ["kin", "session"] (spIsLost C) := by
  refine F.ok scIsLost (fun vs H Q E h => ?_) (fun cdv A outer s H vs Q E hr h => ?_)
  · obtain ⟨k, M, n, rfl, _⟩ := h
    rfl
  · obtain ⟨k, M, n, rfl, N, q⟩ := h
    refine ⟨_, (pss_one (ps_ret (pe_and (pe_cmpR op_ne (pv 1) (pe_glob (v := .int 1) rfl m_FIRST ⟨_, rfl⟩) (nomark _)) (pe_one (pe_not (pe_fn G_is_led (hr.mono (by decide)) (pa_cons (pv 0) (pa_cons (pv 1) pa_nil)))))))), ?_⟩
    have c : SpV (spIsLed C) ([.ref k, .int n] ++ []) H (.bl (decide (n ∈ keys M))) := fun H2 e2 Q q E => ⟨k, M, n, rfl, N.mono e2, q⟩
    refine s_ret (ev_is (ev_andV (ev_op (ev_var rfl) ev_c (rv_ne rfl)) fun _ => ev_notV (ev_call (ea_cons (ev_var rfl) (ea_cons (ev_var rfl) ea_nil)) c)) ?_) fun H1 e1 => q H1 e1
    unfold lostB
    rw [dec_int]
theorem ok_ended (F : Fun K "has_ended" "has_ended" sEnded f fd) (T : KT K C) : FnOk P w K mg base CX0 1 f fd ["kin", "number"] (spEnded C) := by
  refine F.ok scEnded (fun vs H Q E h => ?_) (fun cdv A outer s H vs Q E hr h => ?_)
  · obtain ⟨k, M, n, rfl, _⟩ := h
    rfl
  · obtain ⟨k, M, n, rfl, N, W, m, q⟩ := h
    have hu := hu_of hr
    refine ⟨_, (pss_one (ps_ret (pe_cmpR op_eq (pe_ix ix_seq (pe_dget hu (pe_fld (pv 0) rfl) (pv 1) (fun _ _ => rfl)) pe_int (fun _ _ => rfl)) pe_str (nomark _)))), ?_⟩
    obtain ⟨r, mr, rfl, ev⟩ := kn_word (ta := tVar 0) (tb := tVar 1) (σ := start ["kin", "number"] [.ref k, .int n]) T N W (ev_var rfl) (ev_var rfl) m
    refine s_ret (ev_is (ev_op ev ev_c (rv_eq rfl)) ?_) fun H1 e1 => q H1 e1
    rw [word_ended, W.end_ mr]
theorem ok_lost (F : Fun K "lost_sessions" "lost_sessions" sLost f fd) (T : KT K C) (G_sessions_of : Kf P w K mg base 1 "sessions_of" ["kin"] (spSessions C)) (G_is_lost : Kf P w K mg base 2 "is_lost" ["kin", "session"] (spIsLost C)) : FnOk P w K mg base CX0 3 f fd ["kin"] (spLost C) := by
  refine F.ok scLost (fun vs H Q E h => ?_) (fun cdv A outer s H vs Q E hr h => ?_)
  · obtain ⟨k, M, rfl, _⟩ := h
    rfl
  · obtain ⟨k, M, rfl, N, W, q⟩ := h
    have nd := scLost.nd
    refine ⟨_, (pss_one (ps_ret (pe_lc (own := [("session", 1)]) (g := gName 1) (tt := tB (tCall (spIsLost C) [] E0 (tCons (tVar 0) (tCons (tVar 1) tNil)))) (te := tVar 1) rfl nd (pi_list (pe_fn G_sessions_of (hr.mono (by decide)) (pa_cons (pv 0) pa_nil))) (blkOk_by (N := nLost) (sc := defScope sLost) (by decide +kernel)) (fun _ _ _ _ _ => (pg_name (i := 1) nd rfl (by first | exact .inl rfl | exact .inr rfl))) (fun _ _ _ _ _ => (pts_one (pt_val (pe_fn G_is_lost (hr.mono (by decide)) (pa_cons (pv 0) (pa_cons (pv 1) pa_nil)))))) (fun _ _ _ _ _ => (pv 1))))), ?_⟩
    have c : SpL (spSessions C) ([.ref k] ++ []) H ((sessions M).map V.int) := fun H2 e2 Q q E => ⟨k, M, rfl, N.mono e2, W, q⟩
    have few := ses_few W
    refine s_retL (el_lcGN (K := K) (j := 1) (vs := [1]) V.int (lostB M) V.int (el_call (ea_cons (ev_var rfl) ea_nil) c) (by omega) (fun x => rfl) (fun b mb H1 e1 => ?_) (fun b mb _ H1 e1 => ev_var rfl)) fun p H1 hp e h1 => q p H1 hp e h1
    have c2 : SpV (spIsLost C) ([.ref k, .int b] ++ []) H1 (.bl (lostB M b)) := fun H2 e2 Q q E => ⟨k, M, b, rfl, N.mono (e1.trans e2), q⟩
    exact et_B (ev_call (ea_cons (ev_var rfl) (ea_cons (ev_var rfl) ea_nil)) c2)
theorem ok_empties (F : Fun K "helper_groups" "helper_groups" sEmpties f fd) (T : KT K C) (m_FIRST : mg "FIRST" = some (.int 1 t0)) (G_groups_of : Kf P w K mg base 1 "groups_of" ["kin"] (spGroups C)) (G_lost_sessions : Kf P w K mg base 3 "lost_sessions" ["kin"] (spLost C)) : FnOk P w K mg base CX0 4 f fd ["kin"] (spEmpties C) := by
  refine F.ok scEmpties (fun vs H Q E h => ?_) (fun cdv A outer s H vs Q E hr h => ?_)
  · obtain ⟨k, M, rfl, _⟩ := h
    rfl
  · obtain ⟨k, M, rfl, N, W, q⟩ := h
    have nd := scEmpties.nd
    have hu := hu_of hr
    refine ⟨_, (pss_cons (ps_set (i := 1) nd rfl (by first | exact .inl rfl | exact .inr rfl) (pe_fn G_lost_sessions (hr.mono (by decide)) (pa_cons (pv 0) pa_nil)))
      (pss_one (ps_ret (pe_lc (own := [("group", 2)]) (g := gName 2) (tt := tAnd (tTest (tOp rNe (tVar 2) (tC (.int 1)))) (tAnd (tB (tDNotIn (tVar 2) (tFld K (tVar 0) "rows"))) (tTest (tOp (rIn K true) (tVar 2) (tVar 1))))) (te := tVar 2) rfl nd (pi_list (pe_fn G_groups_of (hr.mono (by decide)) (pa_cons (pv 0) pa_nil))) (blkOk_by (N := nEmpties) (sc := defScope sEmpties) (by decide +kernel)) (fun _ _ _ _ _ => (pg_name (i := 2) nd rfl (by first | exact .inl rfl | exact .inr rfl))) (fun _ _ _ _ _ => (pts_one (PW.pt (pw_and (pt_cmpR op_ne (pv 2) (pe_glob (v := .int 1) rfl m_FIRST ⟨_, rfl⟩) (nomark _)) (pw_and (pt_cmp (pc_dnotin hu (pv 2) (pe_fld (pv 0) rfl))) (pw_and1 (pt_cmpR op_notIn_seq (pv 2) (pv 1) (by rfl)))))))) (fun _ _ _ _ _ => (pv 2)))))), ?_⟩
    have c0 : SpL (spLost C) ([.ref k] ++ []) H ((lost M).map V.int) := fun H2 e2 Q q E => ⟨k, M, rfl, N.mono e2, W, q⟩
    refine q_asgL (el_call (ea_cons (ev_var rfl) ea_nil) c0) fun p H1 np e1 g1 => ?_
    have N1 := N.mono e1
    have c : SpL (spGroups C) ([.ref k] ++ []) H1 ((groups M).map V.int) := fun H2 e2 Q q E => ⟨k, M, rfl, N1.mono e2, W, q⟩
    have few := grp_few W
    refine s_retL (el_lcGN (K := K) (j := 2) (vs := [2]) V.int (emptyB M) V.int (el_call (ea_cons (ev_var rfl) ea_nil) c) (by omega) (fun x => rfl) (fun b mb H2 e2 => ?_) (fun b mb _ H2 e2 => ev_var rfl)) fun p2 H2 hp e h1 => q p2 H2 (fresh_back e1 hp) (e1.trans e) h1
    refine et_is (et_and (et_test (ev_op (ev_var rfl) ev_c (rv_ne rfl))) fun _ => et_and (et_B (kn_nin T (N1.mono e2) (ev_var rfl) (ev_var rfl))) fun _ => et_test (ev_op (ev_var rfl) (ev_var rfl) (rv_niL (sq_of (e2 _ _ g1)) rfl (flat_ints (lost M))))) ?_
    unfold emptyB
    rw [dec_int, inV_ints]
end
end KB
set_option Elab.async false
set_option linter.all false
set_option maxRecDepth 100000
set_option maxHeartbeats 4000000
namespace KB
open PySem PySem.Spec PyProof.Rows L2 Evl
/-- the first place of a number -/
def placeOf (l : Int) : List Int → Nat
  | [] => 0
  | a :: r => if a = l then 0 else placeOf l r + 1
theorem place_at {l : Int} : ∀ {xs : List Int}, l ∈ xs → xs[placeOf l xs]? = some l ∧ ∀ j, j < placeOf l xs → ∀ y, xs[j]? = some y → y ≠ l
  | [], h => by cases h
  | a :: r, h => by
    unfold placeOf
    by_cases e : a = l
    · rw [if_pos e]
      exact ⟨by simp [e], fun j hj => absurd hj (Nat.not_lt_zero _)⟩
    · rw [if_neg e]
      have h2 : l ∈ r := (List.mem_cons.mp h).resolve_left (fun z => e z.symm)
      obtain ⟨p1, p2⟩ := place_at h2
      refine ⟨by simpa using p1, fun j hj y hy => ?_⟩
      cases j with
      | zero =>
        simp at hy
        rw [← hy]; exact e
      | succ j => exact p2 j (by omega) y (by simpa using hy)
/-- whether n can bear the further tops of l's session -/
def bearB (M : Fam) (n l : Int) : Bool := (decide (ses M n = l) && end? M n) && (decide (n = l) || (decide (l ∈ above M n) && ((above M n).take (placeOf l (above M n) + 1)).all fun a => decide (ses M a = l) && !ado M a))
def bearers (M : Fam) (l : Int) : List Int := (keys M).filter fun n => bearB M n l
abbrev sEmptiesIn : Stmt := topS 15
abbrev nEmptiesIn : List Str := ["kin", "session", "at", "own", "group"]
theorem scEmptiesIn : FnScope nEmptiesIn ["kin", "session"] (defScope sEmptiesIn) := ⟨rfl, rfl, rfl, by decide +kernel, rfl, by decide +kernel, by decide +kernel⟩
abbrev sBear : Stmt := topS 16
abbrev nBear : List Str := ["kin", "number", "leader", "above", "between", "at"]
theorem scBear : FnScope nBear ["kin", "number", "leader"] (defScope sBear) := ⟨rfl, rfl, rfl, by decide +kernel, rfl, by decide +kernel, by decide +kernel⟩
abbrev sBearer : Stmt := topS 17
abbrev nBearer : List Str := ["kin", "leader", "at"]
theorem scBearer : FnScope nBearer ["kin", "leader"] (defScope sBearer) := ⟨rfl, rfl, rfl, by decide +kernel, rfl, by decide +kernel, by decide +kernel⟩
def spEmptiesIn (C : Addr) : Sp := fun vs H Q _ => ∃ k M s, vs = [.ref k, .int s] ∧ Kn H C k M ∧ WF M ∧ RetL ((emptiesIn M s).map V.int) H Q
def spBear (C : Addr) : Sp := fun vs H Q _ => ∃ k M n l, vs = [.ref k, .int n, .int l] ∧ Kn H C k M ∧ WF M ∧ n ∈ keys M ∧ RetV (.bl (bearB M n l)) H Q
def spBearer (C : Addr) : Sp := fun vs H Q _ => ∃ k M l, vs = [.ref k, .int l] ∧ Kn H C k M ∧ WF M ∧ ∀ v H2, Ex H H2 → decide (v = .non) = decide (bearers M l = []) → Q v H2
theorem ints_get {xs : List Int} {j : Nat} {v : V} (h : (xs.map V.int)[j]? = some v) : ∃ b, xs[j]? = some b ∧ v = .int b := by
  rw [List.getElem?_map] at h
  obtain ⟨b, e, rfl⟩ := Option.map_eq_some_iff.mp h
  exact ⟨b, e, rfl⟩
section
variable {P : Program} {w : World} {K : PySem.W.Frag} {mg : Str → Option Value} {base : Heap} {C f : Addr} {fd : FuncData} {t0 : Tok}
theorem ok_emptiesIn (F : Fun K "helper_groups_in" "helper_groups_in" sEmptiesIn f fd) (T : KT K C) (G_helper_groups : Kf P w K mg base 4 "helper_groups" ["kin"] (spEmpties C)) : FnOk P w K mg base CX0 5 f fd ["kin", "session"] (spEmptiesIn C) := by
  refine F.ok scEmptiesIn (fun vs H Q E h => ?_) (fun cdv A outer s H vs Q E hr h => ?_)
  · obtain ⟨k, M, n, rfl, _⟩ := h
    rfl
  · obtain ⟨k, M, n, rfl, N, W, q⟩ := h
    have nd := scEmptiesIn.nd
    have hu := hu_of hr
    refine ⟨_, (pss_cons (ps_set (i := 3) nd rfl (by first | exact .inl rfl | exact .inr rfl) (pe_lc (own := [("at", 2)]) (g := gName 2) (tt := tTest (tOp rEq (tDGet (tFld K (tVar 0) "sessions") (tVar 2)) (tVar 1))) (te := tDGet (tFld K (tVar 0) "groups") (tVar 2)) rfl nd (pi_list (pe_fld (pv 0) rfl)) (blkOk_by (N := nEmptiesIn) (sc := defScope sEmptiesIn) (by decide +kernel)) (fun _ _ _ _ _ => (pg_name (i := 2) nd rfl (by first | exact .inl rfl | exact .inr rfl))) (fun _ _ _ _ _ => (pts_one (pt_cmpR op_eq (pe_dget hu (pe_fld (pv 0) rfl) (pv 2) (fun _ _ => rfl)) (pv 1) (nomark _)))) (fun _ _ _ _ _ => (pe_dget hu (pe_fld (pv 0) rfl) (pv 2) (fun _ _ => rfl)))))
      (pss_one (ps_ret (pe_lc (own := [("group", 4)]) (g := gName 4) (tt := tTest (tOp (rIn K false) (tVar 4) (tVar 3))) (te := tVar 4) rfl nd (pi_list (pe_fn G_helper_groups (hr.mono (by decide)) (pa_cons (pv 0) pa_nil))) (blkOk_by (N := nEmptiesIn) (sc := defScope sEmptiesIn) (by decide +kernel)) (fun _ _ _ _ _ => (pg_name (i := 4) nd rfl (by first | exact .inl rfl | exact .inr rfl))) (fun _ _ _ _ _ => (pts_one (pt_cmpR op_in_seq (pv 4) (pv 3) (by rfl)))) (fun _ _ _ _ _ => (pv 4)))))), ?_⟩
    obtain ⟨a, ea, la⟩ := kn_members (σ := start nEmptiesIn [.ref k, .int n]) T N (ev_var (i := 0) rfl)
    have few : (keys M).length < 64 := by rw [len_keys]; have := W.few; omega
    have lc := el_lcG (K := K) (te := tDGet (tFld K (tVar 0) "groups") (tVar 2)) (t := tTest (tOp rEq (tDGet (tFld K (tVar 0) "sessions") (tVar 2)) (tVar 1))) (j := 2) (vs := [2]) V.int (fun b => decide (ses M b = n)) (fun b => .int (grp M b)) ea la (by omega) (fun x => rfl)
      (fun b mb H1 e1 => et_is (et_test (ev_op (kn_ses T (N.mono e1) (ev_var rfl) (ev_var rfl) (.inr mb)) (ev_var rfl) (rv_eq rfl))) (dec_int _ _)) (fun b mb _ H1 e1 => kn_grp T (N.mono e1) (ev_var rfl) (ev_var rfl) (.inr mb))
    have e2 : ((keys M).filter fun b => decide (ses M b = n)).map (fun b => V.int (grp M b)) = (ownG M n).map V.int := by unfold ownG; rw [List.map_map]; rfl
    rw [e2] at lc
    refine q_asgL lc fun p H1 np e1 g1 => ?_
    have N1 := N.mono e1
    have c : SpL (spEmpties C) ([.ref k] ++ []) H1 ((empties M).map V.int) := fun H2 e2 Q q E => ⟨k, M, rfl, N1.mono e2, W, q⟩
    have few2 : (empties M).length ≤ 20 := Nat.le_trans (List.length_filter_le _ _) (grp_few W)
    refine s_retL (el_lcGN (K := K) (j := 4) (vs := [4]) V.int (fun g => decide (g ∈ ownG M n)) V.int (el_call (ea_cons (ev_var rfl) ea_nil) c) (by omega) (fun x => rfl) (fun b mb H2 e2 => ?_) (fun b mb _ H2 e2 => ev_var rfl)) fun p2 H2 hp e h1 => q p2 H2 (fresh_back e1 hp) (e1.trans e) h1
    exact et_test (ev_op (ev_var rfl) (ev_var rfl) (rv_inI (sq_of (e2 _ _ g1))))
theorem ok_bear (F : Fun K "can_bear" "can_bear" sBear f fd) (T : KT K C) (G_has_ended : Kf P w K mg base 1 "has_ended" ["kin", "number"] (spEnded C)) (G_all_above : Kf P w K mg base 1 "all_above" ["kin", "number"] (spAbove C)) (m_all : mg "all" = none) : FnOk P w K mg base CX0 2 f fd ["kin", "number", "leader"] (spBear C) := by
  refine F.ok scBear (fun vs H Q E h => ?_) (fun cdv A outer s H vs Q E hr h => ?_)
  · obtain ⟨k, M, n, l, rfl, _⟩ := h
    rfl
  · obtain ⟨k, M, n, l, rfl, N, W, m, q⟩ := h
    have nd := scBear.nd
    have hu := hu_of hr
    refine ⟨_, (pss_cons (ps_if (PW.pt (pw_or (pt_cmpR op_ne (pe_dget hu (pe_fld (pv 0) rfl) (pv 1) (fun _ _ => rfl)) (pv 2) (nomark _)) (pw_or1 (pt_not (pt_val (pe_fn G_has_ended (hr.mono (by decide)) (pa_cons (pv 0) (pa_cons (pv 1) pa_nil)))))))) (pss_one (ps_ret pe_bl)) pss_nil)
      (pss_cons (ps_if (pt_cmpR op_eq (pv 1) (pv 2) (nomark _)) (pss_one (ps_ret pe_bl)) pss_nil)
      (pss_cons (ps_set (i := 3) nd rfl (by first | exact .inl rfl | exact .inr rfl) (pe_fn G_all_above (hr.mono (by decide)) (pa_cons (pv 0) (pa_cons (pv 1) pa_nil))))
      (pss_cons (ps_if (pt_cmpR op_notIn_seq (pv 2) (pv 3) (by rfl)) (pss_one (ps_ret pe_bl)) pss_nil)
      (pss_cons (ps_set (i := 4) nd rfl (by first | exact .inl rfl | exact .inr rfl) (pe_slice sl_list (pv 3) po_none (po_some (pe_op op_add (pe_bm PySem.F.plainAttrs_list PySem.F.slot_list_index PySem.F.type_list_index mt_index (pv 3) (pa_cons (pv 2) pa_nil)) pe_int))))
      (pss_one (ps_ret (pe_callB (cr_all rfl) (by rfl) m_all (by decide +kernel) (pa_cons (pe_lc (own := [("at", 5)]) (g := gName 5) (tt := tYes) (te := tAndV (tOp rEq (tDGet (tFld K (tVar 0) "sessions") (tVar 5)) (tVar 2)) (tNotV (tDGet (tFld K (tVar 0) "adopting") (tVar 5)))) rfl nd (pi_list (pv 4)) (blkOk_by (N := nBear) (sc := defScope sBear) (by decide +kernel)) (fun _ _ _ _ _ => (pg_name (i := 5) nd rfl (by first | exact .inl rfl | exact .inr rfl))) (fun _ _ _ _ _ => pts_nil) (fun _ _ _ _ _ => (pe_and (pe_cmpR op_eq (pe_dget hu (pe_fld (pv 0) rfl) (pv 5) (fun _ _ => rfl)) (pv 2) (nomark _)) (pe_one (pe_not (pe_dget hu (pe_fld (pv 0) rfl) (pv 5) (fun _ _ => rfl))))))) pa_nil))))))))), ?_⟩
    have cE : ∀ H1, Ex H H1 → SpV (spEnded C) ([.ref k, .int n] ++ []) H1 (.bl (end? M n)) := fun H1 e1 H2 e2 Q q E => ⟨k, M, n, rfl, N.mono (e1.trans e2), W, m, q⟩
    refine q_when (et_or (et_is (et_test (ev_op (kn_ses T N (ev_var rfl) (ev_var rfl) (.inr m)) (ev_var rfl) (rv_ne rfl))) (congrArg not (dec_int (ses M n) l))) fun _ => et_not (et_B (ev_call (ea_cons (ev_var rfl) (ea_cons (ev_var rfl) ea_nil)) (cE H (Ex.refl H))))) (fun hb H1 e1 => s_ret ev_c fun H2 e2 => ?_) (fun hb H1 e1 => ?_)
    · have : bearB M n l = false := by
        unfold bearB
        cases z : decide (ses M n = l) <;> cases z2 : end? M n <;> simp [z, z2] at hb ⊢
      rw [this] at q
      exact q H2 (e1.trans e2)
    · have h1 : (decide (ses M n = l) && end? M n) = true := by
        cases z : decide (ses M n = l) <;> cases z2 : end? M n <;> simp [z, z2] at hb ⊢
      refine q_when (et_is (et_test (ev_op (ev_var rfl) (ev_var rfl) (rv_eq rfl))) (dec_int n l)) (fun hb2 H2 e2 => s_ret ev_c fun H3 e3 => ?_) (fun hb2 H2 e2 => ?_)
      · have : bearB M n l = true := by unfold bearB; rw [h1, hb2]; rfl
        rw [this] at q
        exact q H3 (e1.trans (e2.trans e3))
      have E2 := e1.trans e2
      have cA : SpL (spAbove C) ([.ref k, .int n] ++ []) H2 ((above M n).map V.int) := fun H3 e3 Q q E => ⟨k, M, n, rfl, N.mono (E2.trans e3), W, m, q⟩
      refine q_asgL (el_call (ea_cons (ev_var rfl) (ea_cons (ev_var rfl) ea_nil)) cA) fun p H3 np e3 g3 => ?_
      refine q_when (et_test (ev_op (ev_var rfl) (ev_var rfl) (rv_niI (sq_of g3)))) (fun hb3 H4 e4 => s_ret ev_c fun H5 e5 => ?_) (fun hb3 H4 e4 => ?_)
      · have : bearB M n l = false := by
          have z : decide (l ∈ above M n) = false := by simpa using hb3
          unfold bearB
          rw [h1, hb2, z]
          rfl
        rw [this] at q
        exact q H5 (E2.trans (e3.trans (e4.trans e5)))
      · have hin : l ∈ above M n := by simpa using hb3
        obtain ⟨pa, pf⟩ := place_at hin
        have g4 := e4 _ _ g3
        have len := above_len W n m
        have ixv : Ev (tBM K "list" (rIndex K) (tVar 3) (tCons (tVar 2) tNil)) [some (.ref k), some (.int n), some (.int l), some (.ref p), none, none] H4 (.int ((placeOf l (above M n) : Nat) : Int)) := fun H1 e1 Q qq =>
          ⟨_, rfl, .inl ⟨rfl, _, sq_of (e1 _ _ g4)⟩, _, rfl, p, _, _, placeOf l (above M n), .int l, rfl, rfl, sq_of (e1 _ _ g4), rfl, flat_ints (above M n), by
            rw [List.getElem?_map, pa]
            rfl, by show (l == l) = true; exact beq_self_eq_true _, fun j z' hj hz => by
            obtain ⟨b, eb, rfl⟩ := ints_get hz
            exact beq_eq_false_iff_ne.mpr (pf j hj b eb), qq H1 (Ex.refl H1)⟩
        have sl := el_sl (K := K) (te := tVar 3) (tl := tNoPart) (th := tPart (tOp (rI0 fun i j => .int (i + j)) (tBM K "list" (rIndex K) (tVar 3) (tCons (tVar 2) tNil)) (tC (.int 1)))) (ev_var rfl) eo_none (eo_some (ev_op ixv ev_c rv_I0)) (sq_of g4)
        have cut : cutV ((above M n).map V.int) none (some (((placeOf l (above M n) : Nat) : Int) + 1)) = ((above M n).take (placeOf l (above M n) + 1)).map V.int := by
          unfold cutV
          have hp : placeOf l (above M n) < (above M n).length := (List.getElem?_eq_some_iff.mp pa).1
          rw [show (((placeOf l (above M n) : Nat) : Int) + 1) = ((placeOf l (above M n) + 1 : Nat) : Int) by omega, HT.sIx_nat, HT.sIx_none, List.length_map, List.drop_zero, Nat.sub_zero, ← List.map_take]
          congr 2
          omega
        rw [cut] at sl
        refine q_asgL sl fun p2 H5 np2 e5 g5 => ?_
        have N5 := N.mono (E2.trans (e3.trans (e4.trans e5)))
        have lc := el_lcG (K := K) (te := tAndV (tOp rEq (tDGet (tFld K (tVar 0) "sessions") (tVar 5)) (tVar 2)) (tNotV (tDGet (tFld K (tVar 0) "adopting") (tVar 5)))) (t := tYes) (j := 5) (vs := [5]) (σ := [some (.ref k), some (.int n), some (.int l), some (.ref p), some (.ref p2), none]) (tl := tVar 4) V.int (fun _ => true) (fun b => .bl (decide (ses M b = l) && !ado M b)) (ev_var rfl) (sq_of g5) (by rw [List.length_take]; omega) (fun x => rfl)
          (fun b mb H1 e1 => et_yes) (fun b mb _ H1 e1 => by
            have mb2 := above_in W n m b (List.mem_of_mem_take mb)
            exact ev_is (ev_andV (ev_op (kn_ses T (N5.mono e1) (ev_var rfl) (ev_var rfl) mb2) (ev_var rfl) (rv_eq rfl)) fun _ => ev_notV (kn_ado T (N5.mono e1) (ev_var rfl) (ev_var rfl) mb2)) (by rw [dec_int]))
        rw [Evl.filter_all] at lc
        have e9 : ((above M n).take (placeOf l (above M n) + 1)).map (fun b => V.bl (decide (ses M b = l) && !ado M b)) = (((above M n).take (placeOf l (above M n) + 1)).map fun b => decide (ses M b = l) && !ado M b).map V.bl := by rw [List.map_map]; rfl
        rw [e9] at lc
        refine s_ret (ev_is (ev_all lc) ?_) fun H6 e6 => q H6 (E2.trans (e3.trans (e4.trans (e5.trans e6))))
        unfold bearB
        rw [h1, hb2, decide_eq_true hin, Bool.true_and, Bool.false_or, Bool.true_and, List.all_map]
        rfl
end
end KB
set_option Elab.async false
set_option linter.all false
set_option maxRecDepth 100000
set_option maxHeartbeats 4000000
namespace KB
open PySem PySem.Spec PyProof.Rows L2 Evl
def others (M : Fam) (s : Int) : List Int := (tops M s).filter fun n => !decide (n = s)
def ledB (M : Fam) (s : Int) : Bool := decide (s ∈ keys M) && !(others M s).isEmpty
def furB (M : Fam) (s : Int) : Bool := (emptiesIn M s).isEmpty && decide (bearers M s = [])
def further (M : Fam) : List Int := ((sessions M).filter (ledB M)).filter (furB M)
abbrev sFurther : Stmt := topS 18
abbrev nFurther : List Str := ["kin", "session", "led"]
theorem scFurther : FnScope nFurther ["kin"] (defScope sFurther) := ⟨rfl, rfl, rfl, by decide +kernel, rfl, by decide +kernel, by decide +kernel⟩
abbrev sHelpers : Stmt := topS 32
abbrev nHelpers : List Str := ["image", "kin"]
theorem scHelpers : FnScope nHelpers ["image"] (defScope sHelpers) := ⟨rfl, rfl, rfl, by decide +kernel, rfl, by decide +kernel, by decide +kernel⟩
def intsD (ns : List Int) : PyData := .list (ns.map PyData.int)
def helpD (M : Fam) : PyData := .tuple [intsD (lost M), intsD (empties M), intsD (further M)]
def spFurther (C : Addr) : Sp := fun vs H Q _ => ∃ k M, vs = [.ref k] ∧ Kn H C k M ∧ WF M ∧ RetL ((further M).map V.int) H Q
def spHelpers : Sp := fun vs H Q _ => ∃ img M, vs = [img] ∧ ImgAt H img M ∧ WF M ∧ ∀ (p a b c : Addr) (H2 : Hp), H p = none → H a = none → H b = none → H c = none → a ≠ b → a ≠ c → b ≠ c → Ex H H2 → H2 p = some (.tup [.ref a, .ref b, .ref c]) → H2 a = some (.lst ((lost M).map V.int)) → H2 b = some (.lst ((empties M).map V.int)) → H2 c = some (.lst ((further M).map V.int)) → Q (.ref p) H2
section
variable {K : PySem.W.Frag} {σ : L2.St} {H H' : Hp} {te : TE}
theorem et_truL {xs : List V} (h : EvL te σ H xs) : EvT (fun σ H Q => te σ H fun x H' => ∃ k, TruV K x H' k ∧ Q k H') σ H (!xs.isEmpty) := fun H1 e Q q => h H1 e _ fun p H2 np e2 gp => ⟨!xs.isEmpty, .inl ⟨_, SqL.of gp, rfl⟩, q H2 e2⟩
theorem s_retMinD {D : Ends} {ns : List Int} (h : EvL te σ H (ns.map V.int)) (k0 : ns = [] → ∀ H1, Ex H H1 → D.rt .non H1) (k1 : ∀ m, m ∈ ns → ∀ H1, Ex H H1 → D.rt (.int m) H1) : tRet (tCKw (rMinDef K) (tCons te tNil) (tCons (tC .non) tNil)) D σ H :=
  h H (Ex.refl H) _ fun p H1 np e1 g1 => ⟨p, ns, rfl, rfl, sq_of g1, fun e => k0 e H1 e1, fun m hm => k1 m hm H1 e1⟩
end
section
variable {P : Program} {w : World} {K : PySem.W.Frag} {mg : Str → Option Value} {base : Heap} {C f : Addr} {fd : FuncData} {t0 : Tok}
theorem ok_bearer (F : Fun K "bearer" "bearer" sBearer f fd) (T : KT K C) (G_can_bear : Kf P w K mg base 2 "can_bear" ["kin", "number", "leader"] (spBear C)) (m_min : mg "min" = none) : FnOk P w K mg base CX0 3 f fd ["kin", "leader"] (spBearer C) := by
  refine F.ok scBearer (fun vs H Q E h => ?_) (fun cdv A outer s H vs Q E hr h => ?_)
  · obtain ⟨k, M, l, rfl, _⟩ := h
    rfl
  · obtain ⟨k, M, l, rfl, N, W, q⟩ := h
    have nd := scBearer.nd
    have hu2 := Nat.lt_of_le_of_lt (Nat.add_le_add_left (by decide : 2 ≤ 64) _) hr.units
    refine ⟨_, (pss_one (ps_ret (pe_callBK (ks := [Str.ofString "default"]) (cr_minDef rfl hu2) (by rfl) m_min (by decide +kernel) (pa_cons (pe_lc (own := [("at", 2)]) (g := gName 2) (tt := tB (tCall (spBear C) [] E0 (tCons (tVar 0) (tCons (tVar 2) (tCons (tVar 1) tNil))))) (te := tVar 2) rfl nd (pi_list (pe_fld (pv 0) rfl)) (blkOk_by (N := nBearer) (sc := defScope sBearer) (by decide +kernel)) (fun _ _ _ _ _ => (pg_name (i := 2) nd rfl (by first | exact .inl rfl | exact .inr rfl))) (fun _ _ _ _ _ => (pts_one (pt_val (pe_fn G_can_bear (hr.mono (by decide)) (pa_cons (pv 0) (pa_cons (pv 2) (pa_cons (pv 1) pa_nil))))))) (fun _ _ _ _ _ => (pv 2))) pa_nil) (pk_cons pe_non pk_nil)))), ?_⟩
    obtain ⟨a, ea, la⟩ := kn_members (σ := start nBearer [.ref k, .int l]) T N (ev_var (i := 0) rfl)
    have few : (keys M).length < 64 := by rw [len_keys]; have := W.few; omega
    have lc := el_lcG (K := K) (te := tVar 2) (t := tB (tCall (spBear C) [] E0 (tCons (tVar 0) (tCons (tVar 2) (tCons (tVar 1) tNil))))) (j := 2) (vs := [2]) V.int (fun b => bearB M b l) V.int ea la (by omega) (fun x => rfl)
      (fun b mb H1 e1 => by
        have c : SpV (spBear C) ([.ref k, .int b, .int l] ++ []) H1 (.bl (bearB M b l)) := fun H2 e2 Q q E => ⟨k, M, b, l, rfl, N.mono (e1.trans e2), W, mb, q⟩
        exact et_B (ev_call (ea_cons (ev_var rfl) (ea_cons (ev_var rfl) (ea_cons (ev_var rfl) ea_nil))) c)) (fun b mb _ H1 e1 => ev_var rfl)
    exact s_retMinD (ns := bearers M l) lc (fun e H1 e1 => q .non H1 e1 (by simp [e])) (fun m hm H1 e1 => q (.int m) H1 e1 (by
      have : bearers M l ≠ [] := fun z => by rw [z] at hm; cases hm
      simp [this]))
theorem ok_further (F : Fun K "further_sessions" "further_sessions" sFurther f fd) (T : KT K C) (G_sessions_of : Kf P w K mg base 1 "sessions_of" ["kin"] (spSessions C)) (G_is_led : Kf P w K mg base 1 "is_led" ["kin", "session"] (spIsLed C)) (G_other_tops : Kf P w K mg base 3 "other_tops" ["kin", "session"] (spOthers C))
    (G_helper_groups_in : Kf P w K mg base 5 "helper_groups_in" ["kin", "session"] (spEmptiesIn C)) (G_bearer : Kf P w K mg base 3 "bearer" ["kin", "leader"] (spBearer C)) : FnOk P w K mg base CX0 6 f fd ["kin"] (spFurther C) := by
  refine F.ok scFurther (fun vs H Q E h => ?_) (fun cdv A outer s H vs Q E hr h => ?_)
  · obtain ⟨k, M, rfl, _⟩ := h
    rfl
  · obtain ⟨k, M, rfl, N, W, q⟩ := h
    have nd := scFurther.nd
    have hu := hu_of hr
    refine ⟨_, (pss_cons (ps_setLc (i := 2) (own := [("session", 1)]) (g := gName 1) (tt := tAnd (tB (tCall (spIsLed C) [] E0 (tCons (tVar 0) (tCons (tVar 1) tNil)))) (fun σ H Q => (tCall (spOthers C) [] E0 (tCons (tVar 0) (tCons (tVar 1) tNil))) σ H fun x H' => ∃ k, TruV K x H' k ∧ Q k H')) (te := tVar 1) rfl nd rfl rfl (sw_true rfl rfl rfl (by decide +kernel)) (pi_list (pe_fn G_sessions_of (hr.mono (by decide)) (pa_cons (pv 0) pa_nil))) (blkOk_by (N := nFurther) (sc := defScope sFurther) (by decide +kernel)) (fun _ _ _ _ _ => (pg_name (i := 1) nd rfl (by first | exact .inl rfl | exact .inr rfl))) (fun _ _ _ _ _ => (pts_one (PW.pt (pw_and (pt_val (pe_fn G_is_led (hr.mono (by decide)) (pa_cons (pv 0) (pa_cons (pv 1) pa_nil)))) (pw_and1 (pt_truth (pe_fn G_other_tops (hr.mono (by decide)) (pa_cons (pv 0) (pa_cons (pv 1) pa_nil))) (by intro _; rfl))))))) (fun _ _ _ _ _ => (pv 1)))
      (pss_one (ps_ret (pe_lc (own := [("session", 1)]) (g := gName 1) (tt := tAnd (tNot (fun σ H Q => (tCall (spEmptiesIn C) [] E0 (tCons (tVar 0) (tCons (tVar 1) tNil))) σ H fun x H' => ∃ k, TruV K x H' k ∧ Q k H')) (tB (tIsN (tCall (spBearer C) [] E0 (tCons (tVar 0) (tCons (tVar 1) tNil)))))) (te := tVar 1) rfl nd (pi_list (pv 2)) (blkOk_by (N := nFurther) (sc := defScope sFurther) (by decide +kernel)) (fun _ _ _ _ _ => (pg_name (i := 1) nd rfl (by first | exact .inl rfl | exact .inr rfl))) (fun _ _ _ _ _ => (pts_one (PW.pt (pw_and (pt_not (pt_truth (pe_fn G_helper_groups_in (hr.mono (by decide)) (pa_cons (pv 0) (pa_cons (pv 1) pa_nil))) (by intro _; rfl))) (pw_and1 (pt_cmp (pc_isN (pe_fn G_bearer (hr.mono (by decide)) (pa_cons (pv 0) (pa_cons (pv 1) pa_nil)))))))))) (fun _ _ _ _ _ => (pv 1)))))), ?_⟩
    have c : SpL (spSessions C) ([.ref k] ++ []) H ((sessions M).map V.int) := fun H2 e2 Q q E => ⟨k, M, rfl, N.mono e2, W, q⟩
    have few := ses_few W
    have lc := el_lcGN (K := K) (te := tVar 1) (t := tAnd (tB (tCall (spIsLed C) [] E0 (tCons (tVar 0) (tCons (tVar 1) tNil)))) (fun σ H Q => (tCall (spOthers C) [] E0 (tCons (tVar 0) (tCons (tVar 1) tNil))) σ H fun x H' => ∃ k, TruV K x H' k ∧ Q k H')) (j := 1) (vs := [1]) (σ := start nFurther [.ref k]) (tl := tCall (spSessions C) [] E0 (tCons (tVar 0) tNil)) V.int (ledB M) V.int (el_call (ea_cons (ev_var rfl) ea_nil) c) (by omega) (fun x => rfl) (fun b mb H1 e1 => by
        have c1 : SpV (spIsLed C) ([.ref k, .int b] ++ []) H1 (.bl (decide (b ∈ keys M))) := fun H2 e2 Q q E => ⟨k, M, b, rfl, N.mono (e1.trans e2), q⟩
        have c2 : SpL (spOthers C) ([.ref k, .int b] ++ []) H1 ((others M b).map V.int) := fun H2 e2 Q q E => ⟨k, M, b, rfl, N.mono (e1.trans e2), W, q⟩
        refine et_is (et_and (et_B (ev_call (ea_cons (ev_var rfl) (ea_cons (ev_var rfl) ea_nil)) c1)) fun _ => et_truL (el_call (ea_cons (ev_var rfl) (ea_cons (ev_var rfl) ea_nil)) c2)) ?_
        unfold ledB
        rw [List.isEmpty_map]) (fun b mb _ H1 e1 => ev_var rfl)
    refine q_asgL lc fun p H1 np e1 g1 => ?_
    have N1 := N.mono e1
    have few2 : ((sessions M).filter (ledB M)).length ≤ 20 := Nat.le_trans (List.length_filter_le _ _) few
    refine s_retL (el_lcG (K := K) (j := 1) (vs := [1]) V.int (furB M) V.int (ev_var rfl) (sq_of g1) (by omega) (fun x => rfl) (fun b mb H2 e2 => ?_) (fun b mb _ H2 e2 => ev_var rfl)) fun p2 H2 hp e h1 => q p2 H2 (fresh_back e1 hp) (e1.trans e) h1
    have c1 : SpL (spEmptiesIn C) ([.ref k, .int b] ++ []) H2 ((emptiesIn M b).map V.int) := fun H3 e3 Q q E => ⟨k, M, b, rfl, N1.mono (e2.trans e3), W, q⟩
    refine et_is (et_and (et_not (et_truL (el_call (ea_cons (ev_var rfl) (ea_cons (ev_var rfl) ea_nil)) c1))) (b := decide (bearers M b = [])) fun _ => fun H3 e3 Q3 q3 => ?_) ?_
    · exact ⟨_, rfl, _, rfl, k, M, b, rfl, N1.mono (e2.trans e3), W, fun v H4 e4 hv => ⟨_, rfl, by rw [hv]; exact q3 H4 e4⟩⟩
    · unfold furB
      rw [List.isEmpty_map, Bool.not_not]
theorem ok_helpers (F : Fun K "helpers" "helpers" sHelpers f fd) (M_Kin : Kc P w K mg base 2 C "Kin" ["self", "image"] (spInit C)) (G_lost_sessions : Kf P w K mg base 3 "lost_sessions" ["kin"] (spLost C)) (G_helper_groups : Kf P w K mg base 4 "helper_groups" ["kin"] (spEmpties C)) (G_further_sessions : Kf P w K mg base 6 "further_sessions" ["kin"] (spFurther C)) :
    FnOk P w K mg base CX0 7 f fd ["image"] spHelpers := by
  refine F.ok scHelpers (fun vs H Q E h => ?_) (fun cdv A outer s H vs Q E hr h => ?_)
  · obtain ⟨img, M, rfl, _⟩ := h
    rfl
  · obtain ⟨img, M, rfl, I, W, q⟩ := h
    have nd := scHelpers.nd
    refine ⟨_, (pss_cons (ps_set (i := 1) nd rfl (by first | exact .inl rfl | exact .inr rfl) (pe_mk M_Kin (hr.mono (by decide)) (pa_cons (pv 0) pa_nil)))
      (pss_one (ps_ret (pe_tup (pa_cons (pe_fn G_lost_sessions (hr.mono (by decide)) (pa_cons (pv 1) pa_nil)) (pa_cons (pe_fn G_helper_groups (hr.mono (by decide)) (pa_cons (pv 1) pa_nil)) (pa_cons (pe_fn G_further_sessions (hr.mono (by decide)) (pa_cons (pv 1) pa_nil)) pa_nil))))))), ?_⟩
    have mk : EvP (tMake C (spInit C) [] E0 (tCons (tVar 0) tNil)) (start nHelpers [img]) H (fun v G => ∃ k, v = .ref k ∧ Kn G C k M) := fun H1 e1 Q qq =>
      ⟨_, rfl, fun x dx nx ndx ne => ⟨x, dx, img, M, rfl, upd_same, (I.mono e1).mono ((Ex.new ndx).trans (Ex.new (by rw [upd_ne ne.symm]; exact nx))), W, fun H' o N => ⟨rfl, qq _ H' (fun b u hb => o b u (ne_of_none hb nx) (by rw [upd_ne (ne_of_none hb nx), upd_ne (ne_of_none hb ndx)]; exact hb)) ⟨x, rfl, N⟩⟩⟩⟩
    refine q_asgP mk fun v H1 e1 hv => ?_
    obtain ⟨k, rfl, N⟩ := hv
    refine ⟨_, rfl, k, M, rfl, N, W, fun a H2 na e2 ga => ⟨_, rfl, k, M, rfl, N.mono e2, W, fun b H3 nb e3 gb => ⟨_, rfl, k, M, rfl, N.mono (e2.trans e3), W, fun c H4 nc e4 gc => ⟨by show 3 ≤ sizeLine; decide, fun p np => ?_⟩⟩⟩⟩
    have x24 := e2.trans (e3.trans e4)
    exact q p a b c _ (fresh_back (e1.trans x24) np) (fresh_back e1 na) (fresh_back (e1.trans e2) nb) (fresh_back (e1.trans (e2.trans e3)) nc) (ne_of_none ga nb) (ne_of_none (e3 _ _ ga) nc) (ne_of_none gb nc) ((e1.trans x24).trans (Ex.new np)) upd_same
      ((Ex.new np) _ _ (e4 _ _ (e3 _ _ ga))) ((Ex.new np) _ _ (e4 _ _ gb)) ((Ex.new np) _ _ gc)
end
end KB
set_option Elab.async false
set_option linter.all false
set_option maxRecDepth 100000
set_option maxHeartbeats 4000000
namespace KB
/-! ### families whose numbers are renamed, in their order, 1 alone kept -/
structure Ren (φ : Int → Int) : Prop where
  mono : ∀ x y, x < y → φ x < φ y
  one : φ 1 = 1
def rnR (φ : Int → Int) (r : Rw) : Rw := { r with n := φ r.n, up := φ r.up, s := φ r.s, g := φ r.g }
def rnM (φ : Int → Int) (M : Fam) : Fam := M.map (rnR φ)
section
variable {φ : Int → Int} (R : Ren φ) {M : Fam} {n s g : Int}
include R
theorem Ren.inj {x y : Int} (h : φ x = φ y) : x = y := by
  rcases Int.lt_trichotomy x y with z | z | z
  · have := R.mono x y z; omega
  · exact z
  · have := R.mono y x z; omega
theorem Ren.eq {x y : Int} : (φ x = φ y) = (x = y) := propext ⟨R.inj, fun h => by rw [h]⟩
theorem Ren.one' {x : Int} : (φ x = 1) = (x = 1) := by
  have := R.eq (x := x) (y := 1)
  rw [R.one] at this
  exact this
theorem Ren.lt {x y : Int} : (φ x < φ y) = (x < y) := propext ⟨fun h => by
  rcases Int.lt_trichotomy x y with z | z | z
  · exact z
  · rw [z] at h; omega
  · have := R.mono y x z; omega, R.mono x y⟩
theorem Ren.le {x y : Int} : (φ x ≤ φ y) = (x ≤ y) := by
  have := R.lt (x := y) (y := x)
  apply propext
  constructor
  · intro h
    have h2 : ¬ φ y < φ x := by omega
    rw [this] at h2
    omega
  · intro h
    have h2 : ¬ y < x := by omega
    rw [← this] at h2
    omega
theorem Ren.mem {x : Int} {l : List Int} : (φ x ∈ l.map φ) = (x ∈ l) := propext ⟨fun h => by
  obtain ⟨y, m, e⟩ := List.mem_map.mp h
  rw [← R.inj e]; exact m, fun h => List.mem_map_of_mem h⟩
theorem rn_ins (a : Int) : ∀ l : List Int, ins (φ a) (l.map φ) = (ins a l).map φ
  | [] => rfl
  | b :: l => by
    show (if φ a < φ b then φ a :: φ b :: l.map φ else if φ a = φ b then φ b :: l.map φ else φ b :: ins (φ a) (l.map φ)) = (if a < b then a :: b :: l else if a = b then b :: l else b :: ins a l).map φ
    simp only [R.lt, R.eq, rn_ins a l]
    split
    · rfl
    · split <;> rfl
theorem rn_asc : ∀ l : List Int, asc (l.map φ) = (asc l).map φ
  | [] => rfl
  | a :: l => by
    show ins (φ a) (asc (l.map φ)) = (ins a (asc l)).map φ
    rw [rn_asc l, rn_ins R]
theorem rn_keys : keys (rnM φ M) = (keys M).map φ := by
  unfold keys rnM
  rw [List.map_map, List.map_map]
  rfl
theorem rn_look : look (rnM φ M) (φ n) = (look M n).map (rnR φ) := by
  unfold look rnM
  rw [List.find?_map]
  congr 1
  congr 1
  funext r
  show decide (φ r.n = φ n) = _
  simp only [R.eq]
theorem rn_up : up (rnM φ M) (φ n) = φ (up M n) := by
  unfold up
  rw [rn_look R]
  cases look M n with
  | none => exact R.one.symm
  | some r => rfl
theorem rn_ses : ses (rnM φ M) (φ n) = φ (ses M n) := by
  unfold ses
  rw [rn_look R]
  cases look M n with
  | none => exact R.one.symm
  | some r => rfl
theorem rn_grp : grp (rnM φ M) (φ n) = φ (grp M n) := by
  unfold grp
  rw [rn_look R]
  cases look M n with
  | none => exact R.one.symm
  | some r => rfl
theorem rn_ado : ado (rnM φ M) (φ n) = ado M n := by
  unfold ado
  rw [rn_look R]
  cases look M n with
  | none => rfl
  | some r => rfl
theorem rn_end : end? (rnM φ M) (φ n) = end? M n := by
  unfold end?
  rw [rn_look R]
  cases look M n with
  | none => rfl
  | some r => rfl
theorem rn_go : ∀ (k : Nat) (n : Int), go (rnM φ M) k (φ n) = (go M k n).map φ
  | 0, _ => rfl
  | k + 1, n => by
    show (up (rnM φ M) (φ n) :: if up (rnM φ M) (φ n) = 1 then [] else go (rnM φ M) k (up (rnM φ M) (φ n))) = (up M n :: if up M n = 1 then [] else go M k (up M n)).map φ
    rw [rn_up R, rn_go k]
    simp only [R.one', List.map_cons]
    split <;> rfl
theorem rn_above : above (rnM φ M) (φ n) = (above M n).map φ := rn_go R 64 n
theorem rn_adopter : adopter (rnM φ M) (φ n) = φ (adopter M n) := by
  unfold adopter
  rw [rn_above R, List.find?_map]
  have e : ((fun a => ado (rnM φ M) a) ∘ φ) = fun a => ado M a := funext fun a => rn_ado R
  rw [e]
  cases (above M n).find? fun a => ado M a with
  | none => exact R.one.symm
  | some r => rfl
theorem rn_topB : topB (rnM φ M) (φ s) (φ n) = topB M s n := by
  unfold topB
  rw [rn_ses R, rn_up R, rn_ses R]
  simp only [R.eq, R.one']
theorem rn_filter {p q : Int → Bool} {l : List Int} (h : ∀ x, p (φ x) = q x) : (l.map φ).filter p = (l.filter q).map φ := by
  rw [List.filter_map]
  congr 2
  funext x
  exact h x
theorem rn_tops : tops (rnM φ M) (φ s) = (tops M s).map φ := by
  unfold tops
  rw [rn_keys R]
  exact rn_filter R fun x => rn_topB R
theorem rn_sessions : sessions (rnM φ M) = (sessions M).map φ := by
  unfold sessions
  rw [← rn_asc R]
  unfold rnM
  rw [List.map_map, List.map_map]
  rfl
theorem rn_groups : groups (rnM φ M) = (groups M).map φ := by
  unfold groups
  rw [← rn_asc R]
  unfold rnM
  rw [List.map_map, List.map_map]
  rfl
theorem rn_head (l : List Int) : (l.map φ).headD 1 = φ (l.headD 1) := by
  cases l with
  | nil => exact R.one.symm
  | cons a l => rfl
theorem rn_barsS : barsS (rnM φ M) (φ s) (φ n) = barsS M s n := by
  unfold barsS
  rw [rn_keys R, rn_tops R, rn_head R, rn_ses R, rn_grp R, rn_up R, rn_adopter R, rn_up R, rn_ado R]
  simp only [R.mem, R.eq, R.one']
theorem rn_owners : owners (rnM φ M) (φ g) = (owners M g).map φ := by
  unfold owners
  rw [← rn_asc R]
  congr 1
  unfold rnM
  rw [List.filter_map, List.map_map, List.map_map]
  have : ((fun r : Rw => decide (r.g = φ g)) ∘ rnR φ) = fun r : Rw => decide (r.g = g) := funext fun r => by
    show decide (φ r.g = φ g) = _
    simp only [R.eq]
  rw [this]
  rfl
theorem rn_splitB : splitB (rnM φ M) (φ g) = splitB M g := by
  unfold splitB
  have e : (rnM φ M).map (·.s) = (M.map (·.s)).map φ := by unfold rnM; rw [List.map_map, List.map_map]; rfl
  rw [rn_owners R, rn_keys R, rn_head R, rn_ses R, e, List.length_map]
  simp only [R.mem, R.eq, R.one']
theorem rn_need : need (rnM φ M) (φ n) = (need M n).map φ := by
  unfold need
  rw [rn_ses R, rn_keys R, rn_topB R, rn_above R, ← List.map_cons, List.find?_map]
  have e : ((fun a => !decide (a = 1) && decide (up (rnM φ M) a = up (rnM φ M) (φ n))) ∘ φ) = fun a => !decide (a = 1) && decide (up M a = up M n) := funext fun a => by
    show (!decide (φ a = 1) && decide (up (rnM φ M) (φ a) = up (rnM φ M) (φ n))) = _
    rw [rn_up R, rn_up R]
    simp only [R.eq, R.one']
  rw [e]
  simp only [R.mem, ne_eq, R.eq]
  split <;> rfl
theorem rn_ringGo : ∀ (k : Nat) (row : List Int) (l : Option Int), ringGo (rnM φ M) k (row.map φ) (l.map φ) = ((ringGo M k row l).1.map φ, (ringGo M k row l).2.map φ)
  | 0, row, l => rfl
  | k + 1, row, none => rfl
  | k + 1, row, some x => by
    show (if φ x ∈ row.map φ then (row.map φ, some (φ x)) else ringGo (rnM φ M) k (row.map φ ++ [φ x]) (need (rnM φ M) (φ x))) = _
    have e : ringGo M (k + 1) row (some x) = if x ∈ row then (row, some x) else ringGo M k (row ++ [x]) (need M x) := rfl
    rw [e, rn_need R, show row.map φ ++ [φ x] = (row ++ [x]).map φ by rw [List.map_append]; rfl, rn_ringGo k]
    simp only [R.mem]
    split <;> rfl
theorem rn_ring : ring (rnM φ M) (φ n) = (ring M n).map (List.map φ) := by
  unfold ring
  have e := rn_ringGo R (M := M) 64 [n] (need M n)
  have e0 : [φ n] = [n].map φ := rfl
  dsimp only
  rw [rn_need R, e0, e]
  have e1 : ((ringGo M 64 [n] (need M n)).1.map φ).all (fun a => decide (φ n ≤ a)) = (ringGo M 64 [n] (need M n)).1.all (fun a => decide (n ≤ a)) := by
    rw [List.all_map]
    congr 1
    funext a
    show decide (φ n ≤ φ a) = _
    simp only [R.le]
  have e2 : (Option.map φ (ringGo M 64 [n] (need M n)).2 = some (φ n)) = ((ringGo M 64 [n] (need M n)).2 = some n) := by
    cases (ringGo M 64 [n] (need M n)).2 with
    | none => exact propext ⟨fun h => (nomatch h), fun h => (nomatch h)⟩
    | some x =>
      show (some (φ x) = some (φ n)) = (some x = some n)
      rw [Option.some.injEq, Option.some.injEq, R.eq]
  dsimp only
  rw [e1]
  simp only [e2]
  split <;> rfl
def rnS (φ : Int → Int) : Rs → Rs
  | .session s n => .session (φ s) (φ n)
  | .group g => .group (φ g)
  | .ring row => .ring (row.map φ)
theorem rn_reasons : reasons (rnM φ M) = (reasons M).map (rnS φ) := by
  unfold reasons
  rw [List.map_append, List.map_append]
  congr 1
  · congr 1
    · rw [rn_sessions R, List.flatMap_map, List.map_flatMap]
      congr 1
      funext s
      rw [rn_keys R, rn_filter R (q := barsS M s) fun x => rn_barsS R, List.map_map, List.map_map]
      rfl
    · rw [rn_groups R, rn_filter R (q := splitB M) fun x => rn_splitB R, List.map_map, List.map_map]
      rfl
  · rw [rn_keys R, List.filterMap_map]
    have e : (ring (rnM φ M) ∘ φ) = fun n => (ring M n).map (List.map φ) := funext fun n => rn_ring R
    rw [e, ← List.map_filterMap, List.map_map, List.map_map]
    rfl
/-! helpers -/
theorem rn_lost : lost (rnM φ M) = (lost M).map φ := by
  unfold lost
  rw [rn_sessions R]
  refine rn_filter R fun x => ?_
  unfold lostB
  rw [rn_keys R]
  simp only [R.mem, R.one']
theorem rn_empties : empties (rnM φ M) = (empties M).map φ := by
  unfold empties
  rw [rn_groups R]
  refine rn_filter R fun x => ?_
  unfold emptyB
  rw [rn_keys R, rn_lost R]
  simp only [R.mem, R.one']
theorem rn_ownG : ownG (rnM φ M) (φ s) = (ownG M s).map φ := by
  unfold ownG
  rw [rn_keys R, rn_filter R (q := fun n => decide (ses M n = s)) fun x => by rw [rn_ses R]; simp only [R.eq]]
  rw [List.map_map, List.map_map]
  exact List.map_congr_left fun x _ => rn_grp R
theorem rn_emptiesIn : emptiesIn (rnM φ M) (φ s) = (emptiesIn M s).map φ := by
  unfold emptiesIn
  rw [rn_empties R]
  refine rn_filter R fun x => ?_
  rw [rn_ownG R]
  simp only [R.mem]
theorem rn_place (l : Int) : ∀ xs : List Int, placeOf (φ l) (xs.map φ) = placeOf l xs
  | [] => rfl
  | a :: r => by
    show (if φ a = φ l then 0 else placeOf (φ l) (r.map φ) + 1) = if a = l then 0 else placeOf l r + 1
    rw [rn_place l r]
    simp only [R.eq]
theorem rn_bearB : bearB (rnM φ M) (φ n) (φ s) = bearB M n s := by
  unfold bearB
  rw [rn_ses R, rn_end R, rn_above R, rn_place R, ← List.map_take, List.all_map]
  have e : ((fun a => decide (ses (rnM φ M) a = φ s) && !ado (rnM φ M) a) ∘ φ) = fun a => decide (ses M a = s) && !ado M a := funext fun a => by
    show (decide (ses (rnM φ M) (φ a) = φ s) && !ado (rnM φ M) (φ a)) = _
    rw [rn_ses R, rn_ado R]
    simp only [R.eq]
  rw [e]
  simp only [R.mem, R.eq]
theorem rn_bearers : bearers (rnM φ M) (φ s) = (bearers M s).map φ := by
  unfold bearers
  rw [rn_keys R]
  exact rn_filter R fun x => rn_bearB R
theorem rn_others : others (rnM φ M) (φ s) = (others M s).map φ := by
  unfold others
  rw [rn_tops R]
  refine rn_filter R fun x => ?_
  simp only [R.eq]
theorem rn_further : further (rnM φ M) = (further M).map φ := by
  unfold further
  rw [rn_sessions R, rn_filter R (q := ledB M) fun x => by
    unfold ledB
    rw [rn_keys R, rn_others R, List.isEmpty_map]
    simp only [R.mem]]
  refine rn_filter R fun x => ?_
  unfold furB
  rw [rn_emptiesIn R, rn_bearers R, List.isEmpty_map]
  simp only [List.map_eq_nil_iff]
end
end KB
set_option Elab.async false
set_option linter.all false
set_option maxRecDepth 100000
set_option maxHeartbeats 4000000
namespace KB
open PySem PySem.Spec PyProof.Rows L2 Evl
instance decRs : DecidableEq Rs
  | .session s n, .session s' n' => if h : s = s' ∧ n = n' then isTrue (by rw [h.1, h.2]) else isFalse fun e => by injection e with a b; exact h ⟨a, b⟩
  | .group g, .group g' => if h : g = g' then isTrue (by rw [h]) else isFalse fun e => by injection e with a; exact h a
  | .ring r, .ring r' => if h : r = r' then isTrue (by rw [h]) else isFalse fun e => by injection e with a; exact h a
  | .session _ _, .group _ => isFalse fun e => nomatch e
  | .session _ _, .ring _ => isFalse fun e => nomatch e
  | .group _, .session _ _ => isFalse fun e => nomatch e
  | .group _, .ring _ => isFalse fun e => nomatch e
  | .ring _, .session _ _ => isFalse fun e => nomatch e
  | .ring _, .group _ => isFalse fun e => nomatch e
/-! ### families written down -/
def rootB : Fam → Bool
  | r :: rest => decide (r.up = 1) && rest.all (fun q => !decide (q.up = 1))
  | [] => false
def wfB (M : Fam) : Bool :=
  decide ((keys M).Pairwise (· < ·)) && (M.all (fun r => decide (2 ≤ r.n) && (decide (r.n < 60) && ((decide (r.up = 1) || (decide (r.up ∈ keys M) && decide (r.up < r.n))) && decide (r.w ≤ 1) && (!decide (r.w = 1) || !r.ad)))) && (decide (M.length ≤ 20) && rootB M))
theorem wf_rows {M : Fam} (h : wfB M = true) : ∀ r ∈ M, 2 ≤ r.n ∧ r.n < 60 ∧ (r.up = 1 ∨ (r.up ∈ keys M ∧ r.up < r.n)) ∧ r.w ≤ 1 ∧ (r.w = 1 → r.ad = false) := fun r m => by
  unfold wfB at h
  simp only [Bool.and_eq_true, List.all_eq_true] at h
  obtain ⟨_, h2, _⟩ := h
  have h3 := h2 r m
  simp only [Bool.or_eq_true, Bool.and_eq_true, decide_eq_true_eq, Bool.not_eq_true', decide_eq_false_iff_not] at h3
  obtain ⟨a, b, ⟨c, d⟩, e⟩ := h3
  exact ⟨a, b, c, d, fun z => e.resolve_left fun w => w z⟩
theorem wf_asc {M : Fam} (h : wfB M = true) : (keys M).Pairwise (· < ·) := by
  unfold wfB at h
  simp only [Bool.and_eq_true] at h
  exact of_decide_eq_true h.1
theorem wf_few {M : Fam} (h : wfB M = true) : M.length ≤ 20 := by
  unfold wfB at h
  simp only [Bool.and_eq_true] at h
  exact of_decide_eq_true h.2.2.1
theorem wf_of {M : Fam} (h : wfB M = true) : WF M := by
  have ha := wf_asc h
  refine ⟨ha, fun r m => (wf_rows h r m).1, fun r m => (wf_rows h r m).2.2.1.imp id (·.1), ?_, ⟨fun n => n.toNat, fun r m => by have := wf_rows h r m; show Int.toNat r.n < 60; omega, fun r m z => by
    have h1 := wf_rows h r m
    have h2 := h1.2.2.1.resolve_left z
    obtain ⟨q, mq, e⟩ := List.mem_map.mp h2.1
    have h3 := wf_rows h q mq
    show Int.toNat r.up < Int.toNat r.n
    omega⟩, wf_few h⟩
  have h4 : rootB M = true := by
    unfold wfB at h
    simp only [Bool.and_eq_true] at h
    exact h.2.2.2
  cases M with
  | nil => cases h4
  | cons r rest =>
    have h4 : (decide (r.up = 1) && rest.all (fun q => !decide (q.up = 1))) = true := h4
    rw [Bool.and_eq_true, List.all_eq_true] at h4
    have upv : ∀ q ∈ r :: rest, up (r :: rest) q.n = q.up := fun q m => by
      unfold up
      rw [look_of ha m]
      rfl
    refine ⟨r.n, List.mem_map_of_mem (f := fun r : Rw => r.n) List.mem_cons_self, fun n m => ?_⟩
    obtain ⟨q, mq, rfl⟩ := List.mem_map.mp m
    rw [upv q mq]
    rcases List.mem_cons.mp mq with z | z
    · rw [z]
      exact ⟨fun _ => rfl, fun _ => of_decide_eq_true h4.1⟩
    · have h5 := h4.2 q z
      simp only [Bool.not_eq_true', decide_eq_false_iff_not] at h5
      refine ⟨fun w => absurd w h5, fun w => ?_⟩
      have h6 := List.rel_of_pairwise_cons (show ((r.n :: keys rest).Pairwise (· < ·)) from ha) (List.mem_map_of_mem (f := fun r : Rw => r.n) z)
      have w' : q.n = r.n := w
      have h6' : r.n < q.n := h6
      omega
theorem rn_wf {φ : Int → Int} (R : Ren φ) {M : Fam} (W : WF M) : WF (rnM φ M) := by
  refine ⟨?_, fun r m => ?_, fun r m => ?_, ?_, ?_, by unfold rnM; rw [List.length_map]; exact W.few⟩
  · rw [rn_keys R, List.pairwise_map]
    exact W.asc.imp fun h => R.mono _ _ h
  · obtain ⟨q, mq, rfl⟩ := List.mem_map.mp m
    have h1 := W.low q mq
    have h2 := R.mono 1 q.n (by omega)
    rw [R.one] at h2
    show 2 ≤ φ q.n
    omega
  · obtain ⟨q, mq, rfl⟩ := List.mem_map.mp m
    rw [rn_keys R]
    show φ q.up = 1 ∨ φ q.up ∈ (keys M).map φ
    rw [R.one', R.mem]
    exact W.par q mq
  · obtain ⟨root, mr, hr⟩ := W.root
    refine ⟨φ root, by rw [rn_keys R, R.mem]; exact mr, fun n m => ?_⟩
    rw [rn_keys R] at m
    obtain ⟨k, mk, rfl⟩ := List.mem_map.mp m
    rw [rn_up R, R.one', R.eq]
    exact hr k mk
  · obtain ⟨rk, h1, h2⟩ := W.rk
    have key : ∃ rk' : Int → Nat, ∀ y, rk' (φ y) = rk y := by
      classical
      refine ⟨fun x => if h : ∃ y, φ y = x then rk (Classical.choose h) else 0, fun y => ?_⟩
      have h : ∃ z, φ z = φ y := ⟨y, rfl⟩
      dsimp only
      rw [dif_pos h, R.inj (Classical.choose_spec h)]
    obtain ⟨rk', hk⟩ := key
    refine ⟨rk', fun r m => ?_, fun r m z => ?_⟩
    · obtain ⟨q, mq, rfl⟩ := List.mem_map.mp m
      show rk' (φ q.n) < 60
      rw [hk]
      exact h1 q mq
    · obtain ⟨q, mq, rfl⟩ := List.mem_map.mp m
      show rk' (φ q.up) < rk' (φ q.n)
      rw [hk, hk]
      have z' : φ q.up ≠ 1 := z
      rw [ne_eq, R.one'] at z'
      exact h2 q mq z'
/-! ### the data -/
def adQ (r : Rw) : Int := if r.w = 1 then -1 else if r.ad = true then 1 else 0
def rowQ (φ : Int → Int) (r : Rw) : PyData := .tuple [.int (φ r.n), if r.up = 1 then .none else .int (φ r.up), .int (φ r.s), .int (φ r.g), .int (adQ r)]
def rowsQ (φ : Int → Int) (M : Fam) : PyData := .list (M.map (rowQ φ))
def cellsQ (r : Rw) : PyData := .tuple (if r.w = 1 then [] else [.int 0, .int 0, .int 0, .int 0])
def rowT (φ : Int → Int) (r : Rw) : PyData := .tuple [.int (φ r.n), if r.up = 1 then .none else .int (φ r.up), .int (φ r.s), .int (φ r.g), .bool (decide (0 < adQ r)), .str (if r.w = 1 then "ended" else "runs"), if r.w = 1 then .int 5 else .none, .none, cellsQ r, .tuple []]
def imgQ (φ : Int → Int) (M : Fam) : PyData := .tuple [.tuple (M.map (rowT φ)), .tuple [], .tuple [], .tuple [], .tuple [], .tuple []]
theorem dx_rowT {φ : Int → Int} (R : Ren φ) {H : Hp} {v : V} {r : Rw} (hw : r.w ≤ 1) (ha : r.w = 1 → r.ad = false) (h : Dx H v (rowT φ r)) : RowAt H v (rnR φ r) := by
  have h : Dx H v (.tuple [.int (φ r.n), if r.up = 1 then .none else .int (φ r.up), .int (φ r.s), .int (φ r.g), .bool (decide (0 < adQ r)), .str (if r.w = 1 then "ended" else "runs"), if r.w = 1 then .int 5 else .none, .none, cellsQ r, .tuple []]) := h
  cases h with
  | @tup a xs _ g d =>
  cases d with | cons d0 d => cases d with | cons d1 d => cases d with | cons d2 d => cases d with | cons d3 d => cases d with | cons d4 d => cases d with | cons d5 d => cases d with | cons d6 d => cases d with | cons d7 d => cases d with | cons d8 d => cases d with | cons d9 d =>
    cases d
    refine ⟨a, _, rfl, .inl g, rfl, ?_, ?_, ?_, ?_, ?_, ?_⟩
    · cases d0; rfl
    · show _ = some (if φ r.up = 1 then V.non else V.int (φ r.up))
      simp only [R.one']
      by_cases z : r.up = 1
      · rw [if_pos z] at d1 ⊢
        cases d1; rfl
      · rw [if_neg z] at d1 ⊢
        cases d1; rfl
    · cases d2; rfl
    · cases d3; rfl
    · have e : decide (0 < adQ r) = r.ad := by
        unfold adQ
        by_cases z : r.w = 1
        · rw [if_pos z, ha z]; rfl
        · rw [if_neg z]
          cases r.ad <;> rfl
      rw [e] at d4
      cases d4; rfl
    · have e : (if r.w = 1 then ("ended" : Str) else "runs") = wordOf r.w := by
        unfold wordOf
        by_cases z : r.w = 1
        · rw [if_pos z, if_pos z]
        · rw [if_neg z, if_neg z, if_neg (by omega)]
      rw [e] at d5
      cases d5; rfl
theorem rows_all {φ : Int → Int} (R : Ren φ) {H : Hp} : ∀ {M : Fam} {vs : List V}, (∀ r ∈ M, r.w ≤ 1 ∧ (r.w = 1 → r.ad = false)) → DxAll H vs (M.map (rowT φ)) → ∃ L : List (Rw × V), L.map (·.1) = rnM φ M ∧ L.map (·.2) = vs ∧ ∀ x ∈ L, RowAt H x.2 x.1
  | [], _, _, h => by
    have h' : DxAll H _ [] := h
    cases h'
    exact ⟨[], rfl, rfl, fun x m => nomatch m⟩
  | r :: M, _, hm, h => by
    have h' : DxAll H _ (rowT φ r :: M.map (rowT φ)) := h
    cases h' with
    | @cons v vs _ _ d0 d =>
      obtain ⟨L, e1, e2, e3⟩ := rows_all R (fun q mq => hm q (List.mem_cons_of_mem _ mq)) d
      have h0 := hm r List.mem_cons_self
      refine ⟨(rnR φ r, v) :: L, by rw [List.map_cons, e1]; rfl, by rw [List.map_cons, e2], fun x m => ?_⟩
      rcases List.mem_cons.mp m with m | m
      · rw [m]; exact dx_rowT R h0.1 h0.2 d0
      · exact e3 x m
theorem dx_imgQ {φ : Int → Int} (R : Ren φ) {H : Hp} {v : V} {M : Fam} (hw : wfB M = true) (h : Dx H v (imgQ φ M)) : ImgAt H v (rnM φ M) := by
  have h : Dx H v (.tuple [.tuple (M.map (rowT φ)), .tuple [], .tuple [], .tuple [], .tuple [], .tuple []]) := h
  cases h with
  | @tup a xs _ g d =>
    cases d with
    | @cons u us _ _ d0 d =>
      cases d0 with
      | @tup c ys _ gc dc =>
        obtain ⟨L, e1, e2, e3⟩ := rows_all R (fun r m => ⟨(wf_rows hw r m).2.2.2.1, (wf_rows hw r m).2.2.2.2⟩) dc
        exact ⟨a, _, c, L, rfl, .inl g, rfl, .inl (by rw [e2]; exact gc), e1, e3⟩
end KB
set_option Elab.async false
set_option linter.all false
set_option maxRecDepth 100000
set_option maxHeartbeats 4000000
namespace PySem.W
open PySem PySem.Calls PyProof.Rows
/-! ### sorted(xs) of tuples that begin with different whole numbers, whatever stands behind -/
def numOrd : PyProof.Rows.KeyOrd where
  α := Int
  blt a b := decide (a < b)
  irrefl a := decide_eq_false (Int.lt_irrefl a)
  trans a b c h1 h2 := decide_eq_true (Int.lt_trans (of_decide_eq_true h1) (of_decide_eq_true h2))
  negTrans a b c h := by
    have h := of_decide_eq_true h
    by_cases z : a < b
    · exact .inl (decide_eq_true z)
    · exact .inr (decide_eq_true (by omega))
  total a b h1 h2 := by
    have h1 := of_decide_eq_false h1
    have h2 := of_decide_eq_false h2
    omega
def hdInt : PyData → Int
  | .tuple (.int n :: _) => n
  | _ => 0
structure Heads (ds : List PyData) : Prop where
  tup : ∀ d ∈ ds, ∃ n r, d = .tuple (.int n :: r)
  self : ∀ d ∈ ds, alike d d = true
  ne : ∀ d ∈ ds, ∀ d' ∈ ds, hdInt d = hdInt d' → d = d'
noncomputable def headKind (h : Heap) (ds : List PyData) : PyProof.Rows.KeyKind where
  toKeyOrd := numOrd
  keyOf v := open Classical in if q : ∃ d, d ∈ ds ∧ ∃ as, Reads h v d as then some (hdInt q.choose) else none
  dflt := (0 : Int)
theorem reads_hd {h : Heap} {v : Value} {n m : Int} {r r' : List PyData} {as as' : List Addr} (a : Reads h v (.tuple (.int n :: r)) as) (b : Reads h v (.tuple (.int m :: r')) as') : n = m := by
  cases a with
  | @tuple l o xs k _ _ h1 h2 h3 h4 =>
    cases b with
    | @tuple _ o' xs' k' _ _ k1 k2 k3 k4 =>
      rw [h1] at k1
      obtain rfl := Option.some.inj k1
      rw [h3] at k3
      injection k3 with e1 e2
      subst e1
      generalize xs.toList = l at h4 k4
      cases h4 with
      | cons r1 _ =>
        cases k4 with
        | cons r2 _ =>
          cases r1
          cases r2
          rfl
theorem headKind_some {h : Heap} {ds : List PyData} (H : Heads ds) {v : Value} {d : PyData} {as : List Addr} (hd : d ∈ ds) (r : Reads h v d as) : (headKind h ds).keyOf v = some (hdInt d) := by
  have q : ∃ d, d ∈ ds ∧ ∃ as, Reads h v d as := ⟨d, hd, as, r⟩
  show (open Classical in if q : ∃ d, d ∈ ds ∧ ∃ as, Reads h v d as then some (hdInt q.choose) else none) = _
  rw [dif_pos q]
  obtain ⟨m, as', r'⟩ := q.choose_spec
  obtain ⟨n1, r1, e1⟩ := H.tup _ m
  obtain ⟨n2, r2, e2⟩ := H.tup _ hd
  rw [e1] at r' ⊢
  rw [e2] at r ⊢
  show some n1 = some n2
  rw [reads_hd r' r]
theorem headKind_inv {h : Heap} {ds : List PyData} {v : Value} {k : Int} (e : (headKind h ds).keyOf v = some k) : ∃ d as, d ∈ ds ∧ Reads h v d as ∧ k = hdInt d := by
  have e : (open Classical in if q : ∃ d, d ∈ ds ∧ ∃ as, Reads h v d as then some (hdInt q.choose) else none) = some k := e
  split at e
  · rename_i q
    obtain ⟨m, as, r⟩ := q.choose_spec
    exact ⟨_, as, m, r, (Option.some.inj e).symm⟩
  · cases e
section
variable {prog : Program} {w : World} {A : Around} {s : Shared}
theorem SortsAt.heads {vs : List Value} {ds : List PyData} (e : EachIs (fun v d => ∃ as, Reads s.heap v d as) vs ds) (H : Heads ds) (hu : ∀ d, d ∈ ds → A.units + d.depth < cLine) : SortsAt prog w A s (headKind s.heap ds) vs := by
  refine ⟨fun v hv => ?_, tuples' true, ?_, fun h2 E Q hq => ?_⟩
  · obtain ⟨d, hd, as, r⟩ := e.left v hv
    exact ⟨_, headKind_some H hd r⟩
  · intro E x y a b Q ha hb hq
    obtain ⟨d, as, hd, ra, rfl⟩ := headKind_inv ha
    obtain ⟨d', as', hd', rb, rfl⟩ := headKind_inv hb
    have room : A.units + min d.depth d'.depth < cLine := Nat.lt_of_le_of_lt (Nat.add_le_add_left (Nat.min_le_left _ _) _) (hu d hd)
    have hq' : Q (decide (hdInt d < hdInt d')) s := hq
    by_cases z : hdInt d = hdInt d'
    · have ed := H.ne d hd d' hd' z
      subst ed
      obtain ⟨n, r, rfl⟩ := H.tup d hd
      rw [decide_eq_false (by omega)] at hq'
      have al := H.self _ hd
      cases ra with
      | @tuple l o xs k _ _ h1 h2 h3 h4 =>
        cases rb with
        | @tuple l' o' xs' k' _ _ k1 k2 k3 k4 =>
          have n1 : xs.size = (PyData.int n :: r).length := by simpa using SeqAt.ReadsAll.length _ _ _ h4
          have n2 : xs'.size = (PyData.int n :: r).length := by simpa using SeqAt.ReadsAll.length _ _ _ k4
          refine kat_lt h1 h3 k1 k3 (katLex_alike (PyData.int n :: r) (PyData.int n :: r) 0 _ _ _ _ h4 k4 (by simpa [alike] using al) (by have q := SeqAt.room_in room; omega) (fun hb _ x r t ex => ?_) (by rw [n1, n2]) (by rw [lex_irrefl]; exact hq'))
          obtain ⟨rfl, _⟩ := List.cons.inj ex
          exact fun z => nomatch z
    · obtain ⟨n, r, rfl⟩ := H.tup d hd
      obtain ⟨m, r', rfl⟩ := H.tup d' hd'
      have z' : n ≠ m := z
      have hq' : Q (decide (n < m)) s := hq'
      have room2 : A.units + min (PyData.int n).depth (PyData.int m).depth < cLine := by
        have q := SeqAt.room_in room
        simp only [PyData.depth]
        omega
      cases ra with
      | @tuple l o xs k _ _ h1 h2 h3 h4 =>
        cases rb with
        | @tuple l' o' xs' k' _ _ k1 k2 k3 k4 =>
          refine kat_lt h1 h3 k1 k3 ?_
          generalize xs.toList = l1 at h4
          generalize xs'.toList = l2 at k4
          cases h4 with
          | cons p1 _ =>
            cases k4 with
            | cons p2 _ =>
              rw [List.zip_cons_cons]
              refine kat_cons (eqAt_alike (.int n) (.int m) A s _ _ _ _ p1 p2 rfl room2 prog w _ _ ?_)
              have ev : PyData.eqv (.int n) (.int m) = false := by simp [PyData.eqv, z']
              rw [ev]
              refine kat_no (oneLt_alike (da := .int n) (db := .int m) (fun _ t => by intro z; cases z) p1 p2 rfl (by intro z; cases z) room2 ?_)
              rw [dataLt_int]
              exact hq'
  · obtain ⟨fs, t1, t2, t3⟩ := each_katTups e fun d hd => by
      obtain ⟨n, r, e⟩ := H.tup d hd
      exact ⟨_, r, e⟩
    refine kat_kind (T := .type "int") t1 (by omega) (fun f hf => ?_) (beq_self_eq_true _) hq
    obtain ⟨x, r, as, m1, m2⟩ := t3 f hf
    obtain ⟨n, r', e'⟩ := H.tup _ m1
    injection e' with e'
    obtain ⟨rfl, _⟩ := List.cons.inj e'
    exact looks_reads m2
end
theorem pw_heads {h : Heap} {cs : List PyData} : ∀ {its : List Value} {ds : List PyData}, EachIs (fun v d => (headKind h cs).keyOf v = some (hdInt d)) its ds → (ds.map hdInt).Pairwise (· < ·) →
    (its.zip its).Pairwise (fun p q => sortLe (headKind h cs).toKeyOrd false (fun p : Keyed => keyD (headKind h cs) p.1) p q = true)
  | _, _, .nil, _ => List.Pairwise.nil
  | _, _, .cons (a := v) (b := d) (as := its) (bs := ds) h1 t, asc => by
    have asc' := List.pairwise_cons.mp asc
    rw [List.zip_cons_cons]
    refine List.pairwise_cons.mpr ⟨fun q mq => ?_, pw_heads t asc'.2⟩
    obtain ⟨x, y⟩ := q
    have mx : x ∈ its := (List.of_mem_zip mq).1
    obtain ⟨d', md', hk⟩ := t.left x mx
    have lt := asc'.1 (hdInt d') (List.mem_map_of_mem md')
    show (!(headKind h cs).blt (keyD (headKind h cs) x) (keyD (headKind h cs) v)) = true
    rw [keyD_some hk, keyD_some h1]
    show (!decide (hdInt d' < hdInt d)) = true
    rw [decide_eq_false (by omega)]
    rfl
end PySem.W
namespace L2
open PySem PySem.Spec PyProof.Rows
/-- sorted(xs), xs being tuples with ascending numbers ahead: the same again -/
def rSortH (K : PySem.W.Frag) : List V → Hp → VK → Prop := fun vs H Q => ∃ (a : Addr) (xs : List V) (ds : List PyData), vs = [V.ref a] ∧ SqL K H a xs ∧ DpAll K H xs ds ∧ (∀ d ∈ ds, (∃ n r, d = .tuple (.int n :: r)) ∧ PySem.W.alike d d = true ∧ d.depth ≤ 8) ∧ (ds.map PySem.W.hdInt).Pairwise (· < ·) ∧ ds.length < 64 ∧
  ∀ p, H p = none → Q (.ref p) (upd H p (.lst xs))
theorem cr_sortH {X : Cx} (hu : X.A.units + 64 < cLine) : CallR X (.builtin "sorted") (rSortH X.K) := by
  intro pins s σ H vs us Q I r h
  obtain ⟨a, xs, ds, rfl, hs, hd, hp, asc, h64, q⟩ := h
  obtain ⟨its, rv, hl, hz⟩ := I.list hs
  rw [Vals.ref1 r]
  obtain ⟨as, rd⟩ := Dp.readsAll I ds xs its hd rv
  have lxs := rv.length
  have ldx : its.length = ds.length := SeqAt.ReadsAll.length _ _ _ rd
  have HH : PySem.W.Heads ds := ⟨fun d m => (hp d m).1, fun d m => (hp d m).2.1, fun d m d' m' e => by
    obtain ⟨i, hi⟩ := List.mem_iff_getElem?.mp m
    obtain ⟨j, hj⟩ := List.mem_iff_getElem?.mp m'
    have li := (List.getElem?_eq_some_iff.mp hi).1
    have lj := (List.getElem?_eq_some_iff.mp hj).1
    have ei : (ds.map PySem.W.hdInt)[i]? = some (PySem.W.hdInt d) := by rw [List.getElem?_map, hi]; rfl
    have ej : (ds.map PySem.W.hdInt)[j]? = some (PySem.W.hdInt d') := by rw [List.getElem?_map, hj]; rfl
    have pw := List.pairwise_iff_getElem.mp asc
    have gi := (List.getElem?_eq_some_iff.mp ei)
    have gj := (List.getElem?_eq_some_iff.mp ej)
    obtain ⟨gi1, gi2⟩ := gi
    obtain ⟨gj1, gj2⟩ := gj
    rcases Nat.lt_trichotomy i j with z | z | z
    · have := pw i j gi1 gj1 z
      omega
    · subst z
      rw [hi] at hj
      exact Option.some.inj hj
    · have := pw j i gj1 gi1 z
      omega⟩
  have ev : PySem.W.EachIs (fun v d => ∃ as, Reads s.heap v d as) its ds := by
    have := PySem.W.readsAll_each (h := s.heap) (fun d : PyData => d) (vs := its) (bs := ds) (as := as) (by simpa using rd)
    exact this
  have ev2 : PySem.W.EachIs (fun v d => ∃ as, Reads (PySem.W.sortingHeap (PySem.W.copyHeap s.heap its) (s.heap.objs.size + 1) its) v d as) its ds := ev.mono fun _ _ ⟨as, r⟩ => ⟨as, PyProof.Rows.Reads.keeps (fun _ _ => PySem.W.sorting_copy_old) r⟩
  have small : its.length ≤ sizeLine := by rw [ldx]; exact small64 h64
  refine PySem.W.sorted_vals hl.isList (PySem.W.SortsAt.heads (s := { s with heap := PySem.W.sortingHeap (PySem.W.copyHeap s.heap its) (s.heap.objs.size + 1) its }) ev2 HH fun d m => ?_) small ?_
  · have := (hp d m).2.2
    show X.A.units + 2 + d.depth < cLine
    omega
  · -- in order already
    have keyd : PySem.W.EachIs (fun v d => (PySem.W.headKind (PySem.W.sortingHeap (PySem.W.copyHeap s.heap its) (s.heap.objs.size + 1) its) ds).keyOf v = some (PySem.W.hdInt d)) its ds := (PySem.W.each_mem ev2).mono fun v d ⟨⟨as, r⟩, m⟩ => PySem.W.headKind_some HH m r
    have same : PySem.W.sortVals (PySem.W.headKind (PySem.W.sortingHeap (PySem.W.copyHeap s.heap its) (s.heap.objs.size + 1) its) ds) false its its = its := by
      unfold PySem.W.sortVals
      rw [List.mergeSort_of_pairwise]
      · exact List.map_snd_zip (Nat.le_refl _)
      · exact PySem.W.pw_heads keyd asc
    rw [same]
    obtain ⟨ep, he'⟩ := PyProof.Rows.sortedAll_at s.heap its its.toArray
    exact ⟨.ref _, upd H (s.heap.objs.size + 1) (.lst xs), I.laid (t' := s.toks) (fun _ _ => PyProof.Rows.sortedAll_old) (Nat.le_succ _) ⟨by rw [lxs, ldx]; exact small64 h64, its, ep, rv, by simpa using he'⟩, rfl, q _ (I.hok.fresh (Nat.le_succ _))⟩
end L2
set_option Elab.async false
set_option linter.all false
set_option maxRecDepth 100000
set_option maxHeartbeats 4000000
namespace KB
open PySem PySem.Spec PyProof.Rows L2 Evl
section
variable {K : PySem.W.Frag} {σ : L2.St} {H H' : Hp} {ta tb tc te : TE} {t : TT} {tz : TS} {D : Ends}
theorem ex_bar {v : V} {M : Fam} (h : Ev ta σ H v) (g : ImgAt H v M) (W : WF M) : EvX (tCall spBar [] E0 (tCons ta tNil)) σ H (optD (barM M)) := fun H1 e Q q =>
  h H1 e _ fun H2 e2 => ⟨v, M, rfl, g.mono (e.trans e2), W, fun v' H' e3 g3 => q v' H' (e2.trans e3) g3⟩
theorem ex_helpers {v : V} {M : Fam} (h : Ev ta σ H v) (g : ImgAt H v M) (W : WF M) : EvX (tCall spHelpers [] E0 (tCons ta tNil)) σ H (helpD M) := fun H1 e Q q =>
  h H1 e _ fun H2 e2 => ⟨v, M, rfl, g.mono (e.trans e2), W, fun p a b c H3 np na nb nc _ _ _ e3 gp ga gb gc => q (.ref p) H3 (e2.trans e3) (.tup gp (.cons (.lst ga (dx_ints _)) (.cons (.lst gb (dx_ints _)) (.cons (.lst gc (dx_ints _)) .nil))))⟩
theorem ev_shows {v u : V} {M : Fam} {d : PyData} {n : Nat} {b : Bool} (h : Ev ta σ H v) (g : ImgAt H v M) (W : WF M) (h2 : EvX tb σ H d) (sh : Sh n d) (sp : SeqAt.shaped d = true) (hb : b = true ↔ Shows M d) : Ev (tCall spShowsB [] E0 (tCons ta (tCons tb tNil))) σ H (.bl b) := fun H1 e Q q =>
  h H1 e _ fun H2 e2 => h2 H2 (e.trans e2) _ fun u H3 e3 g3 => ⟨v, M, u, d, n, rfl, g.mono (e.trans (e2.trans e3)), W, g3, sh, sp, fun b' H' e4 hb' => by
    have : b' = b := by
      cases b with
      | true => exact hb'.mpr (hb.mp rfl)
      | false =>
        cases b' with
        | false => rfl
        | true => exact absurd (hb.mpr (hb'.mp rfl)) (by decide)
    rw [this]
    exact q H' (e2.trans (e3.trans e4))⟩
end
theorem lost_few {M : Fam} (W : WF M) : (lost M).length ≤ 20 := Nat.le_trans (List.length_filter_le _ _) (ses_few W)
theorem empties_few {M : Fam} (W : WF M) : (empties M).length ≤ 20 := Nat.le_trans (List.length_filter_le _ _) (grp_few W)
theorem further_few {M : Fam} (W : WF M) : (further M).length ≤ 20 := Nat.le_trans (List.length_filter_le _ _) (Nat.le_trans (List.length_filter_le _ _) (ses_few W))
theorem sh_intsD (k : Nat) {ns : List Int} (h : ns.length ≤ 20) : Sh (k + 2) (intsD ns) := ⟨by rw [List.length_map]; omega, sh_ints k ns⟩
theorem sh_help (k : Nat) {M : Fam} (W : WF M) : Sh (k + 3) (helpD M) := ⟨by show 3 ≤ 1000; decide, fun d m => by
  simp only [List.mem_cons, List.not_mem_nil, or_false] at m
  rcases m with rfl | rfl | rfl
  · exact sh_intsD k (lost_few W)
  · exact sh_intsD k (empties_few W)
  · exact sh_intsD k (further_few W)⟩
theorem shaped_one (r : Rs) : SeqAt.shaped (rsD r) = true := by
  obtain ⟨a, b⟩ := lay_rs r
  show ((rsD r).canLay0 && decide ((rsD r).depth ≤ 64)) = true
  rw [a, decide_eq_true (by omega)]
  rfl
theorem sh_up : ∀ {n : Nat} {d : PyData}, Sh n d → Sh (n + 1) d
  | 0, _, h => h.elim
  | n + 1, .list ds, h => ⟨h.1, fun d m => sh_up (h.2 d m)⟩
  | n + 1, .tuple ds, h => ⟨h.1, fun d m => sh_up (h.2 d m)⟩
  | n + 1, .dict _, h => h.elim
  | n + 1, .none, _ => True.intro
  | n + 1, .bool _, _ => True.intro
  | n + 1, .int _, _ => True.intro
  | n + 1, .str _, _ => True.intro
/-! ### cases written down -/
abbrev FC := Fam × List Int × List Int × List Int
abbrev BC := Fam × Rs
def helpQ (φ : Int → Int) (c : List Int × List Int × List Int) : PyData := .tuple [intsD (c.1.map φ), intsD (c.2.1.map φ), intsD (c.2.2.map φ)]
def caseF (φ : Int → Int) (c : FC) : PyData := .tuple [rowsQ φ c.1, helpQ φ c.2]
def caseB (φ : Int → Int) (c : BC) : PyData := .tuple [rowsQ φ c.1, rsD (rnS φ c.2)]
def okF (c : FC) : Bool := wfB c.1 && ((reasons c.1).isEmpty && (decide (lost c.1 = c.2.1) && (decide (empties c.1 = c.2.2.1) && decide (further c.1 = c.2.2.2))))
def okB (c : BC) : Bool := wfB c.1 && decide ((reasons c.1).head? = some c.2)
theorem okF_of {φ : Int → Int} (R : Ren φ) {c : FC} (h : okF c = true) : wfB c.1 = true ∧ barM (rnM φ c.1) = none ∧ helpD (rnM φ c.1) = helpQ φ c.2 := by
  unfold okF at h
  simp only [Bool.and_eq_true, decide_eq_true_eq, List.isEmpty_iff] at h
  obtain ⟨h1, h2, h3, h4, h5⟩ := h
  refine ⟨h1, ?_, ?_⟩
  · unfold barM
    rw [rn_reasons R, h2]
    rfl
  · unfold helpD helpQ
    rw [rn_lost R, rn_empties R, rn_further R, h3, h4, h5]
theorem okB_of {φ : Int → Int} (R : Ren φ) {c : BC} (h : okB c = true) : wfB c.1 = true ∧ barM (rnM φ c.1) = some (rnS φ c.2) := by
  unfold okB at h
  simp only [Bool.and_eq_true, decide_eq_true_eq] at h
  refine ⟨h.1, ?_⟩
  unfold barM
  rw [rn_reasons R, List.head?_map, h.2]
  rfl
/-! ### _law_image -/
abbrev sImageQ : Stmt := topS 38
abbrev nImageQ : List Str := ["_law_rows", "_law_found", "_law_n", "_law_up", "_law_session", "_law_group", "_law_adopts", "_law_ended", "_law_row"]
theorem scImageQ : FnScope nImageQ ["_law_rows"] (defScope sImageQ) := ⟨rfl, rfl, rfl, by decide +kernel, rfl, by decide +kernel, by decide +kernel⟩
def spImageQ : Sp := fun vs H Q _ => ∃ (v : V) (φ : Int → Int) (M : Fam), vs = [v] ∧ Dx H v (rowsQ φ M) ∧ Ren φ ∧ wfB M = true ∧ RetD (imgQ φ M) H Q
def spFree : Sp := fun vs H Q _ => ∃ (v : V) (φ : Int → Int) (cs : List FC), vs = [v] ∧ Dx H v (.list (cs.map (caseF φ))) ∧ Ren φ ∧ cs.all okF = true ∧ RetV (.bl true) H Q
def spBarred : Sp := fun vs H Q _ => ∃ (v : V) (φ : Int → Int) (cs : List BC), vs = [v] ∧ Dx H v (.list (cs.map (caseB φ))) ∧ Ren φ ∧ cs.all okB = true ∧ RetV (.bl true) H Q
theorem adQ_end (r : Rw) : decide (adQ r < 0) = decide (r.w = 1) := by
  unfold adQ
  by_cases z : r.w = 1
  · simp [z]
  · rw [if_neg z, decide_eq_false z]
    cases r.ad <;> rfl
theorem rowT_facts (φ : Int → Int) (r : Rw) : (∃ n l, rowT φ r = .tuple (.int n :: l)) ∧ PySem.W.alike (rowT φ r) (rowT φ r) = true ∧ (rowT φ r).depth ≤ 8 := by
  refine ⟨⟨_, _, rfl⟩, ?_, ?_⟩
  · unfold rowT cellsQ
    by_cases z : r.up = 1 <;> by_cases y : r.w = 1 <;> simp [z, y, PySem.W.alike, PySem.W.alikeAll]
  · unfold rowT cellsQ
    by_cases z : r.up = 1 <;> by_cases y : r.w = 1 <;> simp [z, y, PyData.depth, PyData.depthAll]
theorem rowT_heads {φ : Int → Int} (R : Ren φ) {M : Fam} (h : (keys M).Pairwise (· < ·)) : ((M.map (rowT φ)).map PySem.W.hdInt).Pairwise (· < ·) := by
  have e : (M.map (rowT φ)).map PySem.W.hdInt = (keys M).map φ := by
    unfold keys
    rw [List.map_map, List.map_map]
    rfl
  rw [e, List.pairwise_map]
  exact h.imp fun h => R.mono _ _ h
section
variable {P : Program} {w : World} {K : PySem.W.Frag} {mg : Str → Option Value} {base : Heap} {f : Addr} {fd : FuncData}
theorem ok_imageQ (F : Fun K "_law_image" "_law_image" sImageQ f fd) (m_tuple : mg "tuple" = none) (m_sorted : mg "sorted" = none) : FnOk P w K mg base CX0 1 f fd ["_law_rows"] spImageQ := by
  refine F.ok scImageQ (fun vs H Q E h => ?_) (fun cdv A outer s H vs Q E hr h => ?_)
  · obtain ⟨v, φ, M, rfl, _⟩ := h
    rfl
  · obtain ⟨v, φ, M, rfl, hv, R, hw, q⟩ := h
    have nd := scImageQ.nd
    have hu := hu_of hr
    refine ⟨_, (pss_cons (ps_set (i := 1) nd rfl (by first | exact .inl rfl | exact .inr rfl) (pe_lst pa_nil))
      (pss_cons (ps_for PassesOwn.never rfl (pi_list (pv 0)) (pg_tup (by rfl) (pgs_cons (pg_name (i := 2) nd rfl (by first | exact .inl rfl | exact .inr rfl)) (pgs_cons (pg_name (i := 3) nd rfl (by first | exact .inl rfl | exact .inr rfl)) (pgs_cons (pg_name (i := 4) nd rfl (by first | exact .inl rfl | exact .inr rfl)) (pgs_cons (pg_name (i := 5) nd rfl (by first | exact .inl rfl | exact .inr rfl)) (pgs_cons (pg_name (i := 6) nd rfl (by first | exact .inl rfl | exact .inr rfl)) pgs_nil)))))) (pss_cons (ps_set (i := 7) nd rfl (by first | exact .inl rfl | exact .inr rfl) (pe_cmpR op_lt (pv 6) pe_int (nomark _)))
      (pss_cons (ps_set (i := 8) nd rfl (by first | exact .inl rfl | exact .inr rfl) (pe_tup (pa_cons (pv 2) (pa_cons (pv 3) (pa_cons (pv 4) (pa_cons (pv 5) (pa_cons (pe_cmpR op_gt (pv 6) pe_int (nomark _)) (pa_cons (pe_ifExp (pt_val (pv 7)) pe_str pe_str) (pa_cons (pe_ifExp (pt_val (pv 7)) pe_int pe_non) (pa_cons pe_non pa_nil))))))))))
      (pss_one (ps_expr (pe_bm PySem.F.plainAttrs_list PySem.F.slot_list_append PySem.F.type_list_append mt_append (pv 1) (pa_cons (pe_op op_catT (pv 8) (pe_tup (pa_cons (pe_ifExp (pt_val (pv 7)) (pe_tup pa_nil) (pe_tup (pa_cons pe_int (pa_cons pe_int (pa_cons pe_int (pa_cons pe_int pa_nil)))))) (pa_cons (pe_tup pa_nil) pa_nil)))) pa_nil)))))))
      (pss_one (ps_ret (pe_tup (pa_cons (pe_callTy call_tuple_of (by rfl) m_tuple (by decide +kernel) (pa_cons (pe_callB (cr_sortH hr.units) (by rfl) m_sorted (by decide +kernel) (pa_cons (pv 1) pa_nil)) pa_nil)) (pa_cons (pe_tup pa_nil) (pa_cons (pe_tup pa_nil) (pa_cons (pe_tup pa_nil) (pa_cons (pe_tup pa_nil) (pa_cons (pe_tup pa_nil) pa_nil))))))))))), ?_⟩
    have few := wf_few hw
    have hv : Dx H v (.list (M.map (rowQ φ))) := hv
    cases hv with
    | @lst ra xs _ gra hx =>
    have lx : xs.length = M.length := by rw [hx.length, List.length_map]
    refine q_asgL (el_lst ea_nil (by show 0 ≤ 100000; omega)) fun q0 H1 nq e1 g1 => ?_
    have nra : ra ≠ q0 := fun z => by rw [z, nq] at gra; cases gra
    refine q_forL (K := K) (a := ra) (xs := xs) (ev_var rfl) (sq_of (e1 _ _ gra)) (fun i σ G => (∃ y2 y3 y4 y5 y6 y7 y8, σ = [some (.ref ra), some (.ref q0), y2, y3, y4, y5, y6, y7, y8]) ∧ Ex H G ∧ ∃ acc, G q0 = some (.lst acc) ∧ DxAll (mask G [q0]) acc ((M.take i).map (rowT φ)))
      (fun H2 e2 => ⟨⟨_, _, _, _, _, _, _, rfl⟩, e1.trans e2, [], e2 _ _ g1, .nil⟩) (fun i σ G _ g => sq_of (g.2.1 _ _ gra)) ?_ ?_
    · rintro i x σ G hxi ⟨⟨y2, y3, y4, y5, y6, y7, y8, rfl⟩, eG, acc, gq, da⟩
      obtain ⟨d, ed, hd⟩ := hx.get hxi
      rw [List.getElem?_map] at ed
      obtain ⟨r, er, rfl⟩ := Option.map_eq_some_iff.mp ed
      have hd : Dx H x (.tuple [.int (φ r.n), if r.up = 1 then .none else .int (φ r.up), .int (φ r.s), .int (φ r.g), .int (adQ r)]) := hd
      cases hd with
      | @tup ta ts _ gta d =>
      cases d with | cons d0 d => cases d with | @cons v1 _ _ _ d1 d => cases d with | cons d2 d => cases d with | cons d3 d => cases d with | cons d4 d =>
      cases d
      cases d0
      cases d2
      cases d3
      cases d4
      obtain rfl : v1 = if r.up = 1 then .non else .int (φ r.up) := by
        by_cases z : r.up = 1
        · rw [if_pos z] at d1 ⊢
          cases d1; rfl
        · rw [if_neg z] at d1 ⊢
          cases d1; rfl
      refine ⟨ta, _, rfl, .inl (.inl (eG _ _ gta)), rfl, _, _, rfl, _, _, rfl, _, _, rfl, _, _, rfl, _, _, rfl, rfl, ?_⟩
      refine q_asg (v := .bl (decide (r.w = 1))) (by rw [← adQ_end r]; exact ev_op (ev_var rfl) ev_c rv_I0) fun G1 e1 => ?_
      have v5 : Ev (tIf (tB (tVar 7)) (tC (.str "ended")) (tC (.str "runs"))) [some (.ref ra), some (.ref q0), some (.int (φ r.n)), some (if r.up = 1 then .non else .int (φ r.up)), some (.int (φ r.s)), some (.int (φ r.g)), some (.int (adQ r)), some (.bl (decide (r.w = 1))), y8] G1 (.str (if r.w = 1 then "ended" else "runs")) := by
        refine ev_if (b := decide (r.w = 1)) (et_B (ev_var rfl)) (fun h => ?_) (fun h => ?_)
        · rw [if_pos (of_decide_eq_true h)]; exact ev_c
        · rw [if_neg (of_decide_eq_false h)]; exact ev_c
      have v6 : Ev (tIf (tB (tVar 7)) (tC (.int 5)) (tC .non)) [some (.ref ra), some (.ref q0), some (.int (φ r.n)), some (if r.up = 1 then .non else .int (φ r.up)), some (.int (φ r.s)), some (.int (φ r.g)), some (.int (adQ r)), some (.bl (decide (r.w = 1))), y8] G1 (if r.w = 1 then .int 5 else .non) := by
        refine ev_if (b := decide (r.w = 1)) (et_B (ev_var rfl)) (fun h => ?_) (fun h => ?_)
        · rw [if_pos (of_decide_eq_true h)]; exact ev_c
        · rw [if_neg (of_decide_eq_false h)]; exact ev_c
      refine q_asgU (xs := [.int (φ r.n), if r.up = 1 then .non else .int (φ r.up), .int (φ r.s), .int (φ r.g), .bl (decide (0 < adQ r)), .str (if r.w = 1 then "ended" else "runs"), if r.w = 1 then .int 5 else .non, .non]) (eu_tup (ea_cons (ev_var rfl) (ea_cons (ev_var rfl) (ea_cons (ev_var rfl) (ea_cons (ev_var rfl) (ea_cons (ev_op (ev_var rfl) ev_c rv_I0) (ea_cons v5 (ea_cons v6 (ea_cons ev_c ea_nil)))))))) (by show 8 ≤ 100000; omega)) fun r8 G2 nr8 e2 g8 => ?_
      have cel : EvU (tIf (tB (tVar 7)) (tTup tNil) (tTup (tCons (tC (.int 0)) (tCons (tC (.int 0)) (tCons (tC (.int 0)) (tCons (tC (.int 0)) tNil)))))) [some (.ref ra), some (.ref q0), some (.int (φ r.n)), some (if r.up = 1 then .non else .int (φ r.up)), some (.int (φ r.s)), some (.int (φ r.g)), some (.int (adQ r)), some (.bl (decide (r.w = 1))), some (.ref r8)] G2 ((if r.w = 1 then [] else [0, 0, 0, 0]).map V.int) := by
        refine eu_if (b := decide (r.w = 1)) (et_B (ev_var rfl)) (fun h => ?_) (fun h => ?_)
        · rw [if_pos (of_decide_eq_true h)]; exact eu_nil
        · rw [if_neg (of_decide_eq_false h)]
          exact eu_tup (ea_cons ev_c (ea_cons ev_c (ea_cons ev_c (ea_cons ev_c ea_nil)))) (by show 4 ≤ 100000; omega)
      have eq2 := e1.trans e2
      refine ⟨_, rfl, .inl ⟨rfl, _, SqL.of (eq2 _ _ gq)⟩, _, rfl, ?_⟩
      refine cel G2 (Ex.refl G2) _ fun ca G3 nca e3 gca => ?_
      refine eu_nil (σ := [some (.ref ra), some (.ref q0), some (.int (φ r.n)), some (if r.up = 1 then .non else .int (φ r.up)), some (.int (φ r.s)), some (.int (φ r.g)), some (.int (adQ r)), some (.bl (decide (r.w = 1))), some (.ref r8)]) (H := G3) G3 (Ex.refl G3) _ fun ea G4 nea e4 gea => ?_
      refine ⟨by show 2 ≤ sizeLine; decide, fun t nt => ?_⟩
      have eT := Ex.new (o := .tup [.ref ca, .ref ea]) nt
      refine ⟨r8, t, _, [.ref ca, .ref ea], rfl, rfl, st_of (eT _ _ (e4 _ _ (e3 _ _ g8))), st_of upd_same, (fun z => nomatch z), by show 10 ≤ sizeLine; decide, (fun z => nomatch z), fun _ tp ntp => ?_⟩
      generalize hys : [V.int (φ r.n), if r.up = 1 then .non else .int (φ r.up), .int (φ r.s), .int (φ r.g), .bl (decide (0 < adQ r)), .str (if r.w = 1 then "ended" else "runs"), if r.w = 1 then .int 5 else .non, .non] ++ [.ref ca, .ref ea] = ys
      have eP := Ex.new (o := .tup ys) ntp
      have eAll := (e3.trans e4).trans (eT.trans eP)
      have gtp : upd (upd G4 t (.tup [.ref ca, .ref ea])) tp (.tup ys) tp = _ := upd_same
      have gca5 := eP _ _ (eT _ _ (e4 _ _ gca))
      have gea5 := eP _ _ (eT _ _ gea)
      have ntq : tp ≠ q0 := fun z => by rw [z, eT _ _ (e4 _ _ (e3 _ _ (eq2 _ _ gq)))] at ntp; cases ntp
      have ncq : ca ≠ q0 := fun z => by rw [z, eq2 _ _ gq] at nca; cases nca
      have neq : ea ≠ q0 := fun z => by rw [z, e3 _ _ (eq2 _ _ gq)] at nea; cases nea
      have eX := eq2.trans eAll
      generalize upd (upd G4 t (.tup [.ref ca, .ref ea])) tp (.tup ys) = G5 at eX gtp gca5 gea5 ⊢
      have al : acc.length < 100 := by
        rw [da.length, List.length_map]
        have h2 := List.length_take_le i M
        have h3 := (List.getElem?_eq_some_iff.mp er).1
        omega
      refine ⟨q0, acc, _, rfl, rfl, eX _ _ gq, sz_lt (by omega), ⟨_, _, _, _, _, _, _, rfl⟩, Ex.mut (eG.trans eX) nq, acc ++ [.ref tp], upd_same, ?_⟩
      rw [mask_upd (List.mem_singleton.mpr rfl), List.take_add_one, er, List.map_append]
      refine (da.mono (mask_same eX fun _ _ _ z => z)).snoc ?_
      have mk : ∀ {a : Addr} {o : HO}, a ≠ q0 → G5 a = some o → mask G5 [q0] a = some o := fun n h => mask_of h fun m => n (List.mem_singleton.mp m)
      subst hys
      refine .tup (mk ntq gtp) (.cons (.int _) (.cons ?_ (.cons (.int _) (.cons (.int _) (.cons (.bl _) (.cons (.str _) (.cons ?_ (.cons .non (.cons ?_ (.cons (.tup (mk neq gea5) .nil) .nil))))))))))
      · by_cases z : r.up = 1
        · rw [if_pos z, if_pos z]; exact .non
        · rw [if_neg z, if_neg z]; exact .int _
      · by_cases z : r.w = 1
        · rw [if_pos z, if_pos z]; exact .int _
        · rw [if_neg z, if_neg z]; exact .non
      · refine .tup (mk ncq gca5) ?_
        by_cases z : r.w = 1
        · rw [if_pos z, if_pos z]; exact .nil
        · rw [if_neg z, if_neg z]; exact .cons (.int _) (.cons (.int _) (.cons (.int _) (.cons (.int _) .nil)))
    · rintro σ G ⟨⟨y2, y3, y4, y5, y6, y7, y8, rfl⟩, eG, acc, gq, da⟩
      rw [lx, List.take_length] at da
      have d0 : DxAll G acc (M.map (rowT φ)) := da.mono (mask_sub G _)
      have z0 : (0 : Nat) ≤ sizeLine := Nat.zero_le _
      refine ⟨_, rfl, q0, acc, M.map (rowT φ), rfl, sq_of gq, d0.dp, (fun d m => by obtain ⟨r, mr, rfl⟩ := List.mem_map.mp m; exact rowT_facts φ r), rowT_heads R (wf_asc hw), by rw [List.length_map]; omega, fun p1 np1 => ⟨p1, acc, rfl, .inl ⟨sq_of upd_same, fun a1 n1 => ⟨z0, fun a2 n2 => ⟨z0, fun a3 n3 => ⟨z0, fun a4 n4 => ⟨z0, fun a5 n5 => ⟨z0, fun a6 n6 => ⟨by show 6 ≤ sizeLine; decide, fun t nt => ?_⟩⟩⟩⟩⟩⟩⟩⟩⟩
      have f0 := Ex.new (o := .lst acc) np1
      have f1 := f0.trans (Ex.new (o := .tup acc) n1)
      have f2 := Ex.new (o := .tup []) n2
      have f3 := Ex.new (o := .tup []) n3
      have f4 := Ex.new (o := .tup []) n4
      have f5 := Ex.new (o := .tup []) n5
      have f6 := Ex.new (o := .tup []) n6
      have f7 := Ex.new (o := .tup [.ref a1, .ref a2, .ref a3, .ref a4, .ref a5, .ref a6]) nt
      have g6 := f6.trans f7
      have g5 := f5.trans g6
      have g4 := f4.trans g5
      have g3 := f3.trans g4
      have g2 := f2.trans g3
      refine q _ _ (eG.trans (f1.trans g2)) ?_
      exact .tup upd_same (.cons (.tup (g2 _ _ upd_same) (d0.mono (f1.trans g2))) (.cons (.tup (g3 _ _ upd_same) .nil) (.cons (.tup (g4 _ _ upd_same) .nil) (.cons (.tup (g5 _ _ upd_same) .nil) (.cons (.tup (g6 _ _ upd_same) .nil) (.cons (.tup (f7 _ _ upd_same) .nil) .nil))))))
end
/-! ### _law_free, _law_barred -/
abbrev sFree : Stmt := topS 39
abbrev nFree : List Str := ["_law_cases", "_law_rows", "_law_due", "_law_image_so"]
theorem scFree : FnScope nFree ["_law_cases"] (defScope sFree) := ⟨rfl, rfl, rfl, by decide +kernel, rfl, by decide +kernel, by decide +kernel⟩
abbrev sBarred : Stmt := topS 40
abbrev nBarred : List Str := ["_law_cases", "_law_rows", "_law_due", "_law_image_so"]
theorem scBarred : FnScope nBarred ["_law_cases"] (defScope sBarred) := ⟨rfl, rfl, rfl, by decide +kernel, rfl, by decide +kernel, by decide +kernel⟩
section
variable {P : Program} {w : World} {K : PySem.W.Frag} {mg : Str → Option Value} {base : Heap} {f : Addr} {fd : FuncData}
theorem ok_free (F : Fun K "_law_free" "_law_free" sFree f fd) (G__law_image : Kf P w K mg base 1 "_law_image" ["_law_rows"] spImageQ) (G__law_same : Kf P w K mg base 5 "_law_same" ["_law_found", "_law_due"] (spSame 5)) (G_bar : Kf P w K mg base 6 "bar" ["image"] spBar) (G_helpers : Kf P w K mg base 7 "helpers" ["image"] spHelpers) :
    FnOk P w K mg base CX0 8 f fd ["_law_cases"] spFree := by
  refine F.ok scFree (fun vs H Q E h => ?_) (fun cdv A outer s H vs Q E hr h => ?_)
  · obtain ⟨v, φ, cs, rfl, _⟩ := h
    rfl
  · obtain ⟨v, φ, cs, rfl, hv, R, hc, q⟩ := h
    have nd := scFree.nd
    have hu := hu_of hr
    refine ⟨_, (pss_cons (ps_for PassesOwn.never rfl (pi_list (pv 0)) (pg_tup (by rfl) (pgs_cons (pg_name (i := 1) nd rfl (by first | exact .inl rfl | exact .inr rfl)) (pgs_cons (pg_name (i := 2) nd rfl (by first | exact .inl rfl | exact .inr rfl)) pgs_nil))) (pss_cons (ps_set (i := 3) nd rfl (by first | exact .inl rfl | exact .inr rfl) (pe_fn G__law_image (hr.mono (by decide)) (pa_cons (pv 1) pa_nil)))
      (pss_one (ps_if (pt_not (pt_val (pe_fn G__law_same (hr.mono (by decide)) (pa_cons (pe_lst (pa_cons (pe_fn G_bar (hr.mono (by decide)) (pa_cons (pv 3) pa_nil)) (pa_cons (pe_fn G_helpers (hr.mono (by decide)) (pa_cons (pv 3) pa_nil)) pa_nil))) (pa_cons (pe_lst (pa_cons pe_non (pa_cons (pv 2) pa_nil))) pa_nil))))) (pss_one (ps_ret pe_bl)) pss_nil))))
      (pss_one (ps_ret pe_bl))), ?_⟩
    cases hv with
    | @lst ra xs _ gra hx =>
    refine q_forL (K := K) (a := ra) (xs := xs) (ev_var rfl) (sq_of gra) (fun i σ G => (∃ y1 y2 y3, σ = [some (.ref ra), y1, y2, y3]) ∧ Ex H G)
      (fun H2 e2 => ⟨⟨_, _, _, rfl⟩, e2⟩) (fun i σ G _ g => sq_of (g.2 _ _ gra)) ?_ ?_
    · rintro i x σ G hxi ⟨⟨y1, y2, y3, rfl⟩, eG⟩
      obtain ⟨d, ed, hd⟩ := hx.get hxi
      rw [List.getElem?_map] at ed
      obtain ⟨c, ec, rfl⟩ := Option.map_eq_some_iff.mp ed
      have mc := List.mem_of_getElem? ec
      obtain ⟨hw, hb, hh⟩ := okF_of R (List.all_eq_true.mp hc c mc)
      have W := rn_wf R (wf_of hw)
      have hd : Dx H x (.tuple [rowsQ φ c.1, helpQ φ c.2]) := hd
      cases hd with
      | @tup ta ts _ gta d =>
      cases d with | @cons v0 _ _ _ d0 d => cases d with | @cons v1 _ _ _ d1 d =>
      cases d
      refine ⟨ta, _, rfl, .inl (.inl (eG _ _ gta)), rfl, _, _, rfl, _, _, rfl, rfl, ?_⟩
      have g0 := d0.mono eG
      have g1 := d1.mono eG
      refine q_asgX (d := imgQ φ c.1) (ex_call (ea_cons (ev_var rfl) ea_nil) fun H1 e1 Q q E => ⟨v0, φ, c.1, rfl, g0.mono e1, R, hw, q⟩) fun im G1 e1 gi => ?_
      have gi' := dx_imgQ R hw gi
      have bn : optD (barM (rnM φ c.1)) = .none := by rw [hb]; rfl
      have shD : Sh 5 (.list [.none, helpQ φ c.2]) := ⟨by show 2 ≤ 1000; decide, fun d m => by
        simp only [List.mem_cons, List.not_mem_nil, or_false] at m
        rcases m with rfl | rfl
        · exact True.intro
        · rw [← hh]; exact sh_help 1 W⟩
      refine s_if (et_not (et_B (ev_same (d := .list [.none, helpQ φ c.2]) (ex_lst2 (by rw [← bn]; exact ex_bar (ev_var rfl) gi' W) (by rw [← hh]; exact ex_helpers (ev_var rfl) gi' W)) (ex_lst2 (ev_x ev_c .non) (ev_x (ev_var rfl) (g1.mono e1))) shD))) (fun hb => nomatch hb) (fun _ G2 e2 => ?_)
      exact ⟨⟨_, _, _, rfl⟩, eG.trans (e1.trans e2)⟩
    · rintro σ G ⟨⟨y1, y2, y3, rfl⟩, eG⟩
      exact q G eG
theorem ok_barred (F : Fun K "_law_barred" "_law_barred" sBarred f fd) (G__law_image : Kf P w K mg base 1 "_law_image" ["_law_rows"] spImageQ) (G__law_same : Kf P w K mg base 5 "_law_same" ["_law_found", "_law_due"] (spSame 5)) (G_bar : Kf P w K mg base 6 "bar" ["image"] spBar) (G_shows_bar : Kf P w K mg base 7 "shows_bar" ["image", "thing"] spShowsB) :
    FnOk P w K mg base CX0 8 f fd ["_law_cases"] spBarred := by
  refine F.ok scBarred (fun vs H Q E h => ?_) (fun cdv A outer s H vs Q E hr h => ?_)
  · obtain ⟨v, φ, cs, rfl, _⟩ := h
    rfl
  · obtain ⟨v, φ, cs, rfl, hv, R, hc, q⟩ := h
    have nd := scBarred.nd
    have hu := hu_of hr
    refine ⟨_, (pss_cons (ps_for PassesOwn.never rfl (pi_list (pv 0)) (pg_tup (by rfl) (pgs_cons (pg_name (i := 1) nd rfl (by first | exact .inl rfl | exact .inr rfl)) (pgs_cons (pg_name (i := 2) nd rfl (by first | exact .inl rfl | exact .inr rfl)) pgs_nil))) (pss_cons (ps_set (i := 3) nd rfl (by first | exact .inl rfl | exact .inr rfl) (pe_fn G__law_image (hr.mono (by decide)) (pa_cons (pv 1) pa_nil)))
      (pss_one (ps_if (pt_not (pt_val (pe_fn G__law_same (hr.mono (by decide)) (pa_cons (pe_lst (pa_cons (pe_fn G_bar (hr.mono (by decide)) (pa_cons (pv 3) pa_nil)) (pa_cons (pe_fn G_shows_bar (hr.mono (by decide)) (pa_cons (pv 3) (pa_cons (pv 2) pa_nil))) pa_nil))) (pa_cons (pe_lst (pa_cons (pv 2) (pa_cons pe_bl pa_nil))) pa_nil))))) (pss_one (ps_ret pe_bl)) pss_nil))))
      (pss_one (ps_ret pe_bl))), ?_⟩
    cases hv with
    | @lst ra xs _ gra hx =>
    refine q_forL (K := K) (a := ra) (xs := xs) (ev_var rfl) (sq_of gra) (fun i σ G => (∃ y1 y2 y3, σ = [some (.ref ra), y1, y2, y3]) ∧ Ex H G)
      (fun H2 e2 => ⟨⟨_, _, _, rfl⟩, e2⟩) (fun i σ G _ g => sq_of (g.2 _ _ gra)) ?_ ?_
    · rintro i x σ G hxi ⟨⟨y1, y2, y3, rfl⟩, eG⟩
      obtain ⟨d, ed, hd⟩ := hx.get hxi
      rw [List.getElem?_map] at ed
      obtain ⟨c, ec, rfl⟩ := Option.map_eq_some_iff.mp ed
      have mc := List.mem_of_getElem? ec
      obtain ⟨hw, hb⟩ := okB_of R (List.all_eq_true.mp hc c mc)
      have W := rn_wf R (wf_of hw)
      have hd : Dx H x (.tuple [rowsQ φ c.1, rsD (rnS φ c.2)]) := hd
      cases hd with
      | @tup ta ts _ gta d =>
      cases d with | @cons v0 _ _ _ d0 d => cases d with | @cons v1 _ _ _ d1 d =>
      cases d
      refine ⟨ta, _, rfl, .inl (.inl (eG _ _ gta)), rfl, _, _, rfl, _, _, rfl, rfl, ?_⟩
      have g0 := d0.mono eG
      have g1 := d1.mono eG
      refine q_asgX (d := imgQ φ c.1) (ex_call (ea_cons (ev_var rfl) ea_nil) fun H1 e1 Q q E => ⟨v0, φ, c.1, rfl, g0.mono e1, R, hw, q⟩) fun im G1 e1 gi => ?_
      have gi' := dx_imgQ R hw gi
      have bn : optD (barM (rnM φ c.1)) = rsD (rnS φ c.2) := by rw [hb]; rfl
      have rok : RsOk (rnS φ c.2) := barM_ok hb
      have sw : true = true ↔ Shows (rnM φ c.1) (rsD (rnS φ c.2)) := ⟨fun _ => ⟨_, List.mem_of_mem_head? hb, rfl⟩, fun _ => rfl⟩
      have shD : Sh 5 (.list [rsD (rnS φ c.2), .bool true]) := ⟨by show 2 ≤ 1000; decide, fun d m => by
        simp only [List.mem_cons, List.not_mem_nil, or_false] at m
        rcases m with rfl | rfl
        · exact sh_up (sh_rs rok)
        · exact True.intro⟩
      refine s_if (et_not (et_B (ev_same (d := .list [rsD (rnS φ c.2), .bool true]) (ex_lst2 (by rw [← bn]; exact ex_bar (ev_var rfl) gi' W) (ev_x (ev_shows (u := v1) (b := true) (ev_var rfl) gi' W (ev_x (ev_var rfl) (g1.mono e1)) (sh_rs rok) (shaped_one _) sw) (.bl true))) (ex_lst2 (ev_x (ev_var rfl) (g1.mono e1)) (ev_x ev_c (.bl true))) shD))) (fun hb => nomatch hb) (fun _ G2 e2 => ?_)
      exact ⟨⟨_, _, _, rfl⟩, eG.trans (e1.trans e2)⟩
    · rintro σ G ⟨⟨y1, y2, y3, rfl⟩, eG⟩
      exact q G eG
end
end KB
set_option Elab.async false
set_option linter.all false
set_option maxRecDepth 100000
set_option maxHeartbeats 4000000
namespace KB
open PySem PySem.Spec PyProof.Rows L2 Evl
def mk5 (n up s g ad : Int) : Rw := ⟨n, up, s, g, decide (0 < ad), if ad < 0 then 1 else 0⟩
/-- 2 to 6: the drawn numbers, 7: one that is nobody's, 8 to 10: 180 to 182 -/
def ph (a b c d e g x : Int) : Int := if x ≤ 1 then x else if x = 2 then a else if x = 3 then b else if x = 4 then c else if x = 5 then d else if x = 6 then e else if x = 7 then g else x + 172
theorem ph_ren {a b c d e g : Int} (h1 : 1 < a) (h2 : a < b) (h3 : b < c) (h4 : c < d) (h5 : d < e) (h6 : e < g) (h7 : g < 180) : Ren (ph a b c d e g) := by
  refine ⟨fun x y h => ?_, rfl⟩
  unfold ph
  repeat' split
  all_goals omega
theorem dx_one {φ : Int → Int} (R : Ren φ) {H : Hp} : Dx H (.int 1) (.int (φ 1)) := by rw [R.one]; exact .int 1
theorem dx_far {φ : Int → Int} {i n : Int} (h : φ i = n) {H : Hp} : Dx H (.int n) (.int (φ i)) := by rw [h]; exact .int n
/-! ### displays of data -/
def EvXA (ta : TA) (σ : L2.St) (H : Hp) (ds : List PyData) : Prop := ∀ H1, Ex H H1 → ∀ Q : List V → Hp → Prop, (∀ vs H2, Ex H1 H2 → DxAll H2 vs ds → Q vs H2) → ta σ H1 Q
section
variable {K : PySem.W.Frag} {σ : L2.St} {H H' : Hp} {ta tb tc te : TE} {tx : TA} {t : TT} {d : PyData} {ds es : List PyData} {v : V} {tz : TS} {D : Ends}
theorem xa_nil : EvXA tNil σ H [] := fun H1 _ Q q => q [] H1 (Ex.refl H1) .nil
theorem xa_cons (h : EvX ta σ H d) (h2 : EvXA tx σ H ds) : EvXA (tCons ta tx) σ H (d :: ds) := fun H1 e Q q =>
  h H1 e _ fun v H2 e2 g2 => h2 H2 (e.trans e2) _ fun vs H3 e3 g3 => q (v :: vs) H3 (e2.trans e3) (.cons (g2.mono e3) g3)
theorem ex_tupA (h : EvXA tx σ H ds) (hz : ds.length ≤ 100000) : EvX (tTup tx) σ H (.tuple ds) := fun H1 e Q q =>
  h H1 e _ fun vs H2 e2 g2 => ⟨by rw [g2.length]; exact sz_of hz, fun l nl => q _ _ (e2.trans (Ex.new nl)) (.tup upd_same (g2.mono (Ex.new nl)))⟩
theorem ex_lstA (h : EvXA tx σ H ds) (hz : ds.length ≤ 100000) : EvX (tLst tx) σ H (.list ds) := fun H1 e Q q =>
  h H1 e _ fun vs H2 e2 g2 => ⟨by rw [g2.length]; exact sz_of hz, fun l nl => q _ _ (e2.trans (Ex.new nl)) (.lst upd_same (g2.mono (Ex.new nl)))⟩
/-- a row of a family, that of the root and that of a child -/
theorem ex_rowR {φ : Int → Int} {r : Rw} {ad : Int} {t0 t1 t2 t3 t4 : TE} (hu : r.up = 1) (ha : adQ r = ad) (h0 : EvX t0 σ H (.int (φ r.n))) (h1 : EvX t1 σ H .none) (h2 : EvX t2 σ H (.int (φ r.s))) (h3 : EvX t3 σ H (.int (φ r.g))) (h4 : EvX t4 σ H (.int ad)) : EvX (tTup (tCons t0 (tCons t1 (tCons t2 (tCons t3 (tCons t4 tNil)))))) σ H (rowQ φ r) := by
  unfold rowQ
  rw [if_pos hu, ha]
  exact ex_tupA (xa_cons h0 (xa_cons h1 (xa_cons h2 (xa_cons h3 (xa_cons h4 xa_nil))))) (by show 5 ≤ 100000; decide)
theorem ex_rowC {φ : Int → Int} {r : Rw} {ad : Int} {t0 t1 t2 t3 t4 : TE} (hu : r.up ≠ 1) (ha : adQ r = ad) (h0 : EvX t0 σ H (.int (φ r.n))) (h1 : EvX t1 σ H (.int (φ r.up))) (h2 : EvX t2 σ H (.int (φ r.s))) (h3 : EvX t3 σ H (.int (φ r.g))) (h4 : EvX t4 σ H (.int ad)) : EvX (tTup (tCons t0 (tCons t1 (tCons t2 (tCons t3 (tCons t4 tNil)))))) σ H (rowQ φ r) := by
  unfold rowQ
  rw [if_neg hu, ha]
  exact ex_tupA (xa_cons h0 (xa_cons h1 (xa_cons h2 (xa_cons h3 (xa_cons h4 xa_nil))))) (by show 5 ≤ 100000; decide)
/-- xs + ys -/
theorem ex_catX (h : EvX ta σ H (.list ds)) (h2 : EvX tb σ H (.list es)) (hz : ds.length + es.length ≤ 100000) : EvX (tOp rCat ta tb) σ H (.list (ds ++ es)) := fun H1 e Q q =>
  h H1 e _ fun v H2 e2 g2 => h2 H2 (e.trans e2) _ fun u H3 e3 g3 => by
    have g2 := g2.mono e3
    cases g2 with
    | @lst a xs _ ga hx =>
      cases g3 with
      | @lst b ys _ gb hy =>
        have lx := hx.length
        have ly := hy.length
        exact ⟨a, b, xs, ys, rfl, rfl, ga, gb, sz_of (by omega), fun p np => q _ _ ((e2.trans e3).trans (Ex.new np)) (.lst upd_same ((hx.app hy).mono (Ex.new np)))⟩
/-- xs[0] -/
theorem ex_ix0 (h : Ev ta σ H v) (g : Dx H v (.list (d :: ds))) : EvX (tOp (rIxL K) ta (tC (.int 0))) σ H d := by
  cases g with
  | @lst a xs _ ga hx =>
    cases hx with
    | cons h0 _ => exact ev_x (ev_op h ev_c (rv_ix0 (sq_of ga))) h0
theorem q_par3X {d1 d2 d3 : PyData} {i j l : Nat} (h1 : EvX ta σ H d1) (h2 : EvX tb σ H d2) (h3 : EvX tc σ H d3) (k : ∀ v u z H1, Ex H H1 → Dx H1 v d1 → Dx H1 u d2 → Dx H1 z d3 → tz D (((σ.set i (some v)).set j (some u)).set l (some z)) H1) : tSeq (tPar3 i j l (tCons ta (tCons tb (tCons tc tNil)))) tz D σ H :=
  h1 H (Ex.refl H) _ fun v H1 e1 g1 => h2 H1 e1 _ fun u H2 e2 g2 => h3 H2 (e1.trans e2) _ fun z H3 e3 g3 => ⟨_, _, _, rfl, k v u z H3 (e1.trans (e2.trans e3)) (g1.mono (e2.trans e3)) (g2.mono e3) g3⟩
theorem ev_showsX {M : Fam} {d0 : PyData} {n : Nat} {b : Bool} (h : EvX ta σ H d0) (g : ∀ v G, Dx G v d0 → ImgAt G v M) (W : WF M) (h2 : EvX tb σ H d) (sh : Sh n d) (sp : SeqAt.shaped d = true) (hb : b = true ↔ Shows M d) : Ev (tCall spShowsB [] E0 (tCons ta (tCons tb tNil))) σ H (.bl b) := fun H1 e Q q =>
  h H1 e _ fun v H2 e2 gv => h2 H2 (e.trans e2) _ fun u H3 e3 g3 => ⟨v, M, u, d, n, rfl, (g v H2 gv).mono e3, W, g3, sh, sp, fun b' H' e4 hb' => by
    have : b' = b := by
      cases b with
      | true => exact hb'.mpr (hb.mp rfl)
      | false =>
        cases b' with
        | false => rfl
        | true => exact absurd (hb.mpr (hb'.mp rfl)) (by decide)
    rw [this]
    exact q H' (e2.trans (e3.trans e4))⟩
end
theorem map_int_inj {l m : List Int} (h : l.map PyData.int = m.map PyData.int) : l = m := by
  induction l generalizing m with
  | nil => cases m with
    | nil => rfl
    | cons b m => cases h
  | cons a l ih => cases m with
    | nil => cases h
    | cons b m =>
      rw [List.map_cons, List.map_cons] at h
      obtain ⟨h1, h2⟩ := List.cons.inj h
      injection h1 with h1
      rw [h1, ih h2]
theorem rsD_inj {r q : Rs} (h : rsD r = rsD q) : r = q := by
  cases r <;> cases q <;> simp [rsD] at h
  · rw [h.1, h.2]
  · rw [h]
  · rename_i a b
    rw [map_int_inj h]
theorem rnS_inj {φ : Int → Int} (R : Ren φ) {r q : Rs} (h : rnS φ r = rnS φ q) : r = q := by
  cases r <;> cases q <;> simp [rnS] at h
  · rw [R.inj h.1, R.inj h.2]
  · rw [R.inj h]
  · rename_i a b
    have : a = b := List.map_inj_right (fun x y e => R.inj e) |>.mp h
    rw [this]
theorem not_shows {φ : Int → Int} (R : Ren φ) {M : Fam} {r : Rs} (h : (reasons M).all (fun q => !decide (q = r)) = true) : false = true ↔ Shows (rnM φ M) (rsD (rnS φ r)) := by
  refine ⟨fun z => (by cases z), fun ⟨q, mq, e⟩ => ?_⟩
  rw [rn_reasons R] at mq
  obtain ⟨q', mq', rfl⟩ := List.mem_map.mp mq
  have e2 := rnS_inj R (rsD_inj e)
  have h2 := List.all_eq_true.mp h q' mq'
  rw [← e2] at h2
  simp at h2
end KB
set_option Elab.async false
set_option linter.all false
set_option maxRecDepth 100000
set_option maxHeartbeats 4000000
namespace KB
open PySem PySem.Spec PyProof.Rows L2 Evl
def cs_kledF : List FC := [([mk5 2 1 1 1 (0)], [], [], []), ([mk5 2 1 1 1 (0), mk5 3 2 3 3 (1)], [], [], []), ([mk5 2 1 2 2 (1), mk5 3 2 3 3 (0)], [], [], []), ([mk5 2 1 2 2 (1), mk5 3 2 3 3 (0), mk5 4 2 3 3 (0)], [], [], [3]), ([mk5 2 1 2 2 (1), mk5 3 2 3 3 (0), mk5 4 2 3 3 (0), mk5 5 3 3 3 (-1)], [], [], []), ([mk5 2 1 2 2 (1), mk5 3 2 3 3 (-1), mk5 4 2 3 3 (0)], [], [], []), ([mk5 2 1 2 2 (1), mk5 3 2 3 3 (0), mk5 4 2 3 7 (0)], [], [7], []), ([mk5 2 1 2 2 (1), mk5 3 2 3 3 (0), mk5 4 2 3 3 (0), mk5 5 3 3 7 (0)], [], [7], []), ([mk5 2 1 2 2 (1), mk5 3 2 3 3 (1), mk5 4 2 3 3 (0), mk5 5 3 3 3 (-1)], [], [], [3]), ([mk5 2 1 2 2 (1), mk5 3 2 3 3 (0), mk5 4 2 3 3 (0), mk5 5 3 3 3 (0), mk5 6 5 3 3 (-1)], [], [], []), ([mk5 2 1 2 2 (1), mk5 3 2 3 3 (0), mk5 4 2 3 3 (0), mk5 5 3 3 3 (1), mk5 6 5 3 3 (-1)], [], [], [3]), ([mk5 2 1 2 2 (1), mk5 3 2 3 3 (0), mk5 4 2 3 3 (0), mk5 5 4 3 5 (0), mk5 6 4 3 3 (-1)], [], [], [3])]
def cs_kledB : List BC := [([mk5 2 1 2 2 (0), mk5 3 2 3 3 (0), mk5 4 2 3 3 (0)], .session 3 4), ([mk5 2 1 2 2 (1), mk5 3 2 3 2 (0)], .session 3 3), ([mk5 2 1 2 2 (1), mk5 3 2 2 2 (1), mk5 4 3 4 4 (0), mk5 5 2 4 4 (0)], .session 4 5), ([mk5 2 1 2 2 (1), mk5 3 2 1 1 (0), mk5 4 3 1 1 (0)], .session 1 3), ([mk5 2 1 2 2 (1), mk5 3 2 2 2 (0), mk5 4 3 3 3 (0)], .session 3 3)]
abbrev sKled : Stmt := topS 41
abbrev nKled : List Str := ["_law_some", "_law_g", "_law_a", "_law_b", "_law_c", "_law_d", "_law_e", "_law_root", "_law_lead", "_law_top", "_law_free_here", "_law_barred_here"]
theorem scKled : FnScope nKled ["_law_some", "_law_g"] (defScope sKled) := ⟨rfl, rfl, rfl, by decide +kernel, rfl, by decide +kernel, by decide +kernel⟩
def spKled : Sp := fun vs H Q _ => ∃ (sa : Addr) (φ : Int → Int), vs = [.ref sa, .int (φ 7)] ∧ H sa = some (.lst [.int (φ 2), .int (φ 3), .int (φ 4), .int (φ 5), .int (φ 6)]) ∧ Ren φ ∧ φ 8 = 180 ∧ φ 9 = 181 ∧ φ 10 = 182 ∧ RetV (.bl true) H Q
section
variable {P : Program} {w : World} {K : PySem.W.Frag} {mg : Str → Option Value} {base : Heap} {f : Addr} {fd : FuncData}
theorem ok_kled (F : Fun K "_law_led_right" "_law_led_right" sKled f fd) (G__law_free : Kf P w K mg base 8 "_law_free" ["_law_cases"] spFree) (G__law_barred : Kf P w K mg base 8 "_law_barred" ["_law_cases"] spBarred) :
    FnOk P w K mg base CX0 9 f fd ["_law_some", "_law_g"] spKled := by
  refine F.ok scKled (fun vs H Q E h => ?_) (fun cdv A outer s H vs Q E hr h => ?_)
  · obtain ⟨sa, φ, rfl, _⟩ := h
    rfl
  · obtain ⟨sa, φ, rfl, gs, R, h8, h9, h10, q⟩ := h
    have nd := scKled.nd
    have hu := hu_of hr
    refine ⟨_, (pss_cons (ps_asg (pv 0) (pg_unl rfl (pgs_cons (pg_name (i := 2) nd rfl (by first | exact .inl rfl | exact .inr rfl)) (pgs_cons (pg_name (i := 3) nd rfl (by first | exact .inl rfl | exact .inr rfl)) (pgs_cons (pg_name (i := 4) nd rfl (by first | exact .inl rfl | exact .inr rfl)) (pgs_cons (pg_name (i := 5) nd rfl (by first | exact .inl rfl | exact .inr rfl)) (pgs_cons (pg_name (i := 6) nd rfl (by first | exact .inl rfl | exact .inr rfl)) pgs_nil)))))))
      (pss_cons (ps_par3 (i := 7) (j := 8) (l := 9) (by rfl) nd rfl rfl rfl (by decide) (by decide) (by decide) rfl rfl rfl (pa_cons (pe_tup (pa_cons (pv 2) (pa_cons pe_non (pa_cons (pv 2) (pa_cons (pv 2) (pa_cons pe_int pa_nil)))))) (pa_cons (pe_tup (pa_cons (pv 3) (pa_cons (pv 2) (pa_cons (pv 3) (pa_cons (pv 3) (pa_cons pe_int pa_nil)))))) (pa_cons (pe_tup (pa_cons (pv 4) (pa_cons (pv 2) (pa_cons (pv 3) (pa_cons (pv 3) (pa_cons pe_int pa_nil)))))) pa_nil))) (by rfl))
      (pss_cons (ps_set (i := 10) nd rfl (by first | exact .inl rfl | exact .inr rfl) (pe_lst (pa_cons (pe_tup (pa_cons (pe_lst (pa_cons (pe_tup (pa_cons (pv 2) (pa_cons pe_non (pa_cons pe_int (pa_cons pe_int (pa_cons pe_int pa_nil)))))) pa_nil)) (pa_cons (pe_tup (pa_cons (pe_lst pa_nil) (pa_cons (pe_lst pa_nil) (pa_cons (pe_lst pa_nil) pa_nil)))) pa_nil))) (pa_cons (pe_tup (pa_cons (pe_lst (pa_cons (pe_tup (pa_cons (pv 2) (pa_cons pe_non (pa_cons pe_int (pa_cons pe_int (pa_cons pe_int pa_nil)))))) (pa_cons (pe_tup (pa_cons (pv 3) (pa_cons (pv 2) (pa_cons (pv 3) (pa_cons (pv 3) (pa_cons pe_int pa_nil)))))) pa_nil))) (pa_cons (pe_tup (pa_cons (pe_lst pa_nil) (pa_cons (pe_lst pa_nil) (pa_cons (pe_lst pa_nil) pa_nil)))) pa_nil))) pa_nil))))
      (pss_cons (ps_set (i := 10) nd rfl (by first | exact .inl rfl | exact .inr rfl) (pe_op op_cat (pv 10) (pe_lst (pa_cons (pe_tup (pa_cons (pe_lst (pa_cons (pv 7) (pa_cons (pv 8) pa_nil))) (pa_cons (pe_tup (pa_cons (pe_lst pa_nil) (pa_cons (pe_lst pa_nil) (pa_cons (pe_lst pa_nil) pa_nil)))) pa_nil))) (pa_cons (pe_tup (pa_cons (pe_lst (pa_cons (pv 7) (pa_cons (pv 8) (pa_cons (pv 9) pa_nil)))) (pa_cons (pe_tup (pa_cons (pe_lst pa_nil) (pa_cons (pe_lst pa_nil) (pa_cons (pe_lst (pa_cons (pv 3) pa_nil)) pa_nil)))) pa_nil))) pa_nil)))))
      (pss_cons (ps_set (i := 10) nd rfl (by first | exact .inl rfl | exact .inr rfl) (pe_op op_cat (pv 10) (pe_lst (pa_cons (pe_tup (pa_cons (pe_lst (pa_cons (pv 7) (pa_cons (pv 8) (pa_cons (pv 9) (pa_cons (pe_tup (pa_cons (pv 5) (pa_cons (pv 3) (pa_cons (pv 3) (pa_cons (pv 3) (pa_cons (pe_un un_neg pe_int) pa_nil)))))) pa_nil))))) (pa_cons (pe_tup (pa_cons (pe_lst pa_nil) (pa_cons (pe_lst pa_nil) (pa_cons (pe_lst pa_nil) pa_nil)))) pa_nil))) (pa_cons (pe_tup (pa_cons (pe_lst (pa_cons (pv 7) (pa_cons (pe_tup (pa_cons (pv 3) (pa_cons (pv 2) (pa_cons (pv 3) (pa_cons (pv 3) (pa_cons (pe_un un_neg pe_int) pa_nil)))))) (pa_cons (pv 9) pa_nil)))) (pa_cons (pe_tup (pa_cons (pe_lst pa_nil) (pa_cons (pe_lst pa_nil) (pa_cons (pe_lst pa_nil) pa_nil)))) pa_nil))) pa_nil)))))
      (pss_cons (ps_set (i := 10) nd rfl (by first | exact .inl rfl | exact .inr rfl) (pe_op op_cat (pv 10) (pe_lst (pa_cons (pe_tup (pa_cons (pe_lst (pa_cons (pv 7) (pa_cons (pv 8) (pa_cons (pe_tup (pa_cons (pv 4) (pa_cons (pv 2) (pa_cons (pv 3) (pa_cons (pv 1) (pa_cons pe_int pa_nil)))))) pa_nil)))) (pa_cons (pe_tup (pa_cons (pe_lst pa_nil) (pa_cons (pe_lst (pa_cons (pv 1) pa_nil)) (pa_cons (pe_lst pa_nil) pa_nil)))) pa_nil))) (pa_cons (pe_tup (pa_cons (pe_lst (pa_cons (pv 7) (pa_cons (pv 8) (pa_cons (pv 9) (pa_cons (pe_tup (pa_cons (pv 5) (pa_cons (pv 3) (pa_cons (pv 3) (pa_cons (pv 1) (pa_cons pe_int pa_nil)))))) pa_nil))))) (pa_cons (pe_tup (pa_cons (pe_lst pa_nil) (pa_cons (pe_lst (pa_cons (pv 1) pa_nil)) (pa_cons (pe_lst pa_nil) pa_nil)))) pa_nil))) pa_nil)))))
      (pss_cons (ps_set (i := 10) nd rfl (by first | exact .inl rfl | exact .inr rfl) (pe_op op_cat (pv 10) (pe_lst (pa_cons (pe_tup (pa_cons (pe_lst (pa_cons (pv 7) (pa_cons (pe_tup (pa_cons (pv 3) (pa_cons (pv 2) (pa_cons (pv 3) (pa_cons (pv 3) (pa_cons pe_int pa_nil)))))) (pa_cons (pv 9) (pa_cons (pe_tup (pa_cons (pv 5) (pa_cons (pv 3) (pa_cons (pv 3) (pa_cons (pv 3) (pa_cons (pe_un un_neg pe_int) pa_nil)))))) pa_nil))))) (pa_cons (pe_tup (pa_cons (pe_lst pa_nil) (pa_cons (pe_lst pa_nil) (pa_cons (pe_lst (pa_cons (pv 3) pa_nil)) pa_nil)))) pa_nil))) pa_nil))))
      (pss_cons (ps_set (i := 10) nd rfl (by first | exact .inl rfl | exact .inr rfl) (pe_op op_cat (pv 10) (pe_lst (pa_cons (pe_tup (pa_cons (pe_lst (pa_cons (pv 7) (pa_cons (pv 8) (pa_cons (pv 9) (pa_cons (pe_tup (pa_cons (pv 5) (pa_cons (pv 3) (pa_cons (pv 3) (pa_cons (pv 3) (pa_cons pe_int pa_nil)))))) (pa_cons (pe_tup (pa_cons (pv 6) (pa_cons (pv 5) (pa_cons (pv 3) (pa_cons (pv 3) (pa_cons (pe_un un_neg pe_int) pa_nil)))))) pa_nil)))))) (pa_cons (pe_tup (pa_cons (pe_lst pa_nil) (pa_cons (pe_lst pa_nil) (pa_cons (pe_lst pa_nil) pa_nil)))) pa_nil))) pa_nil))))
      (pss_cons (ps_set (i := 10) nd rfl (by first | exact .inl rfl | exact .inr rfl) (pe_op op_cat (pv 10) (pe_lst (pa_cons (pe_tup (pa_cons (pe_lst (pa_cons (pv 7) (pa_cons (pv 8) (pa_cons (pv 9) (pa_cons (pe_tup (pa_cons (pv 5) (pa_cons (pv 3) (pa_cons (pv 3) (pa_cons (pv 3) (pa_cons pe_int pa_nil)))))) (pa_cons (pe_tup (pa_cons (pv 6) (pa_cons (pv 5) (pa_cons (pv 3) (pa_cons (pv 3) (pa_cons (pe_un un_neg pe_int) pa_nil)))))) pa_nil)))))) (pa_cons (pe_tup (pa_cons (pe_lst pa_nil) (pa_cons (pe_lst pa_nil) (pa_cons (pe_lst (pa_cons (pv 3) pa_nil)) pa_nil)))) pa_nil))) pa_nil))))
      (pss_cons (ps_set (i := 10) nd rfl (by first | exact .inl rfl | exact .inr rfl) (pe_op op_cat (pv 10) (pe_lst (pa_cons (pe_tup (pa_cons (pe_lst (pa_cons (pv 7) (pa_cons (pv 8) (pa_cons (pv 9) (pa_cons (pe_tup (pa_cons (pv 5) (pa_cons (pv 4) (pa_cons (pv 3) (pa_cons (pv 5) (pa_cons pe_int pa_nil)))))) (pa_cons (pe_tup (pa_cons (pv 6) (pa_cons (pv 4) (pa_cons (pv 3) (pa_cons (pv 3) (pa_cons (pe_un un_neg pe_int) pa_nil)))))) pa_nil)))))) (pa_cons (pe_tup (pa_cons (pe_lst pa_nil) (pa_cons (pe_lst pa_nil) (pa_cons (pe_lst (pa_cons (pv 3) pa_nil)) pa_nil)))) pa_nil))) pa_nil))))
      (pss_cons (ps_set (i := 11) nd rfl (by first | exact .inl rfl | exact .inr rfl) (pe_lst (pa_cons (pe_tup (pa_cons (pe_lst (pa_cons (pe_tup (pa_cons (pv 2) (pa_cons pe_non (pa_cons (pv 2) (pa_cons (pv 2) (pa_cons pe_int pa_nil)))))) (pa_cons (pv 8) (pa_cons (pv 9) pa_nil)))) (pa_cons (pe_tup (pa_cons pe_str (pa_cons (pv 3) (pa_cons (pv 4) pa_nil)))) pa_nil))) (pa_cons (pe_tup (pa_cons (pe_lst (pa_cons (pv 7) (pa_cons (pe_tup (pa_cons (pv 3) (pa_cons (pv 2) (pa_cons (pv 3) (pa_cons (pv 2) (pa_cons pe_int pa_nil)))))) pa_nil))) (pa_cons (pe_tup (pa_cons pe_str (pa_cons (pv 3) (pa_cons (pv 3) pa_nil)))) pa_nil))) pa_nil))))
      (pss_cons (ps_set (i := 11) nd rfl (by first | exact .inl rfl | exact .inr rfl) (pe_op op_cat (pv 11) (pe_lst (pa_cons (pe_tup (pa_cons (pe_lst (pa_cons (pv 7) (pa_cons (pe_tup (pa_cons (pv 3) (pa_cons (pv 2) (pa_cons (pv 2) (pa_cons (pv 2) (pa_cons pe_int pa_nil)))))) (pa_cons (pe_tup (pa_cons (pv 4) (pa_cons (pv 3) (pa_cons (pv 4) (pa_cons (pv 4) (pa_cons pe_int pa_nil)))))) (pa_cons (pe_tup (pa_cons (pv 5) (pa_cons (pv 2) (pa_cons (pv 4) (pa_cons (pv 4) (pa_cons pe_int pa_nil)))))) pa_nil))))) (pa_cons (pe_tup (pa_cons pe_str (pa_cons (pv 4) (pa_cons (pv 5) pa_nil)))) pa_nil))) pa_nil))))
      (pss_cons (ps_set (i := 11) nd rfl (by first | exact .inl rfl | exact .inr rfl) (pe_op op_cat (pv 11) (pe_lst (pa_cons (pe_tup (pa_cons (pe_lst (pa_cons (pv 7) (pa_cons (pe_tup (pa_cons (pv 3) (pa_cons (pv 2) (pa_cons pe_int (pa_cons pe_int (pa_cons pe_int pa_nil)))))) (pa_cons (pe_tup (pa_cons (pv 4) (pa_cons (pv 3) (pa_cons pe_int (pa_cons pe_int (pa_cons pe_int pa_nil)))))) pa_nil)))) (pa_cons (pe_tup (pa_cons pe_str (pa_cons pe_int (pa_cons (pv 3) pa_nil)))) pa_nil))) pa_nil))))
      (pss_cons (ps_set (i := 11) nd rfl (by first | exact .inl rfl | exact .inr rfl) (pe_op op_cat (pv 11) (pe_lst (pa_cons (pe_tup (pa_cons (pe_lst (pa_cons (pv 7) (pa_cons (pe_tup (pa_cons (pv 3) (pa_cons (pv 2) (pa_cons (pv 2) (pa_cons (pv 2) (pa_cons pe_int pa_nil)))))) (pa_cons (pe_tup (pa_cons (pv 4) (pa_cons (pv 3) (pa_cons (pv 3) (pa_cons (pv 3) (pa_cons pe_int pa_nil)))))) pa_nil)))) (pa_cons (pe_tup (pa_cons pe_str (pa_cons (pv 3) (pa_cons (pv 3) pa_nil)))) pa_nil))) pa_nil))))
      (pss_one (ps_ret (pe_and (pe_fn G__law_free (hr.mono (by decide)) (pa_cons (pv 10) pa_nil)) (pe_one (pe_fn G__law_barred (hr.mono (by decide)) (pa_cons (pv 11) pa_nil)))))))))))))))))))), ?_⟩
    refine ⟨_, rfl, sa, _, rfl, sq_of gs, rfl, _, _, rfl, _, _, rfl, _, _, rfl, _, _, rfl, _, _, rfl, rfl, ?_⟩
    show tSeq _ _ _ [some (.ref sa), some (.int (φ 7)), some (.int (φ 2)), some (.int (φ 3)), some (.int (φ 4)), some (.int (φ 5)), some (.int (φ 6)), none, none, none, none, none] H
    refine q_par3X (ex_rowR (r := mk5 2 1 2 2 (1)) (ad := 1) (by decide) (by decide) (ev_x (ev_var rfl) (.int _)) (ev_x ev_c .non) (ev_x (ev_var rfl) (.int _)) (ev_x (ev_var rfl) (.int _)) (ev_x ev_c (.int _))) (ex_rowC (r := mk5 3 2 3 3 (0)) (ad := 0) (by decide) (by decide) (ev_x (ev_var rfl) (.int _)) (ev_x (ev_var rfl) (.int _)) (ev_x (ev_var rfl) (.int _)) (ev_x (ev_var rfl) (.int _)) (ev_x ev_c (.int _))) (ex_rowC (r := mk5 4 2 3 3 (0)) (ad := 0) (by decide) (by decide) (ev_x (ev_var rfl) (.int _)) (ev_x (ev_var rfl) (.int _)) (ev_x (ev_var rfl) (.int _)) (ev_x (ev_var rfl) (.int _)) (ev_x ev_c (.int _))) fun v_law_root v_law_lead v_law_top H1 e1 g_law_root g_law_lead g_law_top => ?_
    show tSeq _ _ _ [some (.ref sa), some (.int (φ 7)), some (.int (φ 2)), some (.int (φ 3)), some (.int (φ 4)), some (.int (φ 5)), some (.int (φ 6)), some v_law_root, some v_law_lead, some v_law_top, none, none] H1
    refine q_asgX (ex_lstA (xa_cons (ex_tupA (xa_cons (ex_lstA (xa_cons (ex_rowR (r := mk5 2 1 1 1 (0)) (ad := 0) (by decide) (by decide) (ev_x (ev_var rfl) (.int _)) (ev_x ev_c .non) (ev_x ev_c (dx_one R)) (ev_x ev_c (dx_one R)) (ev_x ev_c (.int _))) xa_nil) (by show 1 ≤ 100000; decide)) (xa_cons (ex_tupA (xa_cons (ex_lstA xa_nil (by show 0 ≤ 100000; decide)) (xa_cons (ex_lstA xa_nil (by show 0 ≤ 100000; decide)) (xa_cons (ex_lstA xa_nil (by show 0 ≤ 100000; decide)) xa_nil))) (by show 3 ≤ 100000; decide)) xa_nil)) (by show 2 ≤ 100000; decide)) (xa_cons (ex_tupA (xa_cons (ex_lstA (xa_cons (ex_rowR (r := mk5 2 1 1 1 (0)) (ad := 0) (by decide) (by decide) (ev_x (ev_var rfl) (.int _)) (ev_x ev_c .non) (ev_x ev_c (dx_one R)) (ev_x ev_c (dx_one R)) (ev_x ev_c (.int _))) (xa_cons (ex_rowC (r := mk5 3 2 3 3 (1)) (ad := 1) (by decide) (by decide) (ev_x (ev_var rfl) (.int _)) (ev_x (ev_var rfl) (.int _)) (ev_x (ev_var rfl) (.int _)) (ev_x (ev_var rfl) (.int _)) (ev_x ev_c (.int _))) xa_nil)) (by show 2 ≤ 100000; decide)) (xa_cons (ex_tupA (xa_cons (ex_lstA xa_nil (by show 0 ≤ 100000; decide)) (xa_cons (ex_lstA xa_nil (by show 0 ≤ 100000; decide)) (xa_cons (ex_lstA xa_nil (by show 0 ≤ 100000; decide)) xa_nil))) (by show 3 ≤ 100000; decide)) xa_nil)) (by show 2 ≤ 100000; decide)) xa_nil)) (by show 2 ≤ 100000; decide)) fun v_law_free_here H2 e2 g_law_free_here => ?_
    replace g_law_root := g_law_root.mono e2
    replace g_law_lead := g_law_lead.mono e2
    replace g_law_top := g_law_top.mono e2
    show tSeq _ _ _ [some (.ref sa), some (.int (φ 7)), some (.int (φ 2)), some (.int (φ 3)), some (.int (φ 4)), some (.int (φ 5)), some (.int (φ 6)), some v_law_root, some v_law_lead, some v_law_top, some v_law_free_here, none] H2
    refine q_asgX (ex_catX (ev_x (ev_var rfl) g_law_free_here) (ex_lstA (xa_cons (ex_tupA (xa_cons (ex_lstA (xa_cons (ev_x (ev_var rfl) g_law_root) (xa_cons (ev_x (ev_var rfl) g_law_lead) xa_nil)) (by show 2 ≤ 100000; decide)) (xa_cons (ex_tupA (xa_cons (ex_lstA xa_nil (by show 0 ≤ 100000; decide)) (xa_cons (ex_lstA xa_nil (by show 0 ≤ 100000; decide)) (xa_cons (ex_lstA xa_nil (by show 0 ≤ 100000; decide)) xa_nil))) (by show 3 ≤ 100000; decide)) xa_nil)) (by show 2 ≤ 100000; decide)) (xa_cons (ex_tupA (xa_cons (ex_lstA (xa_cons (ev_x (ev_var rfl) g_law_root) (xa_cons (ev_x (ev_var rfl) g_law_lead) (xa_cons (ev_x (ev_var rfl) g_law_top) xa_nil))) (by show 3 ≤ 100000; decide)) (xa_cons (ex_tupA (xa_cons (ex_lstA xa_nil (by show 0 ≤ 100000; decide)) (xa_cons (ex_lstA xa_nil (by show 0 ≤ 100000; decide)) (xa_cons (ex_lstA (xa_cons (ev_x (ev_var rfl) (.int _)) xa_nil) (by show 1 ≤ 100000; decide)) xa_nil))) (by show 3 ≤ 100000; decide)) xa_nil)) (by show 2 ≤ 100000; decide)) xa_nil)) (by show 2 ≤ 100000; decide)) (by show 2 + 2 ≤ 100000; decide)) fun v_law_free_here H3 e3 g_law_free_here => ?_
    replace g_law_root := g_law_root.mono e3
    replace g_law_lead := g_law_lead.mono e3
    replace g_law_top := g_law_top.mono e3
    show tSeq _ _ _ [some (.ref sa), some (.int (φ 7)), some (.int (φ 2)), some (.int (φ 3)), some (.int (φ 4)), some (.int (φ 5)), some (.int (φ 6)), some v_law_root, some v_law_lead, some v_law_top, some v_law_free_here, none] H3
    refine q_asgX (ex_catX (ev_x (ev_var rfl) g_law_free_here) (ex_lstA (xa_cons (ex_tupA (xa_cons (ex_lstA (xa_cons (ev_x (ev_var rfl) g_law_root) (xa_cons (ev_x (ev_var rfl) g_law_lead) (xa_cons (ev_x (ev_var rfl) g_law_top) (xa_cons (ex_rowC (r := mk5 5 3 3 3 (-1)) (ad := -1) (by decide) (by decide) (ev_x (ev_var rfl) (.int _)) (ev_x (ev_var rfl) (.int _)) (ev_x (ev_var rfl) (.int _)) (ev_x (ev_var rfl) (.int _)) (ev_x (ev_un ev_c ru_neg) (.int _))) xa_nil)))) (by show 4 ≤ 100000; decide)) (xa_cons (ex_tupA (xa_cons (ex_lstA xa_nil (by show 0 ≤ 100000; decide)) (xa_cons (ex_lstA xa_nil (by show 0 ≤ 100000; decide)) (xa_cons (ex_lstA xa_nil (by show 0 ≤ 100000; decide)) xa_nil))) (by show 3 ≤ 100000; decide)) xa_nil)) (by show 2 ≤ 100000; decide)) (xa_cons (ex_tupA (xa_cons (ex_lstA (xa_cons (ev_x (ev_var rfl) g_law_root) (xa_cons (ex_rowC (r := mk5 3 2 3 3 (-1)) (ad := -1) (by decide) (by decide) (ev_x (ev_var rfl) (.int _)) (ev_x (ev_var rfl) (.int _)) (ev_x (ev_var rfl) (.int _)) (ev_x (ev_var rfl) (.int _)) (ev_x (ev_un ev_c ru_neg) (.int _))) (xa_cons (ev_x (ev_var rfl) g_law_top) xa_nil))) (by show 3 ≤ 100000; decide)) (xa_cons (ex_tupA (xa_cons (ex_lstA xa_nil (by show 0 ≤ 100000; decide)) (xa_cons (ex_lstA xa_nil (by show 0 ≤ 100000; decide)) (xa_cons (ex_lstA xa_nil (by show 0 ≤ 100000; decide)) xa_nil))) (by show 3 ≤ 100000; decide)) xa_nil)) (by show 2 ≤ 100000; decide)) xa_nil)) (by show 2 ≤ 100000; decide)) (by show 4 + 2 ≤ 100000; decide)) fun v_law_free_here H4 e4 g_law_free_here => ?_
    replace g_law_root := g_law_root.mono e4
    replace g_law_lead := g_law_lead.mono e4
    replace g_law_top := g_law_top.mono e4
    show tSeq _ _ _ [some (.ref sa), some (.int (φ 7)), some (.int (φ 2)), some (.int (φ 3)), some (.int (φ 4)), some (.int (φ 5)), some (.int (φ 6)), some v_law_root, some v_law_lead, some v_law_top, some v_law_free_here, none] H4
    refine q_asgX (ex_catX (ev_x (ev_var rfl) g_law_free_here) (ex_lstA (xa_cons (ex_tupA (xa_cons (ex_lstA (xa_cons (ev_x (ev_var rfl) g_law_root) (xa_cons (ev_x (ev_var rfl) g_law_lead) (xa_cons (ex_rowC (r := mk5 4 2 3 7 (0)) (ad := 0) (by decide) (by decide) (ev_x (ev_var rfl) (.int _)) (ev_x (ev_var rfl) (.int _)) (ev_x (ev_var rfl) (.int _)) (ev_x (ev_var rfl) (.int _)) (ev_x ev_c (.int _))) xa_nil))) (by show 3 ≤ 100000; decide)) (xa_cons (ex_tupA (xa_cons (ex_lstA xa_nil (by show 0 ≤ 100000; decide)) (xa_cons (ex_lstA (xa_cons (ev_x (ev_var rfl) (.int _)) xa_nil) (by show 1 ≤ 100000; decide)) (xa_cons (ex_lstA xa_nil (by show 0 ≤ 100000; decide)) xa_nil))) (by show 3 ≤ 100000; decide)) xa_nil)) (by show 2 ≤ 100000; decide)) (xa_cons (ex_tupA (xa_cons (ex_lstA (xa_cons (ev_x (ev_var rfl) g_law_root) (xa_cons (ev_x (ev_var rfl) g_law_lead) (xa_cons (ev_x (ev_var rfl) g_law_top) (xa_cons (ex_rowC (r := mk5 5 3 3 7 (0)) (ad := 0) (by decide) (by decide) (ev_x (ev_var rfl) (.int _)) (ev_x (ev_var rfl) (.int _)) (ev_x (ev_var rfl) (.int _)) (ev_x (ev_var rfl) (.int _)) (ev_x ev_c (.int _))) xa_nil)))) (by show 4 ≤ 100000; decide)) (xa_cons (ex_tupA (xa_cons (ex_lstA xa_nil (by show 0 ≤ 100000; decide)) (xa_cons (ex_lstA (xa_cons (ev_x (ev_var rfl) (.int _)) xa_nil) (by show 1 ≤ 100000; decide)) (xa_cons (ex_lstA xa_nil (by show 0 ≤ 100000; decide)) xa_nil))) (by show 3 ≤ 100000; decide)) xa_nil)) (by show 2 ≤ 100000; decide)) xa_nil)) (by show 2 ≤ 100000; decide)) (by show 6 + 2 ≤ 100000; decide)) fun v_law_free_here H5 e5 g_law_free_here => ?_
    replace g_law_root := g_law_root.mono e5
    replace g_law_lead := g_law_lead.mono e5
    replace g_law_top := g_law_top.mono e5
    show tSeq _ _ _ [some (.ref sa), some (.int (φ 7)), some (.int (φ 2)), some (.int (φ 3)), some (.int (φ 4)), some (.int (φ 5)), some (.int (φ 6)), some v_law_root, some v_law_lead, some v_law_top, some v_law_free_here, none] H5
    refine q_asgX (ex_catX (ev_x (ev_var rfl) g_law_free_here) (ex_lstA (xa_cons (ex_tupA (xa_cons (ex_lstA (xa_cons (ev_x (ev_var rfl) g_law_root) (xa_cons (ex_rowC (r := mk5 3 2 3 3 (1)) (ad := 1) (by decide) (by decide) (ev_x (ev_var rfl) (.int _)) (ev_x (ev_var rfl) (.int _)) (ev_x (ev_var rfl) (.int _)) (ev_x (ev_var rfl) (.int _)) (ev_x ev_c (.int _))) (xa_cons (ev_x (ev_var rfl) g_law_top) (xa_cons (ex_rowC (r := mk5 5 3 3 3 (-1)) (ad := -1) (by decide) (by decide) (ev_x (ev_var rfl) (.int _)) (ev_x (ev_var rfl) (.int _)) (ev_x (ev_var rfl) (.int _)) (ev_x (ev_var rfl) (.int _)) (ev_x (ev_un ev_c ru_neg) (.int _))) xa_nil)))) (by show 4 ≤ 100000; decide)) (xa_cons (ex_tupA (xa_cons (ex_lstA xa_nil (by show 0 ≤ 100000; decide)) (xa_cons (ex_lstA xa_nil (by show 0 ≤ 100000; decide)) (xa_cons (ex_lstA (xa_cons (ev_x (ev_var rfl) (.int _)) xa_nil) (by show 1 ≤ 100000; decide)) xa_nil))) (by show 3 ≤ 100000; decide)) xa_nil)) (by show 2 ≤ 100000; decide)) xa_nil) (by show 1 ≤ 100000; decide)) (by show 8 + 1 ≤ 100000; decide)) fun v_law_free_here H6 e6 g_law_free_here => ?_
    replace g_law_root := g_law_root.mono e6
    replace g_law_lead := g_law_lead.mono e6
    replace g_law_top := g_law_top.mono e6
    show tSeq _ _ _ [some (.ref sa), some (.int (φ 7)), some (.int (φ 2)), some (.int (φ 3)), some (.int (φ 4)), some (.int (φ 5)), some (.int (φ 6)), some v_law_root, some v_law_lead, some v_law_top, some v_law_free_here, none] H6
    refine q_asgX (ex_catX (ev_x (ev_var rfl) g_law_free_here) (ex_lstA (xa_cons (ex_tupA (xa_cons (ex_lstA (xa_cons (ev_x (ev_var rfl) g_law_root) (xa_cons (ev_x (ev_var rfl) g_law_lead) (xa_cons (ev_x (ev_var rfl) g_law_top) (xa_cons (ex_rowC (r := mk5 5 3 3 3 (0)) (ad := 0) (by decide) (by decide) (ev_x (ev_var rfl) (.int _)) (ev_x (ev_var rfl) (.int _)) (ev_x (ev_var rfl) (.int _)) (ev_x (ev_var rfl) (.int _)) (ev_x ev_c (.int _))) (xa_cons (ex_rowC (r := mk5 6 5 3 3 (-1)) (ad := -1) (by decide) (by decide) (ev_x (ev_var rfl) (.int _)) (ev_x (ev_var rfl) (.int _)) (ev_x (ev_var rfl) (.int _)) (ev_x (ev_var rfl) (.int _)) (ev_x (ev_un ev_c ru_neg) (.int _))) xa_nil))))) (by show 5 ≤ 100000; decide)) (xa_cons (ex_tupA (xa_cons (ex_lstA xa_nil (by show 0 ≤ 100000; decide)) (xa_cons (ex_lstA xa_nil (by show 0 ≤ 100000; decide)) (xa_cons (ex_lstA xa_nil (by show 0 ≤ 100000; decide)) xa_nil))) (by show 3 ≤ 100000; decide)) xa_nil)) (by show 2 ≤ 100000; decide)) xa_nil) (by show 1 ≤ 100000; decide)) (by show 9 + 1 ≤ 100000; decide)) fun v_law_free_here H7 e7 g_law_free_here => ?_
    replace g_law_root := g_law_root.mono e7
    replace g_law_lead := g_law_lead.mono e7
    replace g_law_top := g_law_top.mono e7
    show tSeq _ _ _ [some (.ref sa), some (.int (φ 7)), some (.int (φ 2)), some (.int (φ 3)), some (.int (φ 4)), some (.int (φ 5)), some (.int (φ 6)), some v_law_root, some v_law_lead, some v_law_top, some v_law_free_here, none] H7
    refine q_asgX (ex_catX (ev_x (ev_var rfl) g_law_free_here) (ex_lstA (xa_cons (ex_tupA (xa_cons (ex_lstA (xa_cons (ev_x (ev_var rfl) g_law_root) (xa_cons (ev_x (ev_var rfl) g_law_lead) (xa_cons (ev_x (ev_var rfl) g_law_top) (xa_cons (ex_rowC (r := mk5 5 3 3 3 (1)) (ad := 1) (by decide) (by decide) (ev_x (ev_var rfl) (.int _)) (ev_x (ev_var rfl) (.int _)) (ev_x (ev_var rfl) (.int _)) (ev_x (ev_var rfl) (.int _)) (ev_x ev_c (.int _))) (xa_cons (ex_rowC (r := mk5 6 5 3 3 (-1)) (ad := -1) (by decide) (by decide) (ev_x (ev_var rfl) (.int _)) (ev_x (ev_var rfl) (.int _)) (ev_x (ev_var rfl) (.int _)) (ev_x (ev_var rfl) (.int _)) (ev_x (ev_un ev_c ru_neg) (.int _))) xa_nil))))) (by show 5 ≤ 100000; decide)) (xa_cons (ex_tupA (xa_cons (ex_lstA xa_nil (by show 0 ≤ 100000; decide)) (xa_cons (ex_lstA xa_nil (by show 0 ≤ 100000; decide)) (xa_cons (ex_lstA (xa_cons (ev_x (ev_var rfl) (.int _)) xa_nil) (by show 1 ≤ 100000; decide)) xa_nil))) (by show 3 ≤ 100000; decide)) xa_nil)) (by show 2 ≤ 100000; decide)) xa_nil) (by show 1 ≤ 100000; decide)) (by show 10 + 1 ≤ 100000; decide)) fun v_law_free_here H8 e8 g_law_free_here => ?_
    replace g_law_root := g_law_root.mono e8
    replace g_law_lead := g_law_lead.mono e8
    replace g_law_top := g_law_top.mono e8
    show tSeq _ _ _ [some (.ref sa), some (.int (φ 7)), some (.int (φ 2)), some (.int (φ 3)), some (.int (φ 4)), some (.int (φ 5)), some (.int (φ 6)), some v_law_root, some v_law_lead, some v_law_top, some v_law_free_here, none] H8
    refine q_asgX (ex_catX (ev_x (ev_var rfl) g_law_free_here) (ex_lstA (xa_cons (ex_tupA (xa_cons (ex_lstA (xa_cons (ev_x (ev_var rfl) g_law_root) (xa_cons (ev_x (ev_var rfl) g_law_lead) (xa_cons (ev_x (ev_var rfl) g_law_top) (xa_cons (ex_rowC (r := mk5 5 4 3 5 (0)) (ad := 0) (by decide) (by decide) (ev_x (ev_var rfl) (.int _)) (ev_x (ev_var rfl) (.int _)) (ev_x (ev_var rfl) (.int _)) (ev_x (ev_var rfl) (.int _)) (ev_x ev_c (.int _))) (xa_cons (ex_rowC (r := mk5 6 4 3 3 (-1)) (ad := -1) (by decide) (by decide) (ev_x (ev_var rfl) (.int _)) (ev_x (ev_var rfl) (.int _)) (ev_x (ev_var rfl) (.int _)) (ev_x (ev_var rfl) (.int _)) (ev_x (ev_un ev_c ru_neg) (.int _))) xa_nil))))) (by show 5 ≤ 100000; decide)) (xa_cons (ex_tupA (xa_cons (ex_lstA xa_nil (by show 0 ≤ 100000; decide)) (xa_cons (ex_lstA xa_nil (by show 0 ≤ 100000; decide)) (xa_cons (ex_lstA (xa_cons (ev_x (ev_var rfl) (.int _)) xa_nil) (by show 1 ≤ 100000; decide)) xa_nil))) (by show 3 ≤ 100000; decide)) xa_nil)) (by show 2 ≤ 100000; decide)) xa_nil) (by show 1 ≤ 100000; decide)) (by show 11 + 1 ≤ 100000; decide)) fun v_law_free_here H9 e9 g_law_free_here => ?_
    replace g_law_root := g_law_root.mono e9
    replace g_law_lead := g_law_lead.mono e9
    replace g_law_top := g_law_top.mono e9
    show tSeq _ _ _ [some (.ref sa), some (.int (φ 7)), some (.int (φ 2)), some (.int (φ 3)), some (.int (φ 4)), some (.int (φ 5)), some (.int (φ 6)), some v_law_root, some v_law_lead, some v_law_top, some v_law_free_here, none] H9
    refine q_asgX (ex_lstA (xa_cons (ex_tupA (xa_cons (ex_lstA (xa_cons (ex_rowR (r := mk5 2 1 2 2 (0)) (ad := 0) (by decide) (by decide) (ev_x (ev_var rfl) (.int _)) (ev_x ev_c .non) (ev_x (ev_var rfl) (.int _)) (ev_x (ev_var rfl) (.int _)) (ev_x ev_c (.int _))) (xa_cons (ev_x (ev_var rfl) g_law_lead) (xa_cons (ev_x (ev_var rfl) g_law_top) xa_nil))) (by show 3 ≤ 100000; decide)) (xa_cons (ex_tupA (xa_cons (ev_x ev_c (.str _)) (xa_cons (ev_x (ev_var rfl) (.int _)) (xa_cons (ev_x (ev_var rfl) (.int _)) xa_nil))) (by show 3 ≤ 100000; decide)) xa_nil)) (by show 2 ≤ 100000; decide)) (xa_cons (ex_tupA (xa_cons (ex_lstA (xa_cons (ev_x (ev_var rfl) g_law_root) (xa_cons (ex_rowC (r := mk5 3 2 3 2 (0)) (ad := 0) (by decide) (by decide) (ev_x (ev_var rfl) (.int _)) (ev_x (ev_var rfl) (.int _)) (ev_x (ev_var rfl) (.int _)) (ev_x (ev_var rfl) (.int _)) (ev_x ev_c (.int _))) xa_nil)) (by show 2 ≤ 100000; decide)) (xa_cons (ex_tupA (xa_cons (ev_x ev_c (.str _)) (xa_cons (ev_x (ev_var rfl) (.int _)) (xa_cons (ev_x (ev_var rfl) (.int _)) xa_nil))) (by show 3 ≤ 100000; decide)) xa_nil)) (by show 2 ≤ 100000; decide)) xa_nil)) (by show 2 ≤ 100000; decide)) fun v_law_barred_here H10 e10 g_law_barred_here => ?_
    replace g_law_root := g_law_root.mono e10
    replace g_law_lead := g_law_lead.mono e10
    replace g_law_top := g_law_top.mono e10
    replace g_law_free_here := g_law_free_here.mono e10
    show tSeq _ _ _ [some (.ref sa), some (.int (φ 7)), some (.int (φ 2)), some (.int (φ 3)), some (.int (φ 4)), some (.int (φ 5)), some (.int (φ 6)), some v_law_root, some v_law_lead, some v_law_top, some v_law_free_here, some v_law_barred_here] H10
    refine q_asgX (ex_catX (ev_x (ev_var rfl) g_law_barred_here) (ex_lstA (xa_cons (ex_tupA (xa_cons (ex_lstA (xa_cons (ev_x (ev_var rfl) g_law_root) (xa_cons (ex_rowC (r := mk5 3 2 2 2 (1)) (ad := 1) (by decide) (by decide) (ev_x (ev_var rfl) (.int _)) (ev_x (ev_var rfl) (.int _)) (ev_x (ev_var rfl) (.int _)) (ev_x (ev_var rfl) (.int _)) (ev_x ev_c (.int _))) (xa_cons (ex_rowC (r := mk5 4 3 4 4 (0)) (ad := 0) (by decide) (by decide) (ev_x (ev_var rfl) (.int _)) (ev_x (ev_var rfl) (.int _)) (ev_x (ev_var rfl) (.int _)) (ev_x (ev_var rfl) (.int _)) (ev_x ev_c (.int _))) (xa_cons (ex_rowC (r := mk5 5 2 4 4 (0)) (ad := 0) (by decide) (by decide) (ev_x (ev_var rfl) (.int _)) (ev_x (ev_var rfl) (.int _)) (ev_x (ev_var rfl) (.int _)) (ev_x (ev_var rfl) (.int _)) (ev_x ev_c (.int _))) xa_nil)))) (by show 4 ≤ 100000; decide)) (xa_cons (ex_tupA (xa_cons (ev_x ev_c (.str _)) (xa_cons (ev_x (ev_var rfl) (.int _)) (xa_cons (ev_x (ev_var rfl) (.int _)) xa_nil))) (by show 3 ≤ 100000; decide)) xa_nil)) (by show 2 ≤ 100000; decide)) xa_nil) (by show 1 ≤ 100000; decide)) (by show 2 + 1 ≤ 100000; decide)) fun v_law_barred_here H11 e11 g_law_barred_here => ?_
    replace g_law_root := g_law_root.mono e11
    replace g_law_lead := g_law_lead.mono e11
    replace g_law_top := g_law_top.mono e11
    replace g_law_free_here := g_law_free_here.mono e11
    show tSeq _ _ _ [some (.ref sa), some (.int (φ 7)), some (.int (φ 2)), some (.int (φ 3)), some (.int (φ 4)), some (.int (φ 5)), some (.int (φ 6)), some v_law_root, some v_law_lead, some v_law_top, some v_law_free_here, some v_law_barred_here] H11
    refine q_asgX (ex_catX (ev_x (ev_var rfl) g_law_barred_here) (ex_lstA (xa_cons (ex_tupA (xa_cons (ex_lstA (xa_cons (ev_x (ev_var rfl) g_law_root) (xa_cons (ex_rowC (r := mk5 3 2 1 1 (0)) (ad := 0) (by decide) (by decide) (ev_x (ev_var rfl) (.int _)) (ev_x (ev_var rfl) (.int _)) (ev_x ev_c (dx_one R)) (ev_x ev_c (dx_one R)) (ev_x ev_c (.int _))) (xa_cons (ex_rowC (r := mk5 4 3 1 1 (0)) (ad := 0) (by decide) (by decide) (ev_x (ev_var rfl) (.int _)) (ev_x (ev_var rfl) (.int _)) (ev_x ev_c (dx_one R)) (ev_x ev_c (dx_one R)) (ev_x ev_c (.int _))) xa_nil))) (by show 3 ≤ 100000; decide)) (xa_cons (ex_tupA (xa_cons (ev_x ev_c (.str _)) (xa_cons (ev_x ev_c (dx_one R)) (xa_cons (ev_x (ev_var rfl) (.int _)) xa_nil))) (by show 3 ≤ 100000; decide)) xa_nil)) (by show 2 ≤ 100000; decide)) xa_nil) (by show 1 ≤ 100000; decide)) (by show 3 + 1 ≤ 100000; decide)) fun v_law_barred_here H12 e12 g_law_barred_here => ?_
    replace g_law_root := g_law_root.mono e12
    replace g_law_lead := g_law_lead.mono e12
    replace g_law_top := g_law_top.mono e12
    replace g_law_free_here := g_law_free_here.mono e12
    show tSeq _ _ _ [some (.ref sa), some (.int (φ 7)), some (.int (φ 2)), some (.int (φ 3)), some (.int (φ 4)), some (.int (φ 5)), some (.int (φ 6)), some v_law_root, some v_law_lead, some v_law_top, some v_law_free_here, some v_law_barred_here] H12
    refine q_asgX (ex_catX (ev_x (ev_var rfl) g_law_barred_here) (ex_lstA (xa_cons (ex_tupA (xa_cons (ex_lstA (xa_cons (ev_x (ev_var rfl) g_law_root) (xa_cons (ex_rowC (r := mk5 3 2 2 2 (0)) (ad := 0) (by decide) (by decide) (ev_x (ev_var rfl) (.int _)) (ev_x (ev_var rfl) (.int _)) (ev_x (ev_var rfl) (.int _)) (ev_x (ev_var rfl) (.int _)) (ev_x ev_c (.int _))) (xa_cons (ex_rowC (r := mk5 4 3 3 3 (0)) (ad := 0) (by decide) (by decide) (ev_x (ev_var rfl) (.int _)) (ev_x (ev_var rfl) (.int _)) (ev_x (ev_var rfl) (.int _)) (ev_x (ev_var rfl) (.int _)) (ev_x ev_c (.int _))) xa_nil))) (by show 3 ≤ 100000; decide)) (xa_cons (ex_tupA (xa_cons (ev_x ev_c (.str _)) (xa_cons (ev_x (ev_var rfl) (.int _)) (xa_cons (ev_x (ev_var rfl) (.int _)) xa_nil))) (by show 3 ≤ 100000; decide)) xa_nil)) (by show 2 ≤ 100000; decide)) xa_nil) (by show 1 ≤ 100000; decide)) (by show 4 + 1 ≤ 100000; decide)) fun v_law_barred_here H13 e13 g_law_barred_here => ?_
    replace g_law_root := g_law_root.mono e13
    replace g_law_lead := g_law_lead.mono e13
    replace g_law_top := g_law_top.mono e13
    replace g_law_free_here := g_law_free_here.mono e13
    show tRet _ _ [some (.ref sa), some (.int (φ 7)), some (.int (φ 2)), some (.int (φ 3)), some (.int (φ 4)), some (.int (φ 5)), some (.int (φ 6)), some v_law_root, some v_law_lead, some v_law_top, some v_law_free_here, some v_law_barred_here] H13
    have cF : SpV spFree ([v_law_free_here] ++ []) H13 (.bl true) := fun H0 e0 Q q E => ⟨_, φ, cs_kledF, rfl, (show Dx H13 _ (.list (cs_kledF.map (caseF φ))) from g_law_free_here).mono e0, R, by decide +kernel, q⟩
    have cB : SpV spBarred ([v_law_barred_here] ++ []) H13 (.bl true) := fun H0 e0 Q q E => ⟨_, φ, cs_kledB, rfl, (show Dx H13 _ (.list (cs_kledB.map (caseB φ))) from g_law_barred_here).mono e0, R, by decide +kernel, q⟩
    exact s_ret (ev_andV (ev_call (ea_cons (ev_var rfl) ea_nil) cF) fun _ => (ev_call (ea_cons (ev_var rfl) ea_nil) cB)) fun H0 e0 => q H0 (((((((((((((e1.trans e2).trans e3).trans e4).trans e5).trans e6).trans e7).trans e8).trans e9).trans e10).trans e11).trans e12).trans e13).trans e0)
end
end KB
set_option Elab.async false
set_option linter.all false
set_option maxRecDepth 100000
set_option maxHeartbeats 4000000
namespace KB
open PySem PySem.Spec PyProof.Rows L2 Evl
def cs_klostF : List FC := [([mk5 2 1 2 2 (1), mk5 3 2 7 7 (0), mk5 4 2 7 7 (0)], [7], [], []), ([mk5 2 1 7 7 (0), mk5 3 2 7 7 (1), mk5 4 3 7 3 (-1)], [7], [], []), ([mk5 2 1 2 2 (1), mk5 3 2 7 7 (0), mk5 4 2 7 7 (0), mk5 5 4 7 7 (0), mk5 6 5 6 6 (0)], [7], [], []), ([mk5 2 1 1 7 (0), mk5 3 2 1 7 (0)], [], [7], []), ([mk5 2 1 1 1 (0), mk5 3 2 1 2 (0)], [], [], [])]
def cs_klostB : List BC := [([mk5 2 1 2 2 (0), mk5 3 2 7 7 (0), mk5 4 2 7 7 (0)], .session 7 3), ([mk5 2 1 2 2 (1), mk5 3 2 7 7 (0), mk5 4 2 2 2 (1), mk5 5 4 7 7 (0)], .session 7 5), ([mk5 2 1 7 7 (1), mk5 3 2 3 3 (0), mk5 4 3 7 7 (0)], .session 7 4), ([mk5 2 1 2 2 (1), mk5 3 2 2 2 (0), mk5 4 3 7 7 (0)], .session 7 4), ([mk5 2 1 2 2 (1), mk5 3 2 3 3 (0), mk5 4 3 3 7 (0), mk5 5 2 2 7 (0)], .group 7), ([mk5 2 1 2 2 (1), mk5 3 2 3 3 (0), mk5 4 3 3 3 (0), mk5 5 2 2 4 (0)], .group 4), ([mk5 2 1 2 2 (1), mk5 3 2 3 3 (0), mk5 4 2 2 3 (0)], .group 3), ([mk5 2 1 2 2 (1), mk5 4 2 2 1 (0)], .group 1), ([mk5 2 1 2 2 (1), mk5 3 2 3 3 (0), mk5 4 3 3 2 (0)], .group 2), ([mk5 2 1 2 2 (1), mk5 3 2 7 7 (0), mk5 4 2 7 7 (0), mk5 5 2 2 7 (0)], .group 7)]
abbrev sKlost : Stmt := topS 42
abbrev nKlost : List Str := ["_law_some", "_law_g", "_law_a", "_law_b", "_law_c", "_law_d", "_law_e", "_law_root", "_law_plain", "_law_tops", "_law_free_here", "_law_barred_here", "_law_lead"]
theorem scKlost : FnScope nKlost ["_law_some", "_law_g"] (defScope sKlost) := ⟨rfl, rfl, rfl, by decide +kernel, rfl, by decide +kernel, by decide +kernel⟩
def spKlost : Sp := fun vs H Q _ => ∃ (sa : Addr) (φ : Int → Int), vs = [.ref sa, .int (φ 7)] ∧ H sa = some (.lst [.int (φ 2), .int (φ 3), .int (φ 4), .int (φ 5), .int (φ 6)]) ∧ Ren φ ∧ φ 8 = 180 ∧ φ 9 = 181 ∧ φ 10 = 182 ∧ RetV (.bl true) H Q
section
variable {P : Program} {w : World} {K : PySem.W.Frag} {mg : Str → Option Value} {base : Heap} {f : Addr} {fd : FuncData}
theorem ok_klost (F : Fun K "_law_lost_right" "_law_lost_right" sKlost f fd) (G__law_free : Kf P w K mg base 8 "_law_free" ["_law_cases"] spFree) (G__law_barred : Kf P w K mg base 8 "_law_barred" ["_law_cases"] spBarred) :
    FnOk P w K mg base CX0 9 f fd ["_law_some", "_law_g"] spKlost := by
  refine F.ok scKlost (fun vs H Q E h => ?_) (fun cdv A outer s H vs Q E hr h => ?_)
  · obtain ⟨sa, φ, rfl, _⟩ := h
    rfl
  · obtain ⟨sa, φ, rfl, gs, R, h8, h9, h10, q⟩ := h
    have nd := scKlost.nd
    have hu := hu_of hr
    refine ⟨_, (pss_cons (ps_asg (pv 0) (pg_unl rfl (pgs_cons (pg_name (i := 2) nd rfl (by first | exact .inl rfl | exact .inr rfl)) (pgs_cons (pg_name (i := 3) nd rfl (by first | exact .inl rfl | exact .inr rfl)) (pgs_cons (pg_name (i := 4) nd rfl (by first | exact .inl rfl | exact .inr rfl)) (pgs_cons (pg_name (i := 5) nd rfl (by first | exact .inl rfl | exact .inr rfl)) (pgs_cons (pg_name (i := 6) nd rfl (by first | exact .inl rfl | exact .inr rfl)) pgs_nil)))))))
      (pss_cons (ps_par (i := 7) (j := 8) (by rfl) nd rfl rfl (by decide) rfl rfl (pa_cons (pe_tup (pa_cons (pv 2) (pa_cons pe_non (pa_cons (pv 2) (pa_cons (pv 2) (pa_cons pe_int pa_nil)))))) (pa_cons (pe_tup (pa_cons (pv 2) (pa_cons pe_non (pa_cons (pv 2) (pa_cons (pv 2) (pa_cons pe_int pa_nil)))))) pa_nil)) (by rfl))
      (pss_cons (ps_set (i := 9) nd rfl (by first | exact .inl rfl | exact .inr rfl) (pe_lst (pa_cons (pe_tup (pa_cons (pv 3) (pa_cons (pv 2) (pa_cons (pv 1) (pa_cons (pv 1) (pa_cons pe_int pa_nil)))))) (pa_cons (pe_tup (pa_cons (pv 4) (pa_cons (pv 2) (pa_cons (pv 1) (pa_cons (pv 1) (pa_cons pe_int pa_nil)))))) pa_nil))))
      (pss_cons (ps_set (i := 10) nd rfl (by first | exact .inl rfl | exact .inr rfl) (pe_lst (pa_cons (pe_tup (pa_cons (pe_op op_cat (pe_lst (pa_cons (pv 7) pa_nil)) (pv 9)) (pa_cons (pe_tup (pa_cons (pe_lst (pa_cons (pv 1) pa_nil)) (pa_cons (pe_lst pa_nil) (pa_cons (pe_lst pa_nil) pa_nil)))) pa_nil))) (pa_cons (pe_tup (pa_cons (pe_lst (pa_cons (pe_tup (pa_cons (pv 2) (pa_cons pe_non (pa_cons (pv 1) (pa_cons (pv 1) (pa_cons pe_int pa_nil)))))) (pa_cons (pe_tup (pa_cons (pv 3) (pa_cons (pv 2) (pa_cons (pv 1) (pa_cons (pv 1) (pa_cons pe_int pa_nil)))))) (pa_cons (pe_tup (pa_cons (pv 4) (pa_cons (pv 3) (pa_cons (pv 1) (pa_cons (pv 3) (pa_cons (pe_un un_neg pe_int) pa_nil)))))) pa_nil)))) (pa_cons (pe_tup (pa_cons (pe_lst (pa_cons (pv 1) pa_nil)) (pa_cons (pe_lst pa_nil) (pa_cons (pe_lst pa_nil) pa_nil)))) pa_nil))) pa_nil))))
      (pss_cons (ps_set (i := 10) nd rfl (by first | exact .inl rfl | exact .inr rfl) (pe_op op_cat (pv 10) (pe_lst (pa_cons (pe_tup (pa_cons (pe_op op_cat (pe_op op_cat (pe_lst (pa_cons (pv 7) pa_nil)) (pv 9)) (pe_lst (pa_cons (pe_tup (pa_cons (pv 5) (pa_cons (pv 4) (pa_cons (pv 1) (pa_cons (pv 1) (pa_cons pe_int pa_nil)))))) (pa_cons (pe_tup (pa_cons (pv 6) (pa_cons (pv 5) (pa_cons (pv 6) (pa_cons (pv 6) (pa_cons pe_int pa_nil)))))) pa_nil)))) (pa_cons (pe_tup (pa_cons (pe_lst (pa_cons (pv 1) pa_nil)) (pa_cons (pe_lst pa_nil) (pa_cons (pe_lst pa_nil) pa_nil)))) pa_nil))) pa_nil))))
      (pss_cons (ps_set (i := 10) nd rfl (by first | exact .inl rfl | exact .inr rfl) (pe_op op_cat (pv 10) (pe_lst (pa_cons (pe_tup (pa_cons (pe_lst (pa_cons (pe_tup (pa_cons (pv 2) (pa_cons pe_non (pa_cons pe_int (pa_cons (pv 1) (pa_cons pe_int pa_nil)))))) (pa_cons (pe_tup (pa_cons (pv 3) (pa_cons (pv 2) (pa_cons pe_int (pa_cons (pv 1) (pa_cons pe_int pa_nil)))))) pa_nil))) (pa_cons (pe_tup (pa_cons (pe_lst pa_nil) (pa_cons (pe_lst (pa_cons (pv 1) pa_nil)) (pa_cons (pe_lst pa_nil) pa_nil)))) pa_nil))) pa_nil))))
      (pss_cons (ps_set (i := 10) nd rfl (by first | exact .inl rfl | exact .inr rfl) (pe_op op_cat (pv 10) (pe_lst (pa_cons (pe_tup (pa_cons (pe_lst (pa_cons (pe_tup (pa_cons (pv 2) (pa_cons pe_non (pa_cons pe_int (pa_cons pe_int (pa_cons pe_int pa_nil)))))) (pa_cons (pe_tup (pa_cons (pv 3) (pa_cons (pv 2) (pa_cons pe_int (pa_cons (pv 2) (pa_cons pe_int pa_nil)))))) pa_nil))) (pa_cons (pe_tup (pa_cons (pe_lst pa_nil) (pa_cons (pe_lst pa_nil) (pa_cons (pe_lst pa_nil) pa_nil)))) pa_nil))) pa_nil))))
      (pss_cons (ps_set (i := 11) nd rfl (by first | exact .inl rfl | exact .inr rfl) (pe_lst (pa_cons (pe_tup (pa_cons (pe_op op_cat (pe_lst (pa_cons (pv 8) pa_nil)) (pv 9)) (pa_cons (pe_tup (pa_cons pe_str (pa_cons (pv 1) (pa_cons (pv 3) pa_nil)))) pa_nil))) pa_nil)))
      (pss_cons (ps_set (i := 11) nd rfl (by first | exact .inl rfl | exact .inr rfl) (pe_op op_cat (pv 11) (pe_lst (pa_cons (pe_tup (pa_cons (pe_lst (pa_cons (pv 7) (pa_cons (pe_ix ix_list (pv 9) pe_int (fun _ _ => rfl)) (pa_cons (pe_tup (pa_cons (pv 4) (pa_cons (pv 2) (pa_cons (pv 2) (pa_cons (pv 2) (pa_cons pe_int pa_nil)))))) (pa_cons (pe_tup (pa_cons (pv 5) (pa_cons (pv 4) (pa_cons (pv 1) (pa_cons (pv 1) (pa_cons pe_int pa_nil)))))) pa_nil))))) (pa_cons (pe_tup (pa_cons pe_str (pa_cons (pv 1) (pa_cons (pv 5) pa_nil)))) pa_nil))) pa_nil))))
      (pss_cons (ps_set (i := 11) nd rfl (by first | exact .inl rfl | exact .inr rfl) (pe_op op_cat (pv 11) (pe_lst (pa_cons (pe_tup (pa_cons (pe_lst (pa_cons (pe_tup (pa_cons (pv 2) (pa_cons pe_non (pa_cons (pv 1) (pa_cons (pv 1) (pa_cons pe_int pa_nil)))))) (pa_cons (pe_tup (pa_cons (pv 3) (pa_cons (pv 2) (pa_cons (pv 3) (pa_cons (pv 3) (pa_cons pe_int pa_nil)))))) (pa_cons (pe_tup (pa_cons (pv 4) (pa_cons (pv 3) (pa_cons (pv 1) (pa_cons (pv 1) (pa_cons pe_int pa_nil)))))) pa_nil)))) (pa_cons (pe_tup (pa_cons pe_str (pa_cons (pv 1) (pa_cons (pv 4) pa_nil)))) pa_nil))) pa_nil))))
      (pss_cons (ps_set (i := 11) nd rfl (by first | exact .inl rfl | exact .inr rfl) (pe_op op_cat (pv 11) (pe_lst (pa_cons (pe_tup (pa_cons (pe_lst (pa_cons (pv 7) (pa_cons (pe_tup (pa_cons (pv 3) (pa_cons (pv 2) (pa_cons (pv 2) (pa_cons (pv 2) (pa_cons pe_int pa_nil)))))) (pa_cons (pe_tup (pa_cons (pv 4) (pa_cons (pv 3) (pa_cons (pv 1) (pa_cons (pv 1) (pa_cons pe_int pa_nil)))))) pa_nil)))) (pa_cons (pe_tup (pa_cons pe_str (pa_cons (pv 1) (pa_cons (pv 4) pa_nil)))) pa_nil))) pa_nil))))
      (pss_cons (ps_set (i := 12) nd rfl (by first | exact .inl rfl | exact .inr rfl) (pe_tup (pa_cons (pv 3) (pa_cons (pv 2) (pa_cons (pv 3) (pa_cons (pv 3) (pa_cons pe_int pa_nil)))))))
      (pss_cons (ps_set (i := 11) nd rfl (by first | exact .inl rfl | exact .inr rfl) (pe_op op_cat (pv 11) (pe_lst (pa_cons (pe_tup (pa_cons (pe_lst (pa_cons (pv 7) (pa_cons (pv 12) (pa_cons (pe_tup (pa_cons (pv 4) (pa_cons (pv 3) (pa_cons (pv 3) (pa_cons (pv 1) (pa_cons pe_int pa_nil)))))) (pa_cons (pe_tup (pa_cons (pv 5) (pa_cons (pv 2) (pa_cons (pv 2) (pa_cons (pv 1) (pa_cons pe_int pa_nil)))))) pa_nil))))) (pa_cons (pe_tup (pa_cons pe_str (pa_cons (pv 1) pa_nil))) pa_nil))) pa_nil))))
      (pss_cons (ps_set (i := 11) nd rfl (by first | exact .inl rfl | exact .inr rfl) (pe_op op_cat (pv 11) (pe_lst (pa_cons (pe_tup (pa_cons (pe_lst (pa_cons (pv 7) (pa_cons (pv 12) (pa_cons (pe_tup (pa_cons (pv 4) (pa_cons (pv 3) (pa_cons (pv 3) (pa_cons (pv 3) (pa_cons pe_int pa_nil)))))) (pa_cons (pe_tup (pa_cons (pv 5) (pa_cons (pv 2) (pa_cons (pv 2) (pa_cons (pv 4) (pa_cons pe_int pa_nil)))))) pa_nil))))) (pa_cons (pe_tup (pa_cons pe_str (pa_cons (pv 4) pa_nil))) pa_nil))) pa_nil))))
      (pss_cons (ps_set (i := 11) nd rfl (by first | exact .inl rfl | exact .inr rfl) (pe_op op_cat (pv 11) (pe_lst (pa_cons (pe_tup (pa_cons (pe_lst (pa_cons (pv 7) (pa_cons (pv 12) (pa_cons (pe_tup (pa_cons (pv 4) (pa_cons (pv 2) (pa_cons (pv 2) (pa_cons (pv 3) (pa_cons pe_int pa_nil)))))) pa_nil)))) (pa_cons (pe_tup (pa_cons pe_str (pa_cons (pv 3) pa_nil))) pa_nil))) (pa_cons (pe_tup (pa_cons (pe_lst (pa_cons (pv 7) (pa_cons (pe_tup (pa_cons (pv 4) (pa_cons (pv 2) (pa_cons (pv 2) (pa_cons pe_int (pa_cons pe_int pa_nil)))))) pa_nil))) (pa_cons (pe_tup (pa_cons pe_str (pa_cons pe_int pa_nil))) pa_nil))) pa_nil)))))
      (pss_cons (ps_set (i := 11) nd rfl (by first | exact .inl rfl | exact .inr rfl) (pe_op op_cat (pv 11) (pe_lst (pa_cons (pe_tup (pa_cons (pe_lst (pa_cons (pv 7) (pa_cons (pv 12) (pa_cons (pe_tup (pa_cons (pv 4) (pa_cons (pv 3) (pa_cons (pv 3) (pa_cons (pv 2) (pa_cons pe_int pa_nil)))))) pa_nil)))) (pa_cons (pe_tup (pa_cons pe_str (pa_cons (pv 2) pa_nil))) pa_nil))) (pa_cons (pe_tup (pa_cons (pe_op op_cat (pe_op op_cat (pe_lst (pa_cons (pv 7) pa_nil)) (pv 9)) (pe_lst (pa_cons (pe_tup (pa_cons (pv 5) (pa_cons (pv 2) (pa_cons (pv 2) (pa_cons (pv 1) (pa_cons pe_int pa_nil)))))) pa_nil))) (pa_cons (pe_tup (pa_cons pe_str (pa_cons (pv 1) pa_nil))) pa_nil))) pa_nil)))))
      (pss_one (ps_ret (pe_and (pe_fn G__law_free (hr.mono (by decide)) (pa_cons (pv 10) pa_nil)) (pe_one (pe_fn G__law_barred (hr.mono (by decide)) (pa_cons (pv 11) pa_nil)))))))))))))))))))))), ?_⟩
    refine ⟨_, rfl, sa, _, rfl, sq_of gs, rfl, _, _, rfl, _, _, rfl, _, _, rfl, _, _, rfl, _, _, rfl, rfl, ?_⟩
    show tSeq _ _ _ [some (.ref sa), some (.int (φ 7)), some (.int (φ 2)), some (.int (φ 3)), some (.int (φ 4)), some (.int (φ 5)), some (.int (φ 6)), none, none, none, none, none, none] H
    refine q_parXX (ex_rowR (r := mk5 2 1 2 2 (1)) (ad := 1) (by decide) (by decide) (ev_x (ev_var rfl) (.int _)) (ev_x ev_c .non) (ev_x (ev_var rfl) (.int _)) (ev_x (ev_var rfl) (.int _)) (ev_x ev_c (.int _))) (ex_rowR (r := mk5 2 1 2 2 (0)) (ad := 0) (by decide) (by decide) (ev_x (ev_var rfl) (.int _)) (ev_x ev_c .non) (ev_x (ev_var rfl) (.int _)) (ev_x (ev_var rfl) (.int _)) (ev_x ev_c (.int _))) fun v_law_root v_law_plain H1 e1 g_law_root g_law_plain => ?_
    show tSeq _ _ _ [some (.ref sa), some (.int (φ 7)), some (.int (φ 2)), some (.int (φ 3)), some (.int (φ 4)), some (.int (φ 5)), some (.int (φ 6)), some v_law_root, some v_law_plain, none, none, none, none] H1
    refine q_asgX (ex_lstA (xa_cons (ex_rowC (r := mk5 3 2 7 7 (0)) (ad := 0) (by decide) (by decide) (ev_x (ev_var rfl) (.int _)) (ev_x (ev_var rfl) (.int _)) (ev_x (ev_var rfl) (.int _)) (ev_x (ev_var rfl) (.int _)) (ev_x ev_c (.int _))) (xa_cons (ex_rowC (r := mk5 4 2 7 7 (0)) (ad := 0) (by decide) (by decide) (ev_x (ev_var rfl) (.int _)) (ev_x (ev_var rfl) (.int _)) (ev_x (ev_var rfl) (.int _)) (ev_x (ev_var rfl) (.int _)) (ev_x ev_c (.int _))) xa_nil)) (by show 2 ≤ 100000; decide)) fun v_law_tops H2 e2 g_law_tops => ?_
    replace g_law_root := g_law_root.mono e2
    replace g_law_plain := g_law_plain.mono e2
    show tSeq _ _ _ [some (.ref sa), some (.int (φ 7)), some (.int (φ 2)), some (.int (φ 3)), some (.int (φ 4)), some (.int (φ 5)), some (.int (φ 6)), some v_law_root, some v_law_plain, some v_law_tops, none, none, none] H2
    refine q_asgX (ex_lstA (xa_cons (ex_tupA (xa_cons (ex_catX (ex_lstA (xa_cons (ev_x (ev_var rfl) g_law_root) xa_nil) (by show 1 ≤ 100000; decide)) (ev_x (ev_var rfl) g_law_tops) (by show 1 + 2 ≤ 100000; decide)) (xa_cons (ex_tupA (xa_cons (ex_lstA (xa_cons (ev_x (ev_var rfl) (.int _)) xa_nil) (by show 1 ≤ 100000; decide)) (xa_cons (ex_lstA xa_nil (by show 0 ≤ 100000; decide)) (xa_cons (ex_lstA xa_nil (by show 0 ≤ 100000; decide)) xa_nil))) (by show 3 ≤ 100000; decide)) xa_nil)) (by show 2 ≤ 100000; decide)) (xa_cons (ex_tupA (xa_cons (ex_lstA (xa_cons (ex_rowR (r := mk5 2 1 7 7 (0)) (ad := 0) (by decide) (by decide) (ev_x (ev_var rfl) (.int _)) (ev_x ev_c .non) (ev_x (ev_var rfl) (.int _)) (ev_x (ev_var rfl) (.int _)) (ev_x ev_c (.int _))) (xa_cons (ex_rowC (r := mk5 3 2 7 7 (1)) (ad := 1) (by decide) (by decide) (ev_x (ev_var rfl) (.int _)) (ev_x (ev_var rfl) (.int _)) (ev_x (ev_var rfl) (.int _)) (ev_x (ev_var rfl) (.int _)) (ev_x ev_c (.int _))) (xa_cons (ex_rowC (r := mk5 4 3 7 3 (-1)) (ad := -1) (by decide) (by decide) (ev_x (ev_var rfl) (.int _)) (ev_x (ev_var rfl) (.int _)) (ev_x (ev_var rfl) (.int _)) (ev_x (ev_var rfl) (.int _)) (ev_x (ev_un ev_c ru_neg) (.int _))) xa_nil))) (by show 3 ≤ 100000; decide)) (xa_cons (ex_tupA (xa_cons (ex_lstA (xa_cons (ev_x (ev_var rfl) (.int _)) xa_nil) (by show 1 ≤ 100000; decide)) (xa_cons (ex_lstA xa_nil (by show 0 ≤ 100000; decide)) (xa_cons (ex_lstA xa_nil (by show 0 ≤ 100000; decide)) xa_nil))) (by show 3 ≤ 100000; decide)) xa_nil)) (by show 2 ≤ 100000; decide)) xa_nil)) (by show 2 ≤ 100000; decide)) fun v_law_free_here H3 e3 g_law_free_here => ?_
    replace g_law_root := g_law_root.mono e3
    replace g_law_plain := g_law_plain.mono e3
    replace g_law_tops := g_law_tops.mono e3
    show tSeq _ _ _ [some (.ref sa), some (.int (φ 7)), some (.int (φ 2)), some (.int (φ 3)), some (.int (φ 4)), some (.int (φ 5)), some (.int (φ 6)), some v_law_root, some v_law_plain, some v_law_tops, some v_law_free_here, none, none] H3
    refine q_asgX (ex_catX (ev_x (ev_var rfl) g_law_free_here) (ex_lstA (xa_cons (ex_tupA (xa_cons (ex_catX (ex_catX (ex_lstA (xa_cons (ev_x (ev_var rfl) g_law_root) xa_nil) (by show 1 ≤ 100000; decide)) (ev_x (ev_var rfl) g_law_tops) (by show 1 + 2 ≤ 100000; decide)) (ex_lstA (xa_cons (ex_rowC (r := mk5 5 4 7 7 (0)) (ad := 0) (by decide) (by decide) (ev_x (ev_var rfl) (.int _)) (ev_x (ev_var rfl) (.int _)) (ev_x (ev_var rfl) (.int _)) (ev_x (ev_var rfl) (.int _)) (ev_x ev_c (.int _))) (xa_cons (ex_rowC (r := mk5 6 5 6 6 (0)) (ad := 0) (by decide) (by decide) (ev_x (ev_var rfl) (.int _)) (ev_x (ev_var rfl) (.int _)) (ev_x (ev_var rfl) (.int _)) (ev_x (ev_var rfl) (.int _)) (ev_x ev_c (.int _))) xa_nil)) (by show 2 ≤ 100000; decide)) (by show 3 + 2 ≤ 100000; decide)) (xa_cons (ex_tupA (xa_cons (ex_lstA (xa_cons (ev_x (ev_var rfl) (.int _)) xa_nil) (by show 1 ≤ 100000; decide)) (xa_cons (ex_lstA xa_nil (by show 0 ≤ 100000; decide)) (xa_cons (ex_lstA xa_nil (by show 0 ≤ 100000; decide)) xa_nil))) (by show 3 ≤ 100000; decide)) xa_nil)) (by show 2 ≤ 100000; decide)) xa_nil) (by show 1 ≤ 100000; decide)) (by show 2 + 1 ≤ 100000; decide)) fun v_law_free_here H4 e4 g_law_free_here => ?_
    replace g_law_root := g_law_root.mono e4
    replace g_law_plain := g_law_plain.mono e4
    replace g_law_tops := g_law_tops.mono e4
    show tSeq _ _ _ [some (.ref sa), some (.int (φ 7)), some (.int (φ 2)), some (.int (φ 3)), some (.int (φ 4)), some (.int (φ 5)), some (.int (φ 6)), some v_law_root, some v_law_plain, some v_law_tops, some v_law_free_here, none, none] H4
    refine q_asgX (ex_catX (ev_x (ev_var rfl) g_law_free_here) (ex_lstA (xa_cons (ex_tupA (xa_cons (ex_lstA (xa_cons (ex_rowR (r := mk5 2 1 1 7 (0)) (ad := 0) (by decide) (by decide) (ev_x (ev_var rfl) (.int _)) (ev_x ev_c .non) (ev_x ev_c (dx_one R)) (ev_x (ev_var rfl) (.int _)) (ev_x ev_c (.int _))) (xa_cons (ex_rowC (r := mk5 3 2 1 7 (0)) (ad := 0) (by decide) (by decide) (ev_x (ev_var rfl) (.int _)) (ev_x (ev_var rfl) (.int _)) (ev_x ev_c (dx_one R)) (ev_x (ev_var rfl) (.int _)) (ev_x ev_c (.int _))) xa_nil)) (by show 2 ≤ 100000; decide)) (xa_cons (ex_tupA (xa_cons (ex_lstA xa_nil (by show 0 ≤ 100000; decide)) (xa_cons (ex_lstA (xa_cons (ev_x (ev_var rfl) (.int _)) xa_nil) (by show 1 ≤ 100000; decide)) (xa_cons (ex_lstA xa_nil (by show 0 ≤ 100000; decide)) xa_nil))) (by show 3 ≤ 100000; decide)) xa_nil)) (by show 2 ≤ 100000; decide)) xa_nil) (by show 1 ≤ 100000; decide)) (by show 3 + 1 ≤ 100000; decide)) fun v_law_free_here H5 e5 g_law_free_here => ?_
    replace g_law_root := g_law_root.mono e5
    replace g_law_plain := g_law_plain.mono e5
    replace g_law_tops := g_law_tops.mono e5
    show tSeq _ _ _ [some (.ref sa), some (.int (φ 7)), some (.int (φ 2)), some (.int (φ 3)), some (.int (φ 4)), some (.int (φ 5)), some (.int (φ 6)), some v_law_root, some v_law_plain, some v_law_tops, some v_law_free_here, none, none] H5
    refine q_asgX (ex_catX (ev_x (ev_var rfl) g_law_free_here) (ex_lstA (xa_cons (ex_tupA (xa_cons (ex_lstA (xa_cons (ex_rowR (r := mk5 2 1 1 1 (0)) (ad := 0) (by decide) (by decide) (ev_x (ev_var rfl) (.int _)) (ev_x ev_c .non) (ev_x ev_c (dx_one R)) (ev_x ev_c (dx_one R)) (ev_x ev_c (.int _))) (xa_cons (ex_rowC (r := mk5 3 2 1 2 (0)) (ad := 0) (by decide) (by decide) (ev_x (ev_var rfl) (.int _)) (ev_x (ev_var rfl) (.int _)) (ev_x ev_c (dx_one R)) (ev_x (ev_var rfl) (.int _)) (ev_x ev_c (.int _))) xa_nil)) (by show 2 ≤ 100000; decide)) (xa_cons (ex_tupA (xa_cons (ex_lstA xa_nil (by show 0 ≤ 100000; decide)) (xa_cons (ex_lstA xa_nil (by show 0 ≤ 100000; decide)) (xa_cons (ex_lstA xa_nil (by show 0 ≤ 100000; decide)) xa_nil))) (by show 3 ≤ 100000; decide)) xa_nil)) (by show 2 ≤ 100000; decide)) xa_nil) (by show 1 ≤ 100000; decide)) (by show 4 + 1 ≤ 100000; decide)) fun v_law_free_here H6 e6 g_law_free_here => ?_
    replace g_law_root := g_law_root.mono e6
    replace g_law_plain := g_law_plain.mono e6
    replace g_law_tops := g_law_tops.mono e6
    show tSeq _ _ _ [some (.ref sa), some (.int (φ 7)), some (.int (φ 2)), some (.int (φ 3)), some (.int (φ 4)), some (.int (φ 5)), some (.int (φ 6)), some v_law_root, some v_law_plain, some v_law_tops, some v_law_free_here, none, none] H6
    refine q_asgX (ex_lstA (xa_cons (ex_tupA (xa_cons (ex_catX (ex_lstA (xa_cons (ev_x (ev_var rfl) g_law_plain) xa_nil) (by show 1 ≤ 100000; decide)) (ev_x (ev_var rfl) g_law_tops) (by show 1 + 2 ≤ 100000; decide)) (xa_cons (ex_tupA (xa_cons (ev_x ev_c (.str _)) (xa_cons (ev_x (ev_var rfl) (.int _)) (xa_cons (ev_x (ev_var rfl) (.int _)) xa_nil))) (by show 3 ≤ 100000; decide)) xa_nil)) (by show 2 ≤ 100000; decide)) xa_nil) (by show 1 ≤ 100000; decide)) fun v_law_barred_here H7 e7 g_law_barred_here => ?_
    replace g_law_root := g_law_root.mono e7
    replace g_law_plain := g_law_plain.mono e7
    replace g_law_tops := g_law_tops.mono e7
    replace g_law_free_here := g_law_free_here.mono e7
    show tSeq _ _ _ [some (.ref sa), some (.int (φ 7)), some (.int (φ 2)), some (.int (φ 3)), some (.int (φ 4)), some (.int (φ 5)), some (.int (φ 6)), some v_law_root, some v_law_plain, some v_law_tops, some v_law_free_here, some v_law_barred_here, none] H7
    refine q_asgX (ex_catX (ev_x (ev_var rfl) g_law_barred_here) (ex_lstA (xa_cons (ex_tupA (xa_cons (ex_lstA (xa_cons (ev_x (ev_var rfl) g_law_root) (xa_cons (ex_ix0 (ev_var rfl) g_law_tops) (xa_cons (ex_rowC (r := mk5 4 2 2 2 (1)) (ad := 1) (by decide) (by decide) (ev_x (ev_var rfl) (.int _)) (ev_x (ev_var rfl) (.int _)) (ev_x (ev_var rfl) (.int _)) (ev_x (ev_var rfl) (.int _)) (ev_x ev_c (.int _))) (xa_cons (ex_rowC (r := mk5 5 4 7 7 (0)) (ad := 0) (by decide) (by decide) (ev_x (ev_var rfl) (.int _)) (ev_x (ev_var rfl) (.int _)) (ev_x (ev_var rfl) (.int _)) (ev_x (ev_var rfl) (.int _)) (ev_x ev_c (.int _))) xa_nil)))) (by show 4 ≤ 100000; decide)) (xa_cons (ex_tupA (xa_cons (ev_x ev_c (.str _)) (xa_cons (ev_x (ev_var rfl) (.int _)) (xa_cons (ev_x (ev_var rfl) (.int _)) xa_nil))) (by show 3 ≤ 100000; decide)) xa_nil)) (by show 2 ≤ 100000; decide)) xa_nil) (by show 1 ≤ 100000; decide)) (by show 1 + 1 ≤ 100000; decide)) fun v_law_barred_here H8 e8 g_law_barred_here => ?_
    replace g_law_root := g_law_root.mono e8
    replace g_law_plain := g_law_plain.mono e8
    replace g_law_tops := g_law_tops.mono e8
    replace g_law_free_here := g_law_free_here.mono e8
    show tSeq _ _ _ [some (.ref sa), some (.int (φ 7)), some (.int (φ 2)), some (.int (φ 3)), some (.int (φ 4)), some (.int (φ 5)), some (.int (φ 6)), some v_law_root, some v_law_plain, some v_law_tops, some v_law_free_here, some v_law_barred_here, none] H8
    refine q_asgX (ex_catX (ev_x (ev_var rfl) g_law_barred_here) (ex_lstA (xa_cons (ex_tupA (xa_cons (ex_lstA (xa_cons (ex_rowR (r := mk5 2 1 7 7 (1)) (ad := 1) (by decide) (by decide) (ev_x (ev_var rfl) (.int _)) (ev_x ev_c .non) (ev_x (ev_var rfl) (.int _)) (ev_x (ev_var rfl) (.int _)) (ev_x ev_c (.int _))) (xa_cons (ex_rowC (r := mk5 3 2 3 3 (0)) (ad := 0) (by decide) (by decide) (ev_x (ev_var rfl) (.int _)) (ev_x (ev_var rfl) (.int _)) (ev_x (ev_var rfl) (.int _)) (ev_x (ev_var rfl) (.int _)) (ev_x ev_c (.int _))) (xa_cons (ex_rowC (r := mk5 4 3 7 7 (0)) (ad := 0) (by decide) (by decide) (ev_x (ev_var rfl) (.int _)) (ev_x (ev_var rfl) (.int _)) (ev_x (ev_var rfl) (.int _)) (ev_x (ev_var rfl) (.int _)) (ev_x ev_c (.int _))) xa_nil))) (by show 3 ≤ 100000; decide)) (xa_cons (ex_tupA (xa_cons (ev_x ev_c (.str _)) (xa_cons (ev_x (ev_var rfl) (.int _)) (xa_cons (ev_x (ev_var rfl) (.int _)) xa_nil))) (by show 3 ≤ 100000; decide)) xa_nil)) (by show 2 ≤ 100000; decide)) xa_nil) (by show 1 ≤ 100000; decide)) (by show 2 + 1 ≤ 100000; decide)) fun v_law_barred_here H9 e9 g_law_barred_here => ?_
    replace g_law_root := g_law_root.mono e9
    replace g_law_plain := g_law_plain.mono e9
    replace g_law_tops := g_law_tops.mono e9
    replace g_law_free_here := g_law_free_here.mono e9
    show tSeq _ _ _ [some (.ref sa), some (.int (φ 7)), some (.int (φ 2)), some (.int (φ 3)), some (.int (φ 4)), some (.int (φ 5)), some (.int (φ 6)), some v_law_root, some v_law_plain, some v_law_tops, some v_law_free_here, some v_law_barred_here, none] H9
    refine q_asgX (ex_catX (ev_x (ev_var rfl) g_law_barred_here) (ex_lstA (xa_cons (ex_tupA (xa_cons (ex_lstA (xa_cons (ev_x (ev_var rfl) g_law_root) (xa_cons (ex_rowC (r := mk5 3 2 2 2 (0)) (ad := 0) (by decide) (by decide) (ev_x (ev_var rfl) (.int _)) (ev_x (ev_var rfl) (.int _)) (ev_x (ev_var rfl) (.int _)) (ev_x (ev_var rfl) (.int _)) (ev_x ev_c (.int _))) (xa_cons (ex_rowC (r := mk5 4 3 7 7 (0)) (ad := 0) (by decide) (by decide) (ev_x (ev_var rfl) (.int _)) (ev_x (ev_var rfl) (.int _)) (ev_x (ev_var rfl) (.int _)) (ev_x (ev_var rfl) (.int _)) (ev_x ev_c (.int _))) xa_nil))) (by show 3 ≤ 100000; decide)) (xa_cons (ex_tupA (xa_cons (ev_x ev_c (.str _)) (xa_cons (ev_x (ev_var rfl) (.int _)) (xa_cons (ev_x (ev_var rfl) (.int _)) xa_nil))) (by show 3 ≤ 100000; decide)) xa_nil)) (by show 2 ≤ 100000; decide)) xa_nil) (by show 1 ≤ 100000; decide)) (by show 3 + 1 ≤ 100000; decide)) fun v_law_barred_here H10 e10 g_law_barred_here => ?_
    replace g_law_root := g_law_root.mono e10
    replace g_law_plain := g_law_plain.mono e10
    replace g_law_tops := g_law_tops.mono e10
    replace g_law_free_here := g_law_free_here.mono e10
    show tSeq _ _ _ [some (.ref sa), some (.int (φ 7)), some (.int (φ 2)), some (.int (φ 3)), some (.int (φ 4)), some (.int (φ 5)), some (.int (φ 6)), some v_law_root, some v_law_plain, some v_law_tops, some v_law_free_here, some v_law_barred_here, none] H10
    refine q_asgX (ex_rowC (r := mk5 3 2 3 3 (0)) (ad := 0) (by decide) (by decide) (ev_x (ev_var rfl) (.int _)) (ev_x (ev_var rfl) (.int _)) (ev_x (ev_var rfl) (.int _)) (ev_x (ev_var rfl) (.int _)) (ev_x ev_c (.int _))) fun v_law_lead H11 e11 g_law_lead => ?_
    replace g_law_root := g_law_root.mono e11
    replace g_law_plain := g_law_plain.mono e11
    replace g_law_tops := g_law_tops.mono e11
    replace g_law_free_here := g_law_free_here.mono e11
    replace g_law_barred_here := g_law_barred_here.mono e11
    show tSeq _ _ _ [some (.ref sa), some (.int (φ 7)), some (.int (φ 2)), some (.int (φ 3)), some (.int (φ 4)), some (.int (φ 5)), some (.int (φ 6)), some v_law_root, some v_law_plain, some v_law_tops, some v_law_free_here, some v_law_barred_here, some v_law_lead] H11
    refine q_asgX (ex_catX (ev_x (ev_var rfl) g_law_barred_here) (ex_lstA (xa_cons (ex_tupA (xa_cons (ex_lstA (xa_cons (ev_x (ev_var rfl) g_law_root) (xa_cons (ev_x (ev_var rfl) g_law_lead) (xa_cons (ex_rowC (r := mk5 4 3 3 7 (0)) (ad := 0) (by decide) (by decide) (ev_x (ev_var rfl) (.int _)) (ev_x (ev_var rfl) (.int _)) (ev_x (ev_var rfl) (.int _)) (ev_x (ev_var rfl) (.int _)) (ev_x ev_c (.int _))) (xa_cons (ex_rowC (r := mk5 5 2 2 7 (0)) (ad := 0) (by decide) (by decide) (ev_x (ev_var rfl) (.int _)) (ev_x (ev_var rfl) (.int _)) (ev_x (ev_var rfl) (.int _)) (ev_x (ev_var rfl) (.int _)) (ev_x ev_c (.int _))) xa_nil)))) (by show 4 ≤ 100000; decide)) (xa_cons (ex_tupA (xa_cons (ev_x ev_c (.str _)) (xa_cons (ev_x (ev_var rfl) (.int _)) xa_nil)) (by show 2 ≤ 100000; decide)) xa_nil)) (by show 2 ≤ 100000; decide)) xa_nil) (by show 1 ≤ 100000; decide)) (by show 4 + 1 ≤ 100000; decide)) fun v_law_barred_here H12 e12 g_law_barred_here => ?_
    replace g_law_root := g_law_root.mono e12
    replace g_law_plain := g_law_plain.mono e12
    replace g_law_tops := g_law_tops.mono e12
    replace g_law_free_here := g_law_free_here.mono e12
    replace g_law_lead := g_law_lead.mono e12
    show tSeq _ _ _ [some (.ref sa), some (.int (φ 7)), some (.int (φ 2)), some (.int (φ 3)), some (.int (φ 4)), some (.int (φ 5)), some (.int (φ 6)), some v_law_root, some v_law_plain, some v_law_tops, some v_law_free_here, some v_law_barred_here, some v_law_lead] H12
    refine q_asgX (ex_catX (ev_x (ev_var rfl) g_law_barred_here) (ex_lstA (xa_cons (ex_tupA (xa_cons (ex_lstA (xa_cons (ev_x (ev_var rfl) g_law_root) (xa_cons (ev_x (ev_var rfl) g_law_lead) (xa_cons (ex_rowC (r := mk5 4 3 3 3 (0)) (ad := 0) (by decide) (by decide) (ev_x (ev_var rfl) (.int _)) (ev_x (ev_var rfl) (.int _)) (ev_x (ev_var rfl) (.int _)) (ev_x (ev_var rfl) (.int _)) (ev_x ev_c (.int _))) (xa_cons (ex_rowC (r := mk5 5 2 2 4 (0)) (ad := 0) (by decide) (by decide) (ev_x (ev_var rfl) (.int _)) (ev_x (ev_var rfl) (.int _)) (ev_x (ev_var rfl) (.int _)) (ev_x (ev_var rfl) (.int _)) (ev_x ev_c (.int _))) xa_nil)))) (by show 4 ≤ 100000; decide)) (xa_cons (ex_tupA (xa_cons (ev_x ev_c (.str _)) (xa_cons (ev_x (ev_var rfl) (.int _)) xa_nil)) (by show 2 ≤ 100000; decide)) xa_nil)) (by show 2 ≤ 100000; decide)) xa_nil) (by show 1 ≤ 100000; decide)) (by show 5 + 1 ≤ 100000; decide)) fun v_law_barred_here H13 e13 g_law_barred_here => ?_
    replace g_law_root := g_law_root.mono e13
    replace g_law_plain := g_law_plain.mono e13
    replace g_law_tops := g_law_tops.mono e13
    replace g_law_free_here := g_law_free_here.mono e13
    replace g_law_lead := g_law_lead.mono e13
    show tSeq _ _ _ [some (.ref sa), some (.int (φ 7)), some (.int (φ 2)), some (.int (φ 3)), some (.int (φ 4)), some (.int (φ 5)), some (.int (φ 6)), some v_law_root, some v_law_plain, some v_law_tops, some v_law_free_here, some v_law_barred_here, some v_law_lead] H13
    refine q_asgX (ex_catX (ev_x (ev_var rfl) g_law_barred_here) (ex_lstA (xa_cons (ex_tupA (xa_cons (ex_lstA (xa_cons (ev_x (ev_var rfl) g_law_root) (xa_cons (ev_x (ev_var rfl) g_law_lead) (xa_cons (ex_rowC (r := mk5 4 2 2 3 (0)) (ad := 0) (by decide) (by decide) (ev_x (ev_var rfl) (.int _)) (ev_x (ev_var rfl) (.int _)) (ev_x (ev_var rfl) (.int _)) (ev_x (ev_var rfl) (.int _)) (ev_x ev_c (.int _))) xa_nil))) (by show 3 ≤ 100000; decide)) (xa_cons (ex_tupA (xa_cons (ev_x ev_c (.str _)) (xa_cons (ev_x (ev_var rfl) (.int _)) xa_nil)) (by show 2 ≤ 100000; decide)) xa_nil)) (by show 2 ≤ 100000; decide)) (xa_cons (ex_tupA (xa_cons (ex_lstA (xa_cons (ev_x (ev_var rfl) g_law_root) (xa_cons (ex_rowC (r := mk5 4 2 2 1 (0)) (ad := 0) (by decide) (by decide) (ev_x (ev_var rfl) (.int _)) (ev_x (ev_var rfl) (.int _)) (ev_x (ev_var rfl) (.int _)) (ev_x ev_c (dx_one R)) (ev_x ev_c (.int _))) xa_nil)) (by show 2 ≤ 100000; decide)) (xa_cons (ex_tupA (xa_cons (ev_x ev_c (.str _)) (xa_cons (ev_x ev_c (dx_one R)) xa_nil)) (by show 2 ≤ 100000; decide)) xa_nil)) (by show 2 ≤ 100000; decide)) xa_nil)) (by show 2 ≤ 100000; decide)) (by show 6 + 2 ≤ 100000; decide)) fun v_law_barred_here H14 e14 g_law_barred_here => ?_
    replace g_law_root := g_law_root.mono e14
    replace g_law_plain := g_law_plain.mono e14
    replace g_law_tops := g_law_tops.mono e14
    replace g_law_free_here := g_law_free_here.mono e14
    replace g_law_lead := g_law_lead.mono e14
    show tSeq _ _ _ [some (.ref sa), some (.int (φ 7)), some (.int (φ 2)), some (.int (φ 3)), some (.int (φ 4)), some (.int (φ 5)), some (.int (φ 6)), some v_law_root, some v_law_plain, some v_law_tops, some v_law_free_here, some v_law_barred_here, some v_law_lead] H14
    refine q_asgX (ex_catX (ev_x (ev_var rfl) g_law_barred_here) (ex_lstA (xa_cons (ex_tupA (xa_cons (ex_lstA (xa_cons (ev_x (ev_var rfl) g_law_root) (xa_cons (ev_x (ev_var rfl) g_law_lead) (xa_cons (ex_rowC (r := mk5 4 3 3 2 (0)) (ad := 0) (by decide) (by decide) (ev_x (ev_var rfl) (.int _)) (ev_x (ev_var rfl) (.int _)) (ev_x (ev_var rfl) (.int _)) (ev_x (ev_var rfl) (.int _)) (ev_x ev_c (.int _))) xa_nil))) (by show 3 ≤ 100000; decide)) (xa_cons (ex_tupA (xa_cons (ev_x ev_c (.str _)) (xa_cons (ev_x (ev_var rfl) (.int _)) xa_nil)) (by show 2 ≤ 100000; decide)) xa_nil)) (by show 2 ≤ 100000; decide)) (xa_cons (ex_tupA (xa_cons (ex_catX (ex_catX (ex_lstA (xa_cons (ev_x (ev_var rfl) g_law_root) xa_nil) (by show 1 ≤ 100000; decide)) (ev_x (ev_var rfl) g_law_tops) (by show 1 + 2 ≤ 100000; decide)) (ex_lstA (xa_cons (ex_rowC (r := mk5 5 2 2 7 (0)) (ad := 0) (by decide) (by decide) (ev_x (ev_var rfl) (.int _)) (ev_x (ev_var rfl) (.int _)) (ev_x (ev_var rfl) (.int _)) (ev_x (ev_var rfl) (.int _)) (ev_x ev_c (.int _))) xa_nil) (by show 1 ≤ 100000; decide)) (by show 3 + 1 ≤ 100000; decide)) (xa_cons (ex_tupA (xa_cons (ev_x ev_c (.str _)) (xa_cons (ev_x (ev_var rfl) (.int _)) xa_nil)) (by show 2 ≤ 100000; decide)) xa_nil)) (by show 2 ≤ 100000; decide)) xa_nil)) (by show 2 ≤ 100000; decide)) (by show 8 + 2 ≤ 100000; decide)) fun v_law_barred_here H15 e15 g_law_barred_here => ?_
    replace g_law_root := g_law_root.mono e15
    replace g_law_plain := g_law_plain.mono e15
    replace g_law_tops := g_law_tops.mono e15
    replace g_law_free_here := g_law_free_here.mono e15
    replace g_law_lead := g_law_lead.mono e15
    show tRet _ _ [some (.ref sa), some (.int (φ 7)), some (.int (φ 2)), some (.int (φ 3)), some (.int (φ 4)), some (.int (φ 5)), some (.int (φ 6)), some v_law_root, some v_law_plain, some v_law_tops, some v_law_free_here, some v_law_barred_here, some v_law_lead] H15
    have cF : SpV spFree ([v_law_free_here] ++ []) H15 (.bl true) := fun H0 e0 Q q E => ⟨_, φ, cs_klostF, rfl, (show Dx H15 _ (.list (cs_klostF.map (caseF φ))) from g_law_free_here).mono e0, R, by decide +kernel, q⟩
    have cB : SpV spBarred ([v_law_barred_here] ++ []) H15 (.bl true) := fun H0 e0 Q q E => ⟨_, φ, cs_klostB, rfl, (show Dx H15 _ (.list (cs_klostB.map (caseB φ))) from g_law_barred_here).mono e0, R, by decide +kernel, q⟩
    exact s_ret (ev_andV (ev_call (ea_cons (ev_var rfl) ea_nil) cF) fun _ => (ev_call (ea_cons (ev_var rfl) ea_nil) cB)) fun H0 e0 => q H0 (((((((((((((((e1.trans e2).trans e3).trans e4).trans e5).trans e6).trans e7).trans e8).trans e9).trans e10).trans e11).trans e12).trans e13).trans e14).trans e15).trans e0)
end
end KB
set_option Elab.async false
set_option linter.all false
set_option maxRecDepth 100000
set_option maxHeartbeats 4000000
namespace KB
open PySem PySem.Spec PyProof.Rows L2 Evl
def two0 : Fam := [mk5 2 1 2 2 (1), mk5 3 2 6 6 (0), mk5 4 2 5 5 (0), mk5 5 3 5 5 (0), mk5 6 4 6 6 (0)]
def far0 : Fam := [mk5 2 1 2 2 (1), mk5 3 2 8 8 (0), mk5 4 2 9 9 (0), mk5 5 2 10 10 (0), mk5 8 4 8 8 (0), mk5 9 5 9 9 (0), mk5 10 3 10 10 (0)]
def cs_kringsF : List FC := [([mk5 2 1 2 2 (1), mk5 3 2 5 5 (0), mk5 4 2 4 4 (0), mk5 5 4 5 5 (0)], [], [], [5])]
def cs_kringsB : List BC := [([mk5 2 1 2 2 (1), mk5 3 2 4 4 (0), mk5 4 3 4 4 (0)], .ring [3]), ([mk5 2 1 2 2 (1), mk5 3 2 6 6 (0), mk5 4 2 5 5 (0), mk5 5 3 5 5 (0), mk5 6 4 6 6 (0)], .ring [3, 4]), ([mk5 2 1 3 3 (0), mk5 3 2 3 3 (0)], .ring [2]), ([mk5 2 1 3 3 (1), mk5 3 2 3 3 (0)], .session 3 2), ([mk5 2 1 2 2 (1), mk5 3 2 4 4 (1), mk5 4 3 4 4 (0)], .session 4 3), ([mk5 2 1 2 2 (1), mk5 3 2 8 8 (0), mk5 4 2 9 9 (0), mk5 5 2 10 10 (0), mk5 8 4 8 8 (0), mk5 9 5 9 9 (0), mk5 10 3 10 10 (0)], .ring [3, 4, 5])]
abbrev sKrings : Stmt := topS 43
abbrev nKrings : List Str := ["_law_some", "_law_a", "_law_b", "_law_c", "_law_d", "_law_e", "_law_root", "_law_one", "_law_two", "_law_barred_here", "_law_far", "_law_free_here"]
theorem scKrings : FnScope nKrings ["_law_some"] (defScope sKrings) := ⟨rfl, rfl, rfl, by decide +kernel, rfl, by decide +kernel, by decide +kernel⟩
def spKrings : Sp := fun vs H Q _ => ∃ (sa : Addr) (φ : Int → Int), vs = [.ref sa] ∧ H sa = some (.lst [.int (φ 2), .int (φ 3), .int (φ 4), .int (φ 5), .int (φ 6)]) ∧ Ren φ ∧ φ 8 = 180 ∧ φ 9 = 181 ∧ φ 10 = 182 ∧ RetV (.bl true) H Q
section
variable {P : Program} {w : World} {K : PySem.W.Frag} {mg : Str → Option Value} {base : Heap} {f : Addr} {fd : FuncData}
theorem ok_krings (F : Fun K "_law_rings_right" "_law_rings_right" sKrings f fd) (G__law_free : Kf P w K mg base 8 "_law_free" ["_law_cases"] spFree) (G__law_barred : Kf P w K mg base 8 "_law_barred" ["_law_cases"] spBarred) (G__law_image : Kf P w K mg base 1 "_law_image" ["_law_rows"] spImageQ) (G_shows_bar : Kf P w K mg base 7 "shows_bar" ["image", "thing"] spShowsB) :
    FnOk P w K mg base CX0 9 f fd ["_law_some"] spKrings := by
  refine F.ok scKrings (fun vs H Q E h => ?_) (fun cdv A outer s H vs Q E hr h => ?_)
  · obtain ⟨sa, φ, rfl, _⟩ := h
    rfl
  · obtain ⟨sa, φ, rfl, gs, R, h8, h9, h10, q⟩ := h
    have nd := scKrings.nd
    have hu := hu_of hr
    refine ⟨_, (pss_cons (ps_asg (pv 0) (pg_unl rfl (pgs_cons (pg_name (i := 1) nd rfl (by first | exact .inl rfl | exact .inr rfl)) (pgs_cons (pg_name (i := 2) nd rfl (by first | exact .inl rfl | exact .inr rfl)) (pgs_cons (pg_name (i := 3) nd rfl (by first | exact .inl rfl | exact .inr rfl)) (pgs_cons (pg_name (i := 4) nd rfl (by first | exact .inl rfl | exact .inr rfl)) (pgs_cons (pg_name (i := 5) nd rfl (by first | exact .inl rfl | exact .inr rfl)) pgs_nil)))))))
      (pss_cons (ps_set (i := 6) nd rfl (by first | exact .inl rfl | exact .inr rfl) (pe_tup (pa_cons (pv 1) (pa_cons pe_non (pa_cons (pv 1) (pa_cons (pv 1) (pa_cons pe_int pa_nil)))))))
      (pss_cons (ps_set (i := 7) nd rfl (by first | exact .inl rfl | exact .inr rfl) (pe_lst (pa_cons (pv 6) (pa_cons (pe_tup (pa_cons (pv 2) (pa_cons (pv 1) (pa_cons (pv 3) (pa_cons (pv 3) (pa_cons pe_int pa_nil)))))) (pa_cons (pe_tup (pa_cons (pv 3) (pa_cons (pv 2) (pa_cons (pv 3) (pa_cons (pv 3) (pa_cons pe_int pa_nil)))))) pa_nil)))))
      (pss_cons (ps_set (i := 8) nd rfl (by first | exact .inl rfl | exact .inr rfl) (pe_lst (pa_cons (pv 6) (pa_cons (pe_tup (pa_cons (pv 2) (pa_cons (pv 1) (pa_cons (pv 5) (pa_cons (pv 5) (pa_cons pe_int pa_nil)))))) (pa_cons (pe_tup (pa_cons (pv 3) (pa_cons (pv 1) (pa_cons (pv 4) (pa_cons (pv 4) (pa_cons pe_int pa_nil)))))) (pa_cons (pe_tup (pa_cons (pv 4) (pa_cons (pv 2) (pa_cons (pv 4) (pa_cons (pv 4) (pa_cons pe_int pa_nil)))))) (pa_cons (pe_tup (pa_cons (pv 5) (pa_cons (pv 3) (pa_cons (pv 5) (pa_cons (pv 5) (pa_cons pe_int pa_nil)))))) pa_nil)))))))
      (pss_cons (ps_set (i := 9) nd rfl (by first | exact .inl rfl | exact .inr rfl) (pe_lst (pa_cons (pe_tup (pa_cons (pv 7) (pa_cons (pe_tup (pa_cons pe_str (pa_cons (pe_lst (pa_cons (pv 2) pa_nil)) pa_nil))) pa_nil))) (pa_cons (pe_tup (pa_cons (pv 8) (pa_cons (pe_tup (pa_cons pe_str (pa_cons (pe_lst (pa_cons (pv 2) (pa_cons (pv 3) pa_nil))) pa_nil))) pa_nil))) (pa_cons (pe_tup (pa_cons (pe_lst (pa_cons (pe_tup (pa_cons (pv 1) (pa_cons pe_non (pa_cons (pv 2) (pa_cons (pv 2) (pa_cons pe_int pa_nil)))))) (pa_cons (pe_tup (pa_cons (pv 2) (pa_cons (pv 1) (pa_cons (pv 2) (pa_cons (pv 2) (pa_cons pe_int pa_nil)))))) pa_nil))) (pa_cons (pe_tup (pa_cons pe_str (pa_cons (pe_lst (pa_cons (pv 1) pa_nil)) pa_nil))) pa_nil))) pa_nil)))))
      (pss_cons (ps_set (i := 9) nd rfl (by first | exact .inl rfl | exact .inr rfl) (pe_op op_cat (pv 9) (pe_lst (pa_cons (pe_tup (pa_cons (pe_lst (pa_cons (pe_tup (pa_cons (pv 1) (pa_cons pe_non (pa_cons (pv 2) (pa_cons (pv 2) (pa_cons pe_int pa_nil)))))) (pa_cons (pe_tup (pa_cons (pv 2) (pa_cons (pv 1) (pa_cons (pv 2) (pa_cons (pv 2) (pa_cons pe_int pa_nil)))))) pa_nil))) (pa_cons (pe_tup (pa_cons pe_str (pa_cons (pv 2) (pa_cons (pv 1) pa_nil)))) pa_nil))) pa_nil))))
      (pss_cons (ps_set (i := 9) nd rfl (by first | exact .inl rfl | exact .inr rfl) (pe_op op_cat (pv 9) (pe_lst (pa_cons (pe_tup (pa_cons (pe_lst (pa_cons (pv 6) (pa_cons (pe_tup (pa_cons (pv 2) (pa_cons (pv 1) (pa_cons (pv 3) (pa_cons (pv 3) (pa_cons pe_int pa_nil)))))) (pa_cons (pe_tup (pa_cons (pv 3) (pa_cons (pv 2) (pa_cons (pv 3) (pa_cons (pv 3) (pa_cons pe_int pa_nil)))))) pa_nil)))) (pa_cons (pe_tup (pa_cons pe_str (pa_cons (pv 3) (pa_cons (pv 2) pa_nil)))) pa_nil))) pa_nil))))
      (pss_cons (ps_set (i := 10) nd rfl (by first | exact .inl rfl | exact .inr rfl) (pe_lst (pa_cons (pv 6) (pa_cons (pe_tup (pa_cons (pv 2) (pa_cons (pv 1) (pa_cons pe_int (pa_cons pe_int (pa_cons pe_int pa_nil)))))) (pa_cons (pe_tup (pa_cons (pv 3) (pa_cons (pv 1) (pa_cons pe_int (pa_cons pe_int (pa_cons pe_int pa_nil)))))) (pa_cons (pe_tup (pa_cons (pv 4) (pa_cons (pv 1) (pa_cons pe_int (pa_cons pe_int (pa_cons pe_int pa_nil)))))) pa_nil))))))
      (pss_cons (ps_set (i := 10) nd rfl (by first | exact .inl rfl | exact .inr rfl) (pe_op op_cat (pv 10) (pe_lst (pa_cons (pe_tup (pa_cons pe_int (pa_cons (pv 3) (pa_cons pe_int (pa_cons pe_int (pa_cons pe_int pa_nil)))))) (pa_cons (pe_tup (pa_cons pe_int (pa_cons (pv 4) (pa_cons pe_int (pa_cons pe_int (pa_cons pe_int pa_nil)))))) (pa_cons (pe_tup (pa_cons pe_int (pa_cons (pv 2) (pa_cons pe_int (pa_cons pe_int (pa_cons pe_int pa_nil)))))) pa_nil))))))
      (pss_cons (ps_set (i := 9) nd rfl (by first | exact .inl rfl | exact .inr rfl) (pe_op op_cat (pv 9) (pe_lst (pa_cons (pe_tup (pa_cons (pv 10) (pa_cons (pe_tup (pa_cons pe_str (pa_cons (pe_lst (pa_cons (pv 2) (pa_cons (pv 3) (pa_cons (pv 4) pa_nil)))) pa_nil))) pa_nil))) pa_nil))))
      (pss_cons (ps_set (i := 11) nd rfl (by first | exact .inl rfl | exact .inr rfl) (pe_lst (pa_cons (pe_tup (pa_cons (pe_lst (pa_cons (pv 6) (pa_cons (pe_tup (pa_cons (pv 2) (pa_cons (pv 1) (pa_cons (pv 4) (pa_cons (pv 4) (pa_cons pe_int pa_nil)))))) (pa_cons (pe_tup (pa_cons (pv 3) (pa_cons (pv 1) (pa_cons (pv 3) (pa_cons (pv 3) (pa_cons pe_int pa_nil)))))) (pa_cons (pe_tup (pa_cons (pv 4) (pa_cons (pv 3) (pa_cons (pv 4) (pa_cons (pv 4) (pa_cons pe_int pa_nil)))))) pa_nil))))) (pa_cons (pe_tup (pa_cons (pe_lst pa_nil) (pa_cons (pe_lst pa_nil) (pa_cons (pe_lst (pa_cons (pv 4) pa_nil)) pa_nil)))) pa_nil))) pa_nil)))
      (pss_cons (ps_if (PW.pt (pw_or (pt_val (pe_fn G_shows_bar (hr.mono (by decide)) (pa_cons (pe_fn G__law_image (hr.mono (by decide)) (pa_cons (pv 8) pa_nil)) (pa_cons (pe_tup (pa_cons pe_str (pa_cons (pe_lst (pa_cons (pv 3) (pa_cons (pv 2) pa_nil))) pa_nil))) pa_nil)))) (pw_or1 (pt_val (pe_fn G_shows_bar (hr.mono (by decide)) (pa_cons (pe_fn G__law_image (hr.mono (by decide)) (pa_cons (pv 10) pa_nil)) (pa_cons (pe_tup (pa_cons pe_str (pa_cons (pe_lst (pa_cons (pv 2) (pa_cons (pv 4) (pa_cons (pv 3) pa_nil)))) pa_nil))) pa_nil))))))) (pss_one (ps_ret pe_bl)) pss_nil)
      (pss_one (ps_ret (pe_and (pe_fn G__law_barred (hr.mono (by decide)) (pa_cons (pv 9) pa_nil)) (pe_one (pe_fn G__law_free (hr.mono (by decide)) (pa_cons (pv 11) pa_nil)))))))))))))))))), ?_⟩
    refine ⟨_, rfl, sa, _, rfl, sq_of gs, rfl, _, _, rfl, _, _, rfl, _, _, rfl, _, _, rfl, _, _, rfl, rfl, ?_⟩
    show tSeq _ _ _ [some (.ref sa), some (.int (φ 2)), some (.int (φ 3)), some (.int (φ 4)), some (.int (φ 5)), some (.int (φ 6)), none, none, none, none, none, none] H
    refine q_asgX (ex_rowR (r := mk5 2 1 2 2 (1)) (ad := 1) (by decide) (by decide) (ev_x (ev_var rfl) (.int _)) (ev_x ev_c .non) (ev_x (ev_var rfl) (.int _)) (ev_x (ev_var rfl) (.int _)) (ev_x ev_c (.int _))) fun v_law_root H1 e1 g_law_root => ?_
    show tSeq _ _ _ [some (.ref sa), some (.int (φ 2)), some (.int (φ 3)), some (.int (φ 4)), some (.int (φ 5)), some (.int (φ 6)), some v_law_root, none, none, none, none, none] H1
    refine q_asgX (ex_lstA (xa_cons (ev_x (ev_var rfl) g_law_root) (xa_cons (ex_rowC (r := mk5 3 2 4 4 (0)) (ad := 0) (by decide) (by decide) (ev_x (ev_var rfl) (.int _)) (ev_x (ev_var rfl) (.int _)) (ev_x (ev_var rfl) (.int _)) (ev_x (ev_var rfl) (.int _)) (ev_x ev_c (.int _))) (xa_cons (ex_rowC (r := mk5 4 3 4 4 (0)) (ad := 0) (by decide) (by decide) (ev_x (ev_var rfl) (.int _)) (ev_x (ev_var rfl) (.int _)) (ev_x (ev_var rfl) (.int _)) (ev_x (ev_var rfl) (.int _)) (ev_x ev_c (.int _))) xa_nil))) (by show 3 ≤ 100000; decide)) fun v_law_one H2 e2 g_law_one => ?_
    replace g_law_root := g_law_root.mono e2
    show tSeq _ _ _ [some (.ref sa), some (.int (φ 2)), some (.int (φ 3)), some (.int (φ 4)), some (.int (φ 5)), some (.int (φ 6)), some v_law_root, some v_law_one, none, none, none, none] H2
    refine q_asgX (ex_lstA (xa_cons (ev_x (ev_var rfl) g_law_root) (xa_cons (ex_rowC (r := mk5 3 2 6 6 (0)) (ad := 0) (by decide) (by decide) (ev_x (ev_var rfl) (.int _)) (ev_x (ev_var rfl) (.int _)) (ev_x (ev_var rfl) (.int _)) (ev_x (ev_var rfl) (.int _)) (ev_x ev_c (.int _))) (xa_cons (ex_rowC (r := mk5 4 2 5 5 (0)) (ad := 0) (by decide) (by decide) (ev_x (ev_var rfl) (.int _)) (ev_x (ev_var rfl) (.int _)) (ev_x (ev_var rfl) (.int _)) (ev_x (ev_var rfl) (.int _)) (ev_x ev_c (.int _))) (xa_cons (ex_rowC (r := mk5 5 3 5 5 (0)) (ad := 0) (by decide) (by decide) (ev_x (ev_var rfl) (.int _)) (ev_x (ev_var rfl) (.int _)) (ev_x (ev_var rfl) (.int _)) (ev_x (ev_var rfl) (.int _)) (ev_x ev_c (.int _))) (xa_cons (ex_rowC (r := mk5 6 4 6 6 (0)) (ad := 0) (by decide) (by decide) (ev_x (ev_var rfl) (.int _)) (ev_x (ev_var rfl) (.int _)) (ev_x (ev_var rfl) (.int _)) (ev_x (ev_var rfl) (.int _)) (ev_x ev_c (.int _))) xa_nil))))) (by show 5 ≤ 100000; decide)) fun v_law_two H3 e3 g_law_two => ?_
    replace g_law_root := g_law_root.mono e3
    replace g_law_one := g_law_one.mono e3
    show tSeq _ _ _ [some (.ref sa), some (.int (φ 2)), some (.int (φ 3)), some (.int (φ 4)), some (.int (φ 5)), some (.int (φ 6)), some v_law_root, some v_law_one, some v_law_two, none, none, none] H3
    refine q_asgX (ex_lstA (xa_cons (ex_tupA (xa_cons (ev_x (ev_var rfl) g_law_one) (xa_cons (ex_tupA (xa_cons (ev_x ev_c (.str _)) (xa_cons (ex_lstA (xa_cons (ev_x (ev_var rfl) (.int _)) xa_nil) (by show 1 ≤ 100000; decide)) xa_nil)) (by show 2 ≤ 100000; decide)) xa_nil)) (by show 2 ≤ 100000; decide)) (xa_cons (ex_tupA (xa_cons (ev_x (ev_var rfl) g_law_two) (xa_cons (ex_tupA (xa_cons (ev_x ev_c (.str _)) (xa_cons (ex_lstA (xa_cons (ev_x (ev_var rfl) (.int _)) (xa_cons (ev_x (ev_var rfl) (.int _)) xa_nil)) (by show 2 ≤ 100000; decide)) xa_nil)) (by show 2 ≤ 100000; decide)) xa_nil)) (by show 2 ≤ 100000; decide)) (xa_cons (ex_tupA (xa_cons (ex_lstA (xa_cons (ex_rowR (r := mk5 2 1 3 3 (0)) (ad := 0) (by decide) (by decide) (ev_x (ev_var rfl) (.int _)) (ev_x ev_c .non) (ev_x (ev_var rfl) (.int _)) (ev_x (ev_var rfl) (.int _)) (ev_x ev_c (.int _))) (xa_cons (ex_rowC (r := mk5 3 2 3 3 (0)) (ad := 0) (by decide) (by decide) (ev_x (ev_var rfl) (.int _)) (ev_x (ev_var rfl) (.int _)) (ev_x (ev_var rfl) (.int _)) (ev_x (ev_var rfl) (.int _)) (ev_x ev_c (.int _))) xa_nil)) (by show 2 ≤ 100000; decide)) (xa_cons (ex_tupA (xa_cons (ev_x ev_c (.str _)) (xa_cons (ex_lstA (xa_cons (ev_x (ev_var rfl) (.int _)) xa_nil) (by show 1 ≤ 100000; decide)) xa_nil)) (by show 2 ≤ 100000; decide)) xa_nil)) (by show 2 ≤ 100000; decide)) xa_nil))) (by show 3 ≤ 100000; decide)) fun v_law_barred_here H4 e4 g_law_barred_here => ?_
    replace g_law_root := g_law_root.mono e4
    replace g_law_one := g_law_one.mono e4
    replace g_law_two := g_law_two.mono e4
    show tSeq _ _ _ [some (.ref sa), some (.int (φ 2)), some (.int (φ 3)), some (.int (φ 4)), some (.int (φ 5)), some (.int (φ 6)), some v_law_root, some v_law_one, some v_law_two, some v_law_barred_here, none, none] H4
    refine q_asgX (ex_catX (ev_x (ev_var rfl) g_law_barred_here) (ex_lstA (xa_cons (ex_tupA (xa_cons (ex_lstA (xa_cons (ex_rowR (r := mk5 2 1 3 3 (1)) (ad := 1) (by decide) (by decide) (ev_x (ev_var rfl) (.int _)) (ev_x ev_c .non) (ev_x (ev_var rfl) (.int _)) (ev_x (ev_var rfl) (.int _)) (ev_x ev_c (.int _))) (xa_cons (ex_rowC (r := mk5 3 2 3 3 (0)) (ad := 0) (by decide) (by decide) (ev_x (ev_var rfl) (.int _)) (ev_x (ev_var rfl) (.int _)) (ev_x (ev_var rfl) (.int _)) (ev_x (ev_var rfl) (.int _)) (ev_x ev_c (.int _))) xa_nil)) (by show 2 ≤ 100000; decide)) (xa_cons (ex_tupA (xa_cons (ev_x ev_c (.str _)) (xa_cons (ev_x (ev_var rfl) (.int _)) (xa_cons (ev_x (ev_var rfl) (.int _)) xa_nil))) (by show 3 ≤ 100000; decide)) xa_nil)) (by show 2 ≤ 100000; decide)) xa_nil) (by show 1 ≤ 100000; decide)) (by show 3 + 1 ≤ 100000; decide)) fun v_law_barred_here H5 e5 g_law_barred_here => ?_
    replace g_law_root := g_law_root.mono e5
    replace g_law_one := g_law_one.mono e5
    replace g_law_two := g_law_two.mono e5
    show tSeq _ _ _ [some (.ref sa), some (.int (φ 2)), some (.int (φ 3)), some (.int (φ 4)), some (.int (φ 5)), some (.int (φ 6)), some v_law_root, some v_law_one, some v_law_two, some v_law_barred_here, none, none] H5
    refine q_asgX (ex_catX (ev_x (ev_var rfl) g_law_barred_here) (ex_lstA (xa_cons (ex_tupA (xa_cons (ex_lstA (xa_cons (ev_x (ev_var rfl) g_law_root) (xa_cons (ex_rowC (r := mk5 3 2 4 4 (1)) (ad := 1) (by decide) (by decide) (ev_x (ev_var rfl) (.int _)) (ev_x (ev_var rfl) (.int _)) (ev_x (ev_var rfl) (.int _)) (ev_x (ev_var rfl) (.int _)) (ev_x ev_c (.int _))) (xa_cons (ex_rowC (r := mk5 4 3 4 4 (0)) (ad := 0) (by decide) (by decide) (ev_x (ev_var rfl) (.int _)) (ev_x (ev_var rfl) (.int _)) (ev_x (ev_var rfl) (.int _)) (ev_x (ev_var rfl) (.int _)) (ev_x ev_c (.int _))) xa_nil))) (by show 3 ≤ 100000; decide)) (xa_cons (ex_tupA (xa_cons (ev_x ev_c (.str _)) (xa_cons (ev_x (ev_var rfl) (.int _)) (xa_cons (ev_x (ev_var rfl) (.int _)) xa_nil))) (by show 3 ≤ 100000; decide)) xa_nil)) (by show 2 ≤ 100000; decide)) xa_nil) (by show 1 ≤ 100000; decide)) (by show 4 + 1 ≤ 100000; decide)) fun v_law_barred_here H6 e6 g_law_barred_here => ?_
    replace g_law_root := g_law_root.mono e6
    replace g_law_one := g_law_one.mono e6
    replace g_law_two := g_law_two.mono e6
    show tSeq _ _ _ [some (.ref sa), some (.int (φ 2)), some (.int (φ 3)), some (.int (φ 4)), some (.int (φ 5)), some (.int (φ 6)), some v_law_root, some v_law_one, some v_law_two, some v_law_barred_here, none, none] H6
    refine q_asgX (ex_lstA (xa_cons (ev_x (ev_var rfl) g_law_root) (xa_cons (ex_rowC (r := mk5 3 2 8 8 (0)) (ad := 0) (by decide) (by decide) (ev_x (ev_var rfl) (.int _)) (ev_x (ev_var rfl) (.int _)) (ev_x ev_c (dx_far h8)) (ev_x ev_c (dx_far h8)) (ev_x ev_c (.int _))) (xa_cons (ex_rowC (r := mk5 4 2 9 9 (0)) (ad := 0) (by decide) (by decide) (ev_x (ev_var rfl) (.int _)) (ev_x (ev_var rfl) (.int _)) (ev_x ev_c (dx_far h9)) (ev_x ev_c (dx_far h9)) (ev_x ev_c (.int _))) (xa_cons (ex_rowC (r := mk5 5 2 10 10 (0)) (ad := 0) (by decide) (by decide) (ev_x (ev_var rfl) (.int _)) (ev_x (ev_var rfl) (.int _)) (ev_x ev_c (dx_far h10)) (ev_x ev_c (dx_far h10)) (ev_x ev_c (.int _))) xa_nil)))) (by show 4 ≤ 100000; decide)) fun v_law_far H7 e7 g_law_far => ?_
    replace g_law_root := g_law_root.mono e7
    replace g_law_one := g_law_one.mono e7
    replace g_law_two := g_law_two.mono e7
    replace g_law_barred_here := g_law_barred_here.mono e7
    show tSeq _ _ _ [some (.ref sa), some (.int (φ 2)), some (.int (φ 3)), some (.int (φ 4)), some (.int (φ 5)), some (.int (φ 6)), some v_law_root, some v_law_one, some v_law_two, some v_law_barred_here, some v_law_far, none] H7
    refine q_asgX (ex_catX (ev_x (ev_var rfl) g_law_far) (ex_lstA (xa_cons (ex_rowC (r := mk5 8 4 8 8 (0)) (ad := 0) (by decide) (by decide) (ev_x ev_c (dx_far h8)) (ev_x (ev_var rfl) (.int _)) (ev_x ev_c (dx_far h8)) (ev_x ev_c (dx_far h8)) (ev_x ev_c (.int _))) (xa_cons (ex_rowC (r := mk5 9 5 9 9 (0)) (ad := 0) (by decide) (by decide) (ev_x ev_c (dx_far h9)) (ev_x (ev_var rfl) (.int _)) (ev_x ev_c (dx_far h9)) (ev_x ev_c (dx_far h9)) (ev_x ev_c (.int _))) (xa_cons (ex_rowC (r := mk5 10 3 10 10 (0)) (ad := 0) (by decide) (by decide) (ev_x ev_c (dx_far h10)) (ev_x (ev_var rfl) (.int _)) (ev_x ev_c (dx_far h10)) (ev_x ev_c (dx_far h10)) (ev_x ev_c (.int _))) xa_nil))) (by show 3 ≤ 100000; decide)) (by show 4 + 3 ≤ 100000; decide)) fun v_law_far H8 e8 g_law_far => ?_
    replace g_law_root := g_law_root.mono e8
    replace g_law_one := g_law_one.mono e8
    replace g_law_two := g_law_two.mono e8
    replace g_law_barred_here := g_law_barred_here.mono e8
    show tSeq _ _ _ [some (.ref sa), some (.int (φ 2)), some (.int (φ 3)), some (.int (φ 4)), some (.int (φ 5)), some (.int (φ 6)), some v_law_root, some v_law_one, some v_law_two, some v_law_barred_here, some v_law_far, none] H8
    refine q_asgX (ex_catX (ev_x (ev_var rfl) g_law_barred_here) (ex_lstA (xa_cons (ex_tupA (xa_cons (ev_x (ev_var rfl) g_law_far) (xa_cons (ex_tupA (xa_cons (ev_x ev_c (.str _)) (xa_cons (ex_lstA (xa_cons (ev_x (ev_var rfl) (.int _)) (xa_cons (ev_x (ev_var rfl) (.int _)) (xa_cons (ev_x (ev_var rfl) (.int _)) xa_nil))) (by show 3 ≤ 100000; decide)) xa_nil)) (by show 2 ≤ 100000; decide)) xa_nil)) (by show 2 ≤ 100000; decide)) xa_nil) (by show 1 ≤ 100000; decide)) (by show 5 + 1 ≤ 100000; decide)) fun v_law_barred_here H9 e9 g_law_barred_here => ?_
    replace g_law_root := g_law_root.mono e9
    replace g_law_one := g_law_one.mono e9
    replace g_law_two := g_law_two.mono e9
    replace g_law_far := g_law_far.mono e9
    show tSeq _ _ _ [some (.ref sa), some (.int (φ 2)), some (.int (φ 3)), some (.int (φ 4)), some (.int (φ 5)), some (.int (φ 6)), some v_law_root, some v_law_one, some v_law_two, some v_law_barred_here, some v_law_far, none] H9
    refine q_asgX (ex_lstA (xa_cons (ex_tupA (xa_cons (ex_lstA (xa_cons (ev_x (ev_var rfl) g_law_root) (xa_cons (ex_rowC (r := mk5 3 2 5 5 (0)) (ad := 0) (by decide) (by decide) (ev_x (ev_var rfl) (.int _)) (ev_x (ev_var rfl) (.int _)) (ev_x (ev_var rfl) (.int _)) (ev_x (ev_var rfl) (.int _)) (ev_x ev_c (.int _))) (xa_cons (ex_rowC (r := mk5 4 2 4 4 (0)) (ad := 0) (by decide) (by decide) (ev_x (ev_var rfl) (.int _)) (ev_x (ev_var rfl) (.int _)) (ev_x (ev_var rfl) (.int _)) (ev_x (ev_var rfl) (.int _)) (ev_x ev_c (.int _))) (xa_cons (ex_rowC (r := mk5 5 4 5 5 (0)) (ad := 0) (by decide) (by decide) (ev_x (ev_var rfl) (.int _)) (ev_x (ev_var rfl) (.int _)) (ev_x (ev_var rfl) (.int _)) (ev_x (ev_var rfl) (.int _)) (ev_x ev_c (.int _))) xa_nil)))) (by show 4 ≤ 100000; decide)) (xa_cons (ex_tupA (xa_cons (ex_lstA xa_nil (by show 0 ≤ 100000; decide)) (xa_cons (ex_lstA xa_nil (by show 0 ≤ 100000; decide)) (xa_cons (ex_lstA (xa_cons (ev_x (ev_var rfl) (.int _)) xa_nil) (by show 1 ≤ 100000; decide)) xa_nil))) (by show 3 ≤ 100000; decide)) xa_nil)) (by show 2 ≤ 100000; decide)) xa_nil) (by show 1 ≤ 100000; decide)) fun v_law_free_here H10 e10 g_law_free_here => ?_
    replace g_law_root := g_law_root.mono e10
    replace g_law_one := g_law_one.mono e10
    replace g_law_two := g_law_two.mono e10
    replace g_law_barred_here := g_law_barred_here.mono e10
    replace g_law_far := g_law_far.mono e10
    show tSeq _ _ _ [some (.ref sa), some (.int (φ 2)), some (.int (φ 3)), some (.int (φ 4)), some (.int (φ 5)), some (.int (φ 6)), some v_law_root, some v_law_one, some v_law_two, some v_law_barred_here, some v_law_far, some v_law_free_here] H10
    refine q_when (b := false) (et_or (b := false) (a := false) (et_B (ev_showsX (b := false) (d0 := imgQ φ two0) (ex_call (ea_cons (ev_var rfl) ea_nil) fun H0 e0 Q q E => ⟨_, φ, two0, rfl, (show Dx H10 _ (rowsQ φ two0) from g_law_two).mono e0, R, by decide +kernel, q⟩) (fun v G g => dx_imgQ R (by decide +kernel) g) (rn_wf R (wf_of (by decide +kernel))) (ex_tupA (xa_cons (ev_x ev_c (.str _)) (xa_cons (ex_lstA (xa_cons (ev_x (ev_var rfl) (.int _)) (xa_cons (ev_x (ev_var rfl) (.int _)) xa_nil)) (by show 2 ≤ 100000; decide)) xa_nil)) (by show 2 ≤ 100000; decide)) (d := rsD (rnS φ (.ring [4, 3]))) (sh_rs (by show 2 ≤ 65; decide)) (shaped_one _) (not_shows R (by decide +kernel)))) fun _ => et_B (ev_showsX (b := false) (d0 := imgQ φ far0) (ex_call (ea_cons (ev_var rfl) ea_nil) fun H0 e0 Q q E => ⟨_, φ, far0, rfl, (show Dx H10 _ (rowsQ φ far0) from g_law_far).mono e0, R, by decide +kernel, q⟩) (fun v G g => dx_imgQ R (by decide +kernel) g) (rn_wf R (wf_of (by decide +kernel))) (ex_tupA (xa_cons (ev_x ev_c (.str _)) (xa_cons (ex_lstA (xa_cons (ev_x (ev_var rfl) (.int _)) (xa_cons (ev_x (ev_var rfl) (.int _)) (xa_cons (ev_x (ev_var rfl) (.int _)) xa_nil))) (by show 3 ≤ 100000; decide)) xa_nil)) (by show 2 ≤ 100000; decide)) (d := rsD (rnS φ (.ring [3, 5, 4]))) (sh_rs (by show 3 ≤ 65; decide)) (shaped_one _) (not_shows R (by decide +kernel)))) (fun hb => nomatch hb) fun _ H11 e11 => ?_
    replace g_law_root := g_law_root.mono e11
    replace g_law_one := g_law_one.mono e11
    replace g_law_two := g_law_two.mono e11
    replace g_law_barred_here := g_law_barred_here.mono e11
    replace g_law_far := g_law_far.mono e11
    replace g_law_free_here := g_law_free_here.mono e11
    have cB : SpV spBarred ([v_law_barred_here] ++ []) H11 (.bl true) := fun H0 e0 Q q E => ⟨_, φ, cs_kringsB, rfl, (show Dx H11 _ (.list (cs_kringsB.map (caseB φ))) from g_law_barred_here).mono e0, R, by decide +kernel, q⟩
    have cF : SpV spFree ([v_law_free_here] ++ []) H11 (.bl true) := fun H0 e0 Q q E => ⟨_, φ, cs_kringsF, rfl, (show Dx H11 _ (.list (cs_kringsF.map (caseF φ))) from g_law_free_here).mono e0, R, by decide +kernel, q⟩
    exact s_ret (ev_andV (ev_call (ea_cons (ev_var rfl) ea_nil) cB) fun _ => (ev_call (ea_cons (ev_var rfl) ea_nil) cF)) fun H0 e0 => q H0 (((((((((((e1.trans e2).trans e3).trans e4).trans e5).trans e6).trans e7).trans e8).trans e9).trans e10).trans e11).trans e0)
end
end KB
set_option Elab.async false
set_option linter.all false
set_option maxRecDepth 100000
set_option maxHeartbeats 4000000
namespace KB
open PySem PySem.Spec PyProof.Rows L2 Evl
abbrev sRightK : Stmt := topS 44
abbrev nRightK : List Str := ["_law_box_here", "_law_left", "_law_some", "_law_turn", "_law_g"]
theorem scRightK : FnScope nRightK ["_law_box_here"] (defScope sRightK) := ⟨rfl, rfl, rfl, by decide +kernel, rfl, by decide +kernel, by decide +kernel⟩
def spRightK : Sp := fun vs H Q _ => ∃ (p : Addr) (c : Int), vs = [.ref p] ∧ Src H p c ∧ c ≤ 1000 ∧ ∀ H', Off p H H' → Q (.bl true) H'
abbrev sLawK : Stmt := topS 45
abbrev nLawK : List Str := ["_law_script", "_law_k"]
theorem scLawK : FnScope nLawK ["_law_script"] (defScope sLawK) := ⟨rfl, rfl, rfl, by decide +kernel, rfl, by decide +kernel, by decide +kernel⟩
def spLaw (K : PySem.W.Frag) : Sp := fun vs H Q _ => ∃ (a : Addr) (ns : List Int), vs = [.ref a] ∧ SqL K H a (ns.map V.int) ∧ ns.length ≤ 63 ∧ ∀ H', Q (.bl true) H'
def pool28 : List Int := [2, 3, 4, 5, 6, 7, 8, 9, 10, 11, 12, 13, 14, 15, 16, 17, 18, 19, 20, 21, 22, 23, 24, 25, 26, 27, 28, 29]
theorem five_of {l : List Int} (h : l.length = 5) : ∃ a b c d e, l = [a, b, c, d, e] := by
  cases l with
  | nil => cases h
  | cons a l => cases l with
    | nil => cases h
    | cons b l => cases l with
      | nil => cases h
      | cons c l => cases l with
        | nil => cases h
        | cons d l => cases l with
          | nil => cases h
          | cons e l => cases l with
            | nil => exact ⟨a, b, c, d, e, rfl⟩
            | cons f l => simp at h
section
variable {P : Program} {w : World} {K : PySem.W.Frag} {mg : Str → Option Value} {base : Heap} {f : Addr} {fd : FuncData}
theorem ok_rightK (F : Fun K "_law_right" "_law_right" sRightK f fd) (G__law_take : Kf P w K mg base 1 "_law_take" ["_law_box_here", "_law_below"] spTake) (G__law_led_right : Kf P w K mg base 9 "_law_led_right" ["_law_some", "_law_g"] spKled)
    (G__law_lost_right : Kf P w K mg base 9 "_law_lost_right" ["_law_some", "_law_g"] spKlost) (G__law_rings_right : Kf P w K mg base 9 "_law_rings_right" ["_law_some"] spKrings)
    (m_list : mg "list" = none) (m_range : mg "range" = none) (m_len : mg "len" = none) (m_sorted : mg "sorted" = none) : FnOk P w K mg base CX0 10 f fd ["_law_box_here"] spRightK := by
  refine F.ok scRightK (fun vs H Q E h => ?_) (fun cdv A outer s H vs Q E hr h => ?_)
  · obtain ⟨p, c, rfl, _⟩ := h
    rfl
  · obtain ⟨p, c, rfl, S, hc, q⟩ := h
    have nd := scRightK.nd
    have hu := hu_of hr
    refine ⟨_, (pss_cons (ps_par (i := 1) (j := 2) (by rfl) nd rfl rfl (by decide) rfl rfl (pa_cons (pe_listRg rfl (by rfl) m_list (prg_2 (by rfl) m_range pe_int pe_int)) (pa_cons (pe_lst pa_nil) pa_nil)) (by rfl))
      (pss_cons (ps_for PassesOwn.never rfl (pi_range1 (by rfl) m_range (pa_cons pe_int pa_nil)) (pg_name (i := 3) nd rfl (by first | exact .inl rfl | exact .inr rfl)) (pss_one (ps_expr (pe_bm PySem.F.plainAttrs_list PySem.F.slot_list_append PySem.F.type_list_append mt_append (pv 2) (pa_cons (pe_bm PySem.F.plainAttrs_list PySem.F.slot_list_pop PySem.F.type_list_pop mt_popAt (pv 1) (pa_cons (pe_fn G__law_take (hr.mono (by decide)) (pa_cons (pv 0) (pa_cons (pe_callB call_len_seq (by rfl) m_len (by decide +kernel) (pa_cons (pv 1) pa_nil)) pa_nil))) pa_nil)) pa_nil)))))
      (pss_cons (ps_par (i := 2) (j := 4) (by rfl) nd rfl rfl (by decide) rfl rfl (pa_cons (pe_callB cr_sorted (by rfl) m_sorted (by decide +kernel) (pa_cons (pv 2) pa_nil)) (pa_cons (pe_op op_add pe_int (pe_fn G__law_take (hr.mono (by decide)) (pa_cons (pv 0) (pa_cons pe_int pa_nil)))) pa_nil)) (by rfl))
      (pss_one (ps_ret (pe_and (pe_fn G__law_led_right (hr.mono (by decide)) (pa_cons (pv 2) (pa_cons (pv 4) pa_nil))) (pe_and (pe_fn G__law_lost_right (hr.mono (by decide)) (pa_cons (pv 2) (pa_cons (pv 4) pa_nil))) (pe_one (pe_fn G__law_rings_right (hr.mono (by decide)) (pa_cons (pv 2) pa_nil)))))))))), ?_⟩
    refine ⟨2, 30, rfl, rfl, ⟨by decide, by decide, by decide, by decide⟩, fun L0 nL => ⟨by show 0 ≤ sizeLine; decide, fun q0 nq => ⟨_, _, rfl, ?_⟩⟩⟩
    have e1 : Ex H (upd (upd H L0 (.lst (rgV 2 30))) q0 (.lst [])) := (Ex.new nL).trans (Ex.new nq)
    have npq : H q0 = none := fresh_back (Ex.new nL) nq
    have neq : L0 ≠ q0 := fun z => by rw [← z, upd_same] at nq; cases nq
    have gL : upd (upd H L0 (.lst (rgV 2 30))) q0 (.lst []) L0 = some (.lst (pool28.map V.int)) := by
      rw [upd_ne neq, upd_same]
      rfl
    have gq : upd (upd H L0 (.lst (rgV 2 30))) q0 (.lst []) q0 = some (.lst []) := upd_same
    generalize upd (upd H L0 (.lst (rgV 2 30))) q0 (.lst []) = H1 at e1 gL gq ⊢
    have pL : L0 ≠ p := fun z => by
      obtain ⟨_, _, h, _⟩ := S
      rw [z, h] at nL
      cases nL
    have pq : q0 ≠ p := fun z => by
      obtain ⟨_, _, h, _⟩ := S
      rw [z, h] at npq
      cases npq
    have S1 := S.ex e1
    refine ⟨5, rfl, by decide, by decide, ?_⟩
    refine for_it (walk_range (lo := 0) (n := 5)) (fun i σ G => (∃ y3 y4, σ = [some (.ref p), some (.ref L0), some (.ref q0), y3, y4]) ∧ Off p H G ∧ ∃ (left found : List Int) (c2 : Int), G L0 = some (.lst (left.map V.int)) ∧ G q0 = some (.lst (found.map V.int)) ∧
        left.Nodup ∧ found.Nodup ∧ (∀ n ∈ found, n ∉ left) ∧ (∀ n ∈ left, 2 ≤ n ∧ n ≤ 29) ∧ (∀ n ∈ found, 2 ≤ n ∧ n ≤ 29) ∧ found.length = i ∧ left.length + i = 28 ∧ Src G p c2 ∧ c2 ≤ 1000 + i)
      ⟨⟨_, _, rfl⟩, fun b o nb h => e1 _ _ h, pool28, [], c, gL, gq, by decide, List.nodup_nil, fun n m => (nomatch m), by decide, fun n m => (nomatch m), rfl, rfl, S1, by omega⟩ (fun _ _ _ _ _ => True.intro) ?_ ?_
    · rintro i x σ G G' hi ⟨⟨y3, y4, rfl⟩, oG, left, found, c2, hL, hq, ndl, ndf, dis, il, ifo, lf, ll, S3, c21⟩ ⟨rfl, rfl⟩
      refine ⟨_, rfl, .inl ⟨rfl, _, SqL.of hq⟩, _, rfl, .inl ⟨rfl, _, SqL.of hL⟩, _, rfl, _, rfl, L0, _, rfl, .inl (SqL.of hL), p, c2, _, rfl, S3, by omega, by rw [List.length_map]; omega, by rw [List.length_map]; omega, fun t c3 zs t0 t1 c30 c31 S4 => ?_⟩
      obtain ⟨j, rfl⟩ : ∃ j : Nat, t = (j : Int) := ⟨t.toNat, by omega⟩
      rw [List.length_map] at t1
      have hj : j < left.length := by omega
      have ej : left[j]? = some left[j] := List.getElem?_eq_getElem hj
      have mj : left[j] ∈ left := List.getElem_mem hj
      refine ⟨L0, left.map V.int, _, j, .int left[j], rfl, rfl, (upd_ne pL).trans hL, by omega, by omega, ?_, by rw [List.getElem?_map, ej]; rfl, ?_⟩
      · rw [List.length_map]
        unfold seqIndex?
        simp
        omega
      · refine ⟨q0, found.map V.int, _, rfl, rfl, by rw [upd_ne neq.symm, upd_ne pq]; exact hq, by rw [List.length_map]; exact sz_lt (by omega), ⟨_, _, rfl⟩, fun b o nb h => ?_, left.eraseIdx j, found ++ [left[j]], c3, ?_, ?_, nodup_erase ndl j, ?_, ?_, ?_, ?_, ?_, ?_, ?_, by omega⟩
        · rw [upd_ne (ne_of_none h npq), upd_ne (ne_of_none h nL), upd_ne nb]
          exact oG b o nb h
        · rw [upd_ne neq, upd_same, erase_ints]
        · rw [upd_same, List.map_append]
          rfl
        · refine List.nodup_append.mpr ⟨ndf, by simp, fun b mb b' mb' z => ?_⟩
          have e' : b' = left[j] := by simpa using mb'
          exact dis b mb (by rw [z, e']; exact mj)
        · intro n mn
          rcases List.mem_append.mp mn with mn | mn
          · exact fun z => dis n mn ((List.eraseIdx_sublist left j).subset z)
          · rw [show n = left[j] by simpa using mn]
            exact erase_not ndl ej
        · exact fun n mn => il n ((List.eraseIdx_sublist left j).subset mn)
        · intro n mn
          rcases List.mem_append.mp mn with mn | mn
          · exact ifo n mn
          · rw [show n = left[j] by simpa using mn]
            exact il _ mj
        · rw [List.length_append, lf]
          rfl
        · rw [List.length_eraseIdx, if_pos hj]
          omega
        · obtain ⟨ua, ub, up, ur⟩ := S4
          exact ⟨ua, ub, by rw [upd_ne pq.symm, upd_ne pL.symm]; exact up, ur⟩
    · rintro σ G ⟨⟨y3, y4, rfl⟩, oG, left, found, c2, hL, hq, ndl, ndf, dis, il, ifo, lf, ll, S3, c21⟩
      refine ⟨_, rfl, q0, found, rfl, SqL.of hq, by omega, fun ns s0 pm asc ns0 => ?_⟩
      have nS : s0 ≠ p := fun z => by
        obtain ⟨_, _, h, _⟩ := S3
        rw [z, h] at ns0
        cases ns0
      have S4 := S3.ex (Ex.new (o := .lst (ns.map V.int)) ns0)
      have gs : upd G s0 (.lst (ns.map V.int)) s0 = some (.lst (ns.map V.int)) := upd_same
      have oG2 : Off p H (upd G s0 (.lst (ns.map V.int))) := oG.ex (Ex.new ns0)
      generalize upd G s0 (.lst (ns.map V.int)) = G1 at S4 gs oG2 ⊢
      refine ⟨_, rfl, p, c2, 90, rfl, S4, by omega, by decide, by decide, fun t c3 zs t0 t1 c30 c31 S5 => ⟨_, _, rfl, rfl, _, _, rfl, ?_⟩⟩
      have gs2 : upd G1 p (.lst zs) s0 = some (.lst (ns.map V.int)) := (upd_ne nS).trans gs
      have oG3 : Off p H (upd G1 p (.lst zs)) := fun b o nb h => (upd_ne nb).trans (oG2 b o nb h)
      generalize upd G1 p (.lst zs) = G2 at gs2 oG3 ⊢
      obtain ⟨a, b, c', d, e, rfl⟩ := five_of (l := ns) (by rw [pm.length_eq, lf])
      have ndn : [a, b, c', d, e].Nodup := pm.nodup_iff.mpr ndf
      have bnd : ∀ n ∈ [a, b, c', d, e], 2 ≤ n ∧ n ≤ 29 := fun n m => ifo n (pm.mem_iff.mp m)
      have ba := bnd a (by simp)
      have be := bnd e (by simp)
      simp only [List.nodup_cons, List.mem_cons, List.not_mem_nil, or_false, not_or, List.pairwise_cons, List.nodup_nil, and_true, not_false_eq_true] at ndn asc
      have l1 : a < b := by have := asc.1 b (by simp); omega
      have l2 : b < c' := by have := asc.2.1 c' (by simp); omega
      have l3 : c' < d := by have := asc.2.2.1 d (by simp); omega
      have l4 : d < e := by have := asc.2.2.2.1 e (by simp); omega
      have R : Ren (ph a b c' d e (31 + t)) := ph_ren (by omega) l1 l2 l3 l4 (by omega) (by omega)
      have gs3 : G2 s0 = some (.lst [.int (ph a b c' d e (31 + t) 2), .int (ph a b c' d e (31 + t) 3), .int (ph a b c' d e (31 + t) 4), .int (ph a b c' d e (31 + t) 5), .int (ph a b c' d e (31 + t) 6)]) := gs2
      have p7 : ph a b c' d e (31 + t) 7 = 31 + t := rfl
      have p8 : ph a b c' d e (31 + t) 8 = 180 := rfl
      have p9 : ph a b c' d e (31 + t) 9 = 181 := rfl
      have p10 : ph a b c' d e (31 + t) 10 = 182 := rfl
      generalize ph a b c' d e (31 + t) = φ at R gs3 p7 p8 p9 p10
      have k1 : SpV spKled ([.ref s0, .int (31 + t)] ++ []) G2 (.bl true) := fun H2 e2 Q q E => ⟨s0, φ, by rw [p7]; rfl, e2 _ _ gs3, R, p8, p9, p10, q⟩
      have k2 : SpV spKlost ([.ref s0, .int (31 + t)] ++ []) G2 (.bl true) := fun H2 e2 Q q E => ⟨s0, φ, by rw [p7]; rfl, e2 _ _ gs3, R, p8, p9, p10, q⟩
      have k3 : SpV spKrings ([.ref s0] ++ []) G2 (.bl true) := fun H2 e2 Q q E => ⟨s0, φ, rfl, e2 _ _ gs3, R, p8, p9, p10, q⟩
      exact s_ret (ev_andV (ev_call (ea_cons (ev_var rfl) (ea_cons (ev_var rfl) ea_nil)) k1) fun _ => ev_andV (ev_call (ea_cons (ev_var rfl) (ea_cons (ev_var rfl) ea_nil)) k2) fun _ => ev_call (ea_cons (ev_var rfl) ea_nil) k3) fun H2 e2 => q H2 (oG3.ex e2)
theorem ok_lawK (F : Fun K "law" "law" sLawK f fd) (G__law_box : Kf P w K mg base 1 "_law_box" ["_law_script", "_law_k"] (spBox K)) (G__law_right : Kf P w K mg base 10 "_law_right" ["_law_box_here"] spRightK)
    (m_range : mg "range" = none) (m_len : mg "len" = none) (m_all : mg "all" = none) (m_min : mg "min" = none) : FnOk P w K mg base CX0 11 f fd ["_law_script"] (spLaw K) := by
  refine F.ok scLawK (fun vs H Q E h => ?_) (fun cdv A outer s H vs Q E hr h => ?_)
  · obtain ⟨a, ns, rfl, _⟩ := h
    rfl
  · obtain ⟨a, ns, rfl, hS, hn, q⟩ := h
    refine ⟨_, pss_one (ps_ret (pe_callB (cr_all rfl) (by rfl) m_all (by decide +kernel) (pa_cons (pe_lc (own := [("_law_k", 1)]) (g := gName 1) (tt := tYes) rfl scLawK.nd (pi_range1 (by rfl) m_range (pa_cons (pe_op op_add pe_int (pe_callB (call_min2 rfl) (by rfl) m_min (by decide +kernel) (pa_cons pe_int (pa_cons (pe_callB call_len_seq (by rfl) m_len PySem.boot_len (pa_cons (pv 0) pa_nil)) pa_nil)))) pa_nil)) (blkOk_by (N := nLawK) (sc := defScope sLawK) (by decide +kernel))
        (fun _ _ _ _ _ => pg_name (i := 1) scLawK.nd rfl (Or.inl rfl)) (fun _ _ _ _ _ => pts_nil) (fun _ _ _ _ _ => pe_fn G__law_right (hr.mono (by decide)) (pa_cons (pe_fn G__law_box (hr.mono (by decide)) (pa_cons (pv 0) (pa_cons (pv 1) pa_nil))) pa_nil))) pa_nil))), ?_⟩
    refine ⟨_, rfl, a, _, rfl, .inl hS, ?_⟩
    rw [List.length_map]
    obtain ⟨m, hm, hm3⟩ : ∃ m : Nat, (1 + (if (ns.length : Int) < 3 then (ns.length : Int) else 3)) = (m : Int) ∧ m ≤ 4 := by
      by_cases z : (ns.length : Int) < 3
      · rw [if_pos z]
        exact ⟨1 + ns.length, by omega, by omega⟩
      · rw [if_neg z]
        exact ⟨4, rfl, Nat.le_refl _⟩
    refine ⟨3, _, rfl, _, _, rfl, rfl, ?_⟩
    dsimp only
    rw [hm]
    refine ⟨_, rfl, by omega, by omega, fun D nD => ?_⟩
    rw [Int.toNat_natCast]
    refine lc_it (walk_range (lo := 0) (n := m)) (fun j G => Ex H G ∧ G D = some (.lst ((List.replicate j true).map V.bl))) ⟨Ex.new nD, upd_same⟩ (fun _ _ _ _ => True.intro) ?_ ?_
    · rintro j x G G2 hj ⟨eG, gD⟩ ⟨rfl, rfl⟩
      refine ⟨rfl, _, rfl, _, rfl, a, ns, j, by simp, ex_l eG hS, by omega, fun src G5 nsrc sq S0 => ?_⟩
      have n2 : D ≠ src := fun z => by
        rw [← z, gD] at nsrc
        cases nsrc
      have nH := fresh_back eG nsrc
      refine ⟨src, 0, rfl, S0, by decide, fun G6 b6 => ?_⟩
      refine ⟨_, b6 _ _ n2 (sq _ _ gD), ?_, Ex.mut (fun b o h => b6 b o (fun z => by rw [z, nH] at h; cases h) (sq _ _ (eG _ _ h))) nD, ?_⟩
      · rw [List.length_map, List.length_replicate]
        exact Nat.lt_of_le_of_lt (show j ≤ 10 by omega) (by decide)
      · rw [upd_same, List.replicate_succ', List.map_append]
        rfl
    · rintro G ⟨_, gD⟩
      refine ⟨D, _, rfl, sq_of gD, ?_⟩
      rw [show ((List.replicate m true).all id) = true from by simp]
      exact q _
end
end KB
set_option Elab.async false
set_option linter.all false
set_option maxRecDepth 100000
set_option maxHeartbeats 4000000
namespace KY
open PySem PySem.Spec PyProof.Rows L2 Evl
theorem all_mk {l : PySem.W.OpenLaw} {w : World} {K : PySem.W.Frag} {h : Heap} {mg : Str → Option Value} {fa : Addr} (X : K.In h) (G : h.Ns mainGlobals mg) (hfa : mg "law" = some (.ref fa))
    {cKin : Addr}
    {f0 : Addr} {oc0 kV0 dc0 pm0 cd0 ct0 : Value} {od0 an0 : Option Addr} {sl0 : Array (Option Value)}
    {f1 : Addr} {oc1 kV1 dc1 pm1 cd1 ct1 : Value} {od1 an1 : Option Addr} {sl1 : Array (Option Value)}
    {f2 : Addr} {oc2 kV2 dc2 pm2 cd2 ct2 : Value} {od2 an2 : Option Addr} {sl2 : Array (Option Value)}
    {f3 : Addr} {oc3 kV3 dc3 pm3 cd3 ct3 : Value} {od3 an3 : Option Addr} {sl3 : Array (Option Value)}
    {f4 : Addr} {oc4 kV4 dc4 pm4 cd4 ct4 : Value} {od4 an4 : Option Addr} {sl4 : Array (Option Value)}
    {f5 : Addr} {oc5 kV5 dc5 pm5 cd5 ct5 : Value} {od5 an5 : Option Addr} {sl5 : Array (Option Value)}
    {f6 : Addr} {oc6 kV6 dc6 pm6 cd6 ct6 : Value} {od6 an6 : Option Addr} {sl6 : Array (Option Value)}
    {f7 : Addr} {oc7 kV7 dc7 pm7 cd7 ct7 : Value} {od7 an7 : Option Addr} {sl7 : Array (Option Value)}
    {f8 : Addr} {oc8 kV8 dc8 pm8 cd8 ct8 : Value} {od8 an8 : Option Addr} {sl8 : Array (Option Value)}
    {f9 : Addr} {oc9 kV9 dc9 pm9 cd9 ct9 : Value} {od9 an9 : Option Addr} {sl9 : Array (Option Value)}
    {f10 : Addr} {oc10 kV10 dc10 pm10 cd10 ct10 : Value} {od10 an10 : Option Addr} {sl10 : Array (Option Value)}
    {f11 : Addr} {oc11 kV11 dc11 pm11 cd11 ct11 : Value} {od11 an11 : Option Addr} {sl11 : Array (Option Value)}
    {f12 : Addr} {oc12 kV12 dc12 pm12 cd12 ct12 : Value} {od12 an12 : Option Addr} {sl12 : Array (Option Value)}
    {f13 : Addr} {oc13 kV13 dc13 pm13 cd13 ct13 : Value} {od13 an13 : Option Addr} {sl13 : Array (Option Value)}
    {f14 : Addr} {oc14 kV14 dc14 pm14 cd14 ct14 : Value} {od14 an14 : Option Addr} {sl14 : Array (Option Value)}
    {f15 : Addr} {oc15 kV15 dc15 pm15 cd15 ct15 : Value} {od15 an15 : Option Addr} {sl15 : Array (Option Value)}
    {f16 : Addr} {oc16 kV16 dc16 pm16 cd16 ct16 : Value} {od16 an16 : Option Addr} {sl16 : Array (Option Value)}
    {f17 : Addr} {oc17 kV17 dc17 pm17 cd17 ct17 : Value} {od17 an17 : Option Addr} {sl17 : Array (Option Value)}
    {f18 : Addr} {oc18 kV18 dc18 pm18 cd18 ct18 : Value} {od18 an18 : Option Addr} {sl18 : Array (Option Value)}
    {f19 : Addr} {oc19 kV19 dc19 pm19 cd19 ct19 : Value} {od19 an19 : Option Addr} {sl19 : Array (Option Value)}
    {f20 : Addr} {oc20 kV20 dc20 pm20 cd20 ct20 : Value} {od20 an20 : Option Addr} {sl20 : Array (Option Value)}
    {f21 : Addr} {oc21 kV21 dc21 pm21 cd21 ct21 : Value} {od21 an21 : Option Addr} {sl21 : Array (Option Value)}
    {f22 : Addr} {oc22 kV22 dc22 pm22 cd22 ct22 : Value} {od22 an22 : Option Addr} {sl22 : Array (Option Value)}
    {f23 : Addr} {oc23 kV23 dc23 pm23 cd23 ct23 : Value} {od23 an23 : Option Addr} {sl23 : Array (Option Value)}
    {f24 : Addr} {oc24 kV24 dc24 pm24 cd24 ct24 : Value} {od24 an24 : Option Addr} {sl24 : Array (Option Value)}
    {f25 : Addr} {oc25 kV25 dc25 pm25 cd25 ct25 : Value} {od25 an25 : Option Addr} {sl25 : Array (Option Value)}
    {f26 : Addr} {oc26 kV26 dc26 pm26 cd26 ct26 : Value} {od26 an26 : Option Addr} {sl26 : Array (Option Value)}
    {f27 : Addr} {oc27 kV27 dc27 pm27 cd27 ct27 : Value} {od27 an27 : Option Addr} {sl27 : Array (Option Value)}
    {f28 : Addr} {oc28 kV28 dc28 pm28 cd28 ct28 : Value} {od28 an28 : Option Addr} {sl28 : Array (Option Value)}
    {f29 : Addr} {oc29 kV29 dc29 pm29 cd29 ct29 : Value} {od29 an29 : Option Addr} {sl29 : Array (Option Value)}
    {f30 : Addr} {oc30 kV30 dc30 pm30 cd30 ct30 : Value} {od30 an30 : Option Addr} {sl30 : Array (Option Value)}
    {f31 : Addr} {oc31 kV31 dc31 pm31 cd31 ct31 : Value} {od31 an31 : Option Addr} {sl31 : Array (Option Value)}
    {f32 : Addr} {oc32 kV32 dc32 pm32 cd32 ct32 : Value} {od32 an32 : Option Addr} {sl32 : Array (Option Value)}
    {f33 : Addr} {oc33 kV33 dc33 pm33 cd33 ct33 : Value} {od33 an33 : Option Addr} {sl33 : Array (Option Value)}
    {f34 : Addr} {oc34 kV34 dc34 pm34 cd34 ct34 : Value} {od34 an34 : Option Addr} {sl34 : Array (Option Value)}
    {f35 : Addr} {oc35 kV35 dc35 pm35 cd35 ct35 : Value} {od35 an35 : Option Addr} {sl35 : Array (Option Value)}
    {f36 : Addr} {oc36 kV36 dc36 pm36 cd36 ct36 : Value} {od36 an36 : Option Addr} {sl36 : Array (Option Value)}
    {f37 : Addr} {oc37 kV37 dc37 pm37 cd37 ct37 : Value} {od37 an37 : Option Addr} {sl37 : Array (Option Value)}
    {f38 : Addr} {oc38 kV38 dc38 pm38 cd38 ct38 : Value} {od38 an38 : Option Addr} {sl38 : Array (Option Value)}
    {f39 : Addr} {oc39 kV39 dc39 pm39 cd39 ct39 : Value} {od39 an39 : Option Addr} {sl39 : Array (Option Value)}
    {tFIRST : Tok}
    (gKin : PySem.W.nsIn K mainGlobals "Kin" = some (some (.ref cKin)))
    (a0 : PySem.W.nsIn K mainGlobals "sessions_of" = some (some (.ref f0)))
    (l0 : K.lookup f0 = some ⟨oc0, od0, .func (PySem.W.fnOf "sessions_of" "sessions_of" (defArgs KB.sSessions) (defBody KB.sSessions) (defScope KB.sSessions) .none kV0 dc0 pm0 an0 cd0 ct0), sl0⟩)
    (c0 : PySem.W.codeIn K cd0 "sessions_of" = true)
    (k0 : PySem.W.keepIn K (.ref f0) = true)
    (a1 : PySem.W.nsIn K mainGlobals "groups_of" = some (some (.ref f1)))
    (l1 : K.lookup f1 = some ⟨oc1, od1, .func (PySem.W.fnOf "groups_of" "groups_of" (defArgs KB.sGroups) (defBody KB.sGroups) (defScope KB.sGroups) .none kV1 dc1 pm1 an1 cd1 ct1), sl1⟩)
    (c1 : PySem.W.codeIn K cd1 "groups_of" = true)
    (k1 : PySem.W.keepIn K (.ref f1) = true)
    (a2 : PySem.W.nsIn K mainGlobals "is_led" = some (some (.ref f2)))
    (l2 : K.lookup f2 = some ⟨oc2, od2, .func (PySem.W.fnOf "is_led" "is_led" (defArgs KB.sIsLed) (defBody KB.sIsLed) (defScope KB.sIsLed) .none kV2 dc2 pm2 an2 cd2 ct2), sl2⟩)
    (c2 : PySem.W.codeIn K cd2 "is_led" = true)
    (k2 : PySem.W.keepIn K (.ref f2) = true)
    (a3 : PySem.W.nsIn K mainGlobals "is_top" = some (some (.ref f3)))
    (l3 : K.lookup f3 = some ⟨oc3, od3, .func (PySem.W.fnOf "is_top" "is_top" (defArgs KB.sIsTop) (defBody KB.sIsTop) (defScope KB.sIsTop) .none kV3 dc3 pm3 an3 cd3 ct3), sl3⟩)
    (c3 : PySem.W.codeIn K cd3 "is_top" = true)
    (k3 : PySem.W.keepIn K (.ref f3) = true)
    (a4 : PySem.W.nsIn K mainGlobals "tops" = some (some (.ref f4)))
    (l4 : K.lookup f4 = some ⟨oc4, od4, .func (PySem.W.fnOf "tops" "tops" (defArgs KB.sTops) (defBody KB.sTops) (defScope KB.sTops) .none kV4 dc4 pm4 an4 cd4 ct4), sl4⟩)
    (c4 : PySem.W.codeIn K cd4 "tops" = true)
    (k4 : PySem.W.keepIn K (.ref f4) = true)
    (a5 : PySem.W.nsIn K mainGlobals "other_tops" = some (some (.ref f5)))
    (l5 : K.lookup f5 = some ⟨oc5, od5, .func (PySem.W.fnOf "other_tops" "other_tops" (defArgs KB.sOthers) (defBody KB.sOthers) (defScope KB.sOthers) .none kV5 dc5 pm5 an5 cd5 ct5), sl5⟩)
    (c5 : PySem.W.codeIn K cd5 "other_tops" = true)
    (k5 : PySem.W.keepIn K (.ref f5) = true)
    (a6 : PySem.W.nsIn K mainGlobals "all_above" = some (some (.ref f6)))
    (l6 : K.lookup f6 = some ⟨oc6, od6, .func (PySem.W.fnOf "all_above" "all_above" (defArgs KB.sAbove) (defBody KB.sAbove) (defScope KB.sAbove) .none kV6 dc6 pm6 an6 cd6 ct6), sl6⟩)
    (c6 : PySem.W.codeIn K cd6 "all_above" = true)
    (k6 : PySem.W.keepIn K (.ref f6) = true)
    (a7 : PySem.W.nsIn K mainGlobals "adopter_over" = some (some (.ref f7)))
    (l7 : K.lookup f7 = some ⟨oc7, od7, .func (PySem.W.fnOf "adopter_over" "adopter_over" (defArgs KB.sAdopter) (defBody KB.sAdopter) (defScope KB.sAdopter) .none kV7 dc7 pm7 an7 cd7 ct7), sl7⟩)
    (c7 : PySem.W.codeIn K cd7 "adopter_over" = true)
    (k7 : PySem.W.keepIn K (.ref f7) = true)
    (a8 : PySem.W.nsIn K mainGlobals "bars_session" = some (some (.ref f8)))
    (l8 : K.lookup f8 = some ⟨oc8, od8, .func (PySem.W.fnOf "bars_session" "bars_session" (defArgs KB.sBarsS) (defBody KB.sBarsS) (defScope KB.sBarsS) .none kV8 dc8 pm8 an8 cd8 ct8), sl8⟩)
    (c8 : PySem.W.codeIn K cd8 "bars_session" = true)
    (k8 : PySem.W.keepIn K (.ref f8) = true)
    (a9 : PySem.W.nsIn K mainGlobals "bars_group" = some (some (.ref f9)))
    (l9 : K.lookup f9 = some ⟨oc9, od9, .func (PySem.W.fnOf "bars_group" "bars_group" (defArgs KB.sBarsG) (defBody KB.sBarsG) (defScope KB.sBarsG) .none kV9 dc9 pm9 an9 cd9 ct9), sl9⟩)
    (c9 : PySem.W.codeIn K cd9 "bars_group" = true)
    (k9 : PySem.W.keepIn K (.ref f9) = true)
    (a10 : PySem.W.nsIn K mainGlobals "first_session" = some (some (.ref f10)))
    (l10 : K.lookup f10 = some ⟨oc10, od10, .func (PySem.W.fnOf "first_session" "first_session" (defArgs KB.sFirstS) (defBody KB.sFirstS) (defScope KB.sFirstS) .none kV10 dc10 pm10 an10 cd10 ct10), sl10⟩)
    (c10 : PySem.W.codeIn K cd10 "first_session" = true)
    (k10 : PySem.W.keepIn K (.ref f10) = true)
    (a11 : PySem.W.nsIn K mainGlobals "first_group" = some (some (.ref f11)))
    (l11 : K.lookup f11 = some ⟨oc11, od11, .func (PySem.W.fnOf "first_group" "first_group" (defArgs KB.sFirstG) (defBody KB.sFirstG) (defScope KB.sFirstG) .none kV11 dc11 pm11 an11 cd11 ct11), sl11⟩)
    (c11 : PySem.W.codeIn K cd11 "first_group" = true)
    (k11 : PySem.W.keepIn K (.ref f11) = true)
    (a12 : PySem.W.nsIn K mainGlobals "needs" = some (some (.ref f12)))
    (l12 : K.lookup f12 = some ⟨oc12, od12, .func (PySem.W.fnOf "needs" "needs" (defArgs KB.sNeeds) (defBody KB.sNeeds) (defScope KB.sNeeds) .none kV12 dc12 pm12 an12 cd12 ct12), sl12⟩)
    (c12 : PySem.W.codeIn K cd12 "needs" = true)
    (k12 : PySem.W.keepIn K (.ref f12) = true)
    (a13 : PySem.W.nsIn K mainGlobals "ring_from" = some (some (.ref f13)))
    (l13 : K.lookup f13 = some ⟨oc13, od13, .func (PySem.W.fnOf "ring_from" "ring_from" (defArgs KB.sRing) (defBody KB.sRing) (defScope KB.sRing) .none kV13 dc13 pm13 an13 cd13 ct13), sl13⟩)
    (c13 : PySem.W.codeIn K cd13 "ring_from" = true)
    (k13 : PySem.W.keepIn K (.ref f13) = true)
    (a14 : PySem.W.findIn K (.ref cKin) "__init__" = some (some (.ref f14)))
    (i14 : PySem.W.isFn K (.ref f14) = true)
    (l14 : K.lookup f14 = some ⟨oc14, od14, .func (PySem.W.fnOf "__init__" "Kin.__init__" (defArgs KB.sInit) (defBody KB.sInit) (defScope KB.sInit) .none kV14 dc14 pm14 an14 cd14 ct14), sl14⟩)
    (c14 : PySem.W.codeIn K cd14 "Kin.__init__" = true)
    (k14 : PySem.W.keepIn K (.ref f14) = true)
    (a15 : PySem.W.nsIn K mainGlobals "first_ring" = some (some (.ref f15)))
    (l15 : K.lookup f15 = some ⟨oc15, od15, .func (PySem.W.fnOf "first_ring" "first_ring" (defArgs KB.sFirstR) (defBody KB.sFirstR) (defScope KB.sFirstR) .none kV15 dc15 pm15 an15 cd15 ct15), sl15⟩)
    (c15 : PySem.W.codeIn K cd15 "first_ring" = true)
    (k15 : PySem.W.keepIn K (.ref f15) = true)
    (a16 : PySem.W.nsIn K mainGlobals "bar" = some (some (.ref f16)))
    (l16 : K.lookup f16 = some ⟨oc16, od16, .func (PySem.W.fnOf "bar" "bar" (defArgs KB.sBar) (defBody KB.sBar) (defScope KB.sBar) .none kV16 dc16 pm16 an16 cd16 ct16), sl16⟩)
    (c16 : PySem.W.codeIn K cd16 "bar" = true)
    (k16 : PySem.W.keepIn K (.ref f16) = true)
    (a17 : PySem.W.nsIn K mainGlobals "_law_take" = some (some (.ref f17)))
    (l17 : K.lookup f17 = some ⟨oc17, od17, .func (PySem.W.fnOf "_law_take" "_law_take" (defArgs KB.sTake) (defBody KB.sTake) (defScope KB.sTake) .none kV17 dc17 pm17 an17 cd17 ct17), sl17⟩)
    (c17 : PySem.W.codeIn K cd17 "_law_take" = true)
    (k17 : PySem.W.keepIn K (.ref f17) = true)
    (a18 : PySem.W.nsIn K mainGlobals "_law_box" = some (some (.ref f18)))
    (l18 : K.lookup f18 = some ⟨oc18, od18, .func (PySem.W.fnOf "_law_box" "_law_box" (defArgs KB.sBox) (defBody KB.sBox) (defScope KB.sBox) .none kV18 dc18 pm18 an18 cd18 ct18), sl18⟩)
    (c18 : PySem.W.codeIn K cd18 "_law_box" = true)
    (k18 : PySem.W.keepIn K (.ref f18) = true)
    (a19 : PySem.W.nsIn K mainGlobals "_law_same" = some (some (.ref f19)))
    (l19 : K.lookup f19 = some ⟨oc19, od19, .func (PySem.W.fnOf "_law_same" "_law_same" (defArgs KB.sSame) (defBody KB.sSame) (defScope KB.sSame) .none kV19 dc19 pm19 an19 cd19 ct19), sl19⟩)
    (c19 : PySem.W.codeIn K cd19 "_law_same" = true)
    (k19 : PySem.W.keepIn K (.ref f19) = true)
    (a20 : PySem.W.nsIn K mainGlobals "is_number" = some (some (.ref f20)))
    (l20 : K.lookup f20 = some ⟨oc20, od20, .func (PySem.W.fnOf "is_number" "is_number" (defArgs KB.sIsNum) (defBody KB.sIsNum) (defScope KB.sIsNum) .none kV20 dc20 pm20 an20 cd20 ct20), sl20⟩)
    (c20 : PySem.W.codeIn K cd20 "is_number" = true)
    (k20 : PySem.W.keepIn K (.ref f20) = true)
    (a21 : PySem.W.nsIn K mainGlobals "shows_ring" = some (some (.ref f21)))
    (l21 : K.lookup f21 = some ⟨oc21, od21, .func (PySem.W.fnOf "shows_ring" "shows_ring" (defArgs KB.sShowsR) (defBody KB.sShowsR) (defScope KB.sShowsR) .none kV21 dc21 pm21 an21 cd21 ct21), sl21⟩)
    (c21 : PySem.W.codeIn K cd21 "shows_ring" = true)
    (k21 : PySem.W.keepIn K (.ref f21) = true)
    (a22 : PySem.W.nsIn K mainGlobals "shows_bar" = some (some (.ref f22)))
    (l22 : K.lookup f22 = some ⟨oc22, od22, .func (PySem.W.fnOf "shows_bar" "shows_bar" (defArgs KB.sShowsB) (defBody KB.sShowsB) (defScope KB.sShowsB) .none kV22 dc22 pm22 an22 cd22 ct22), sl22⟩)
    (c22 : PySem.W.codeIn K cd22 "shows_bar" = true)
    (k22 : PySem.W.keepIn K (.ref f22) = true)
    (a23 : PySem.W.nsIn K mainGlobals "is_lost" = some (some (.ref f23)))
    (l23 : K.lookup f23 = some ⟨oc23, od23, .func (PySem.W.fnOf "is_lost" "is_lost" (defArgs KB.sIsLost) (defBody KB.sIsLost) (defScope KB.sIsLost) .none kV23 dc23 pm23 an23 cd23 ct23), sl23⟩)
    (c23 : PySem.W.codeIn K cd23 "is_lost" = true)
    (k23 : PySem.W.keepIn K (.ref f23) = true)
    (a24 : PySem.W.nsIn K mainGlobals "has_ended" = some (some (.ref f24)))
    (l24 : K.lookup f24 = some ⟨oc24, od24, .func (PySem.W.fnOf "has_ended" "has_ended" (defArgs KB.sEnded) (defBody KB.sEnded) (defScope KB.sEnded) .none kV24 dc24 pm24 an24 cd24 ct24), sl24⟩)
    (c24 : PySem.W.codeIn K cd24 "has_ended" = true)
    (k24 : PySem.W.keepIn K (.ref f24) = true)
    (a25 : PySem.W.nsIn K mainGlobals "lost_sessions" = some (some (.ref f25)))
    (l25 : K.lookup f25 = some ⟨oc25, od25, .func (PySem.W.fnOf "lost_sessions" "lost_sessions" (defArgs KB.sLost) (defBody KB.sLost) (defScope KB.sLost) .none kV25 dc25 pm25 an25 cd25 ct25), sl25⟩)
    (c25 : PySem.W.codeIn K cd25 "lost_sessions" = true)
    (k25 : PySem.W.keepIn K (.ref f25) = true)
    (a26 : PySem.W.nsIn K mainGlobals "helper_groups" = some (some (.ref f26)))
    (l26 : K.lookup f26 = some ⟨oc26, od26, .func (PySem.W.fnOf "helper_groups" "helper_groups" (defArgs KB.sEmpties) (defBody KB.sEmpties) (defScope KB.sEmpties) .none kV26 dc26 pm26 an26 cd26 ct26), sl26⟩)
    (c26 : PySem.W.codeIn K cd26 "helper_groups" = true)
    (k26 : PySem.W.keepIn K (.ref f26) = true)
    (a27 : PySem.W.nsIn K mainGlobals "helper_groups_in" = some (some (.ref f27)))
    (l27 : K.lookup f27 = some ⟨oc27, od27, .func (PySem.W.fnOf "helper_groups_in" "helper_groups_in" (defArgs KB.sEmptiesIn) (defBody KB.sEmptiesIn) (defScope KB.sEmptiesIn) .none kV27 dc27 pm27 an27 cd27 ct27), sl27⟩)
    (c27 : PySem.W.codeIn K cd27 "helper_groups_in" = true)
    (k27 : PySem.W.keepIn K (.ref f27) = true)
    (a28 : PySem.W.nsIn K mainGlobals "can_bear" = some (some (.ref f28)))
    (l28 : K.lookup f28 = some ⟨oc28, od28, .func (PySem.W.fnOf "can_bear" "can_bear" (defArgs KB.sBear) (defBody KB.sBear) (defScope KB.sBear) .none kV28 dc28 pm28 an28 cd28 ct28), sl28⟩)
    (c28 : PySem.W.codeIn K cd28 "can_bear" = true)
    (k28 : PySem.W.keepIn K (.ref f28) = true)
    (a29 : PySem.W.nsIn K mainGlobals "bearer" = some (some (.ref f29)))
    (l29 : K.lookup f29 = some ⟨oc29, od29, .func (PySem.W.fnOf "bearer" "bearer" (defArgs KB.sBearer) (defBody KB.sBearer) (defScope KB.sBearer) .none kV29 dc29 pm29 an29 cd29 ct29), sl29⟩)
    (c29 : PySem.W.codeIn K cd29 "bearer" = true)
    (k29 : PySem.W.keepIn K (.ref f29) = true)
    (a30 : PySem.W.nsIn K mainGlobals "further_sessions" = some (some (.ref f30)))
    (l30 : K.lookup f30 = some ⟨oc30, od30, .func (PySem.W.fnOf "further_sessions" "further_sessions" (defArgs KB.sFurther) (defBody KB.sFurther) (defScope KB.sFurther) .none kV30 dc30 pm30 an30 cd30 ct30), sl30⟩)
    (c30 : PySem.W.codeIn K cd30 "further_sessions" = true)
    (k30 : PySem.W.keepIn K (.ref f30) = true)
    (a31 : PySem.W.nsIn K mainGlobals "helpers" = some (some (.ref f31)))
    (l31 : K.lookup f31 = some ⟨oc31, od31, .func (PySem.W.fnOf "helpers" "helpers" (defArgs KB.sHelpers) (defBody KB.sHelpers) (defScope KB.sHelpers) .none kV31 dc31 pm31 an31 cd31 ct31), sl31⟩)
    (c31 : PySem.W.codeIn K cd31 "helpers" = true)
    (k31 : PySem.W.keepIn K (.ref f31) = true)
    (a32 : PySem.W.nsIn K mainGlobals "_law_image" = some (some (.ref f32)))
    (l32 : K.lookup f32 = some ⟨oc32, od32, .func (PySem.W.fnOf "_law_image" "_law_image" (defArgs KB.sImageQ) (defBody KB.sImageQ) (defScope KB.sImageQ) .none kV32 dc32 pm32 an32 cd32 ct32), sl32⟩)
    (c32 : PySem.W.codeIn K cd32 "_law_image" = true)
    (k32 : PySem.W.keepIn K (.ref f32) = true)
    (a33 : PySem.W.nsIn K mainGlobals "_law_free" = some (some (.ref f33)))
    (l33 : K.lookup f33 = some ⟨oc33, od33, .func (PySem.W.fnOf "_law_free" "_law_free" (defArgs KB.sFree) (defBody KB.sFree) (defScope KB.sFree) .none kV33 dc33 pm33 an33 cd33 ct33), sl33⟩)
    (c33 : PySem.W.codeIn K cd33 "_law_free" = true)
    (k33 : PySem.W.keepIn K (.ref f33) = true)
    (a34 : PySem.W.nsIn K mainGlobals "_law_barred" = some (some (.ref f34)))
    (l34 : K.lookup f34 = some ⟨oc34, od34, .func (PySem.W.fnOf "_law_barred" "_law_barred" (defArgs KB.sBarred) (defBody KB.sBarred) (defScope KB.sBarred) .none kV34 dc34 pm34 an34 cd34 ct34), sl34⟩)
    (c34 : PySem.W.codeIn K cd34 "_law_barred" = true)
    (k34 : PySem.W.keepIn K (.ref f34) = true)
    (a35 : PySem.W.nsIn K mainGlobals "_law_led_right" = some (some (.ref f35)))
    (l35 : K.lookup f35 = some ⟨oc35, od35, .func (PySem.W.fnOf "_law_led_right" "_law_led_right" (defArgs KB.sKled) (defBody KB.sKled) (defScope KB.sKled) .none kV35 dc35 pm35 an35 cd35 ct35), sl35⟩)
    (c35 : PySem.W.codeIn K cd35 "_law_led_right" = true)
    (k35 : PySem.W.keepIn K (.ref f35) = true)
    (a36 : PySem.W.nsIn K mainGlobals "_law_lost_right" = some (some (.ref f36)))
    (l36 : K.lookup f36 = some ⟨oc36, od36, .func (PySem.W.fnOf "_law_lost_right" "_law_lost_right" (defArgs KB.sKlost) (defBody KB.sKlost) (defScope KB.sKlost) .none kV36 dc36 pm36 an36 cd36 ct36), sl36⟩)
    (c36 : PySem.W.codeIn K cd36 "_law_lost_right" = true)
    (k36 : PySem.W.keepIn K (.ref f36) = true)
    (a37 : PySem.W.nsIn K mainGlobals "_law_rings_right" = some (some (.ref f37)))
    (l37 : K.lookup f37 = some ⟨oc37, od37, .func (PySem.W.fnOf "_law_rings_right" "_law_rings_right" (defArgs KB.sKrings) (defBody KB.sKrings) (defScope KB.sKrings) .none kV37 dc37 pm37 an37 cd37 ct37), sl37⟩)
    (c37 : PySem.W.codeIn K cd37 "_law_rings_right" = true)
    (k37 : PySem.W.keepIn K (.ref f37) = true)
    (a38 : PySem.W.nsIn K mainGlobals "_law_right" = some (some (.ref f38)))
    (l38 : K.lookup f38 = some ⟨oc38, od38, .func (PySem.W.fnOf "_law_right" "_law_right" (defArgs KB.sRightK) (defBody KB.sRightK) (defScope KB.sRightK) .none kV38 dc38 pm38 an38 cd38 ct38), sl38⟩)
    (c38 : PySem.W.codeIn K cd38 "_law_right" = true)
    (k38 : PySem.W.keepIn K (.ref f38) = true)
    (a39 : PySem.W.nsIn K mainGlobals "law" = some (some (.ref f39)))
    (l39 : K.lookup f39 = some ⟨oc39, od39, .func (PySem.W.fnOf "law" "law" (defArgs KB.sLawK) (defBody KB.sLawK) (defScope KB.sLawK) .none kV39 dc39 pm39 an39 cd39 ct39), sl39⟩)
    (c39 : PySem.W.codeIn K cd39 "law" = true)
    (k39 : PySem.W.keepIn K (.ref f39) = true)
    (z0 : PySem.W.nsIn K mainGlobals "sorted" = some none)
    (z1 : PySem.W.nsIn K mainGlobals "set" = some none)
    (z2 : PySem.W.nsIn K mainGlobals "len" = some none)
    (z3 : PySem.W.nsIn K mainGlobals "min" = some none)
    (z4 : PySem.W.nsIn K mainGlobals "abs" = some none)
    (z5 : PySem.W.nsIn K mainGlobals "int" = some none)
    (z6 : PySem.W.nsIn K mainGlobals "isinstance" = some none)
    (z7 : PySem.W.nsIn K mainGlobals "list" = some none)
    (z8 : PySem.W.nsIn K mainGlobals "tuple" = some none)
    (z9 : PySem.W.nsIn K mainGlobals "all" = some none)
    (z10 : PySem.W.nsIn K mainGlobals "zip" = some none)
    (z11 : PySem.W.nsIn K mainGlobals "bool" = some none)
    (z12 : PySem.W.nsIn K mainGlobals "str" = some none)
    (z13 : PySem.W.nsIn K mainGlobals "range" = some none)
    (xFIRST : PySem.W.nsIn K mainGlobals "FIRST" = some (some (.int 1 tFIRST)))
    (pgKin : PySem.W.plainGet K cKin Str.empty = true)
    (hdKin : PySem.W.hasDictIn K cKin = true)
    (poKin : PySem.W.plainOver K cKin = true)
    (saKin : PySem.W.findIn K (.ref cKin) "__setattr__" = some (some (.builtin "object.__setattr__")))
    (mkKin : PySem.W.makesIn K cKin = true)
    (kpKin : PySem.W.keepIn K (.ref cKin) = true)
    (nKin_rows : PySem.W.findIn K (.ref cKin) "rows" = some none)
    (nKin_members : PySem.W.findIn K (.ref cKin) "members" = some none)
    (nKin_parents : PySem.W.findIn K (.ref cKin) "parents" = some none)
    (nKin_sessions : PySem.W.findIn K (.ref cKin) "sessions" = some none)
    (nKin_groups : PySem.W.findIn K (.ref cKin) "groups" = some none)
    (nKin_adopting : PySem.W.findIn K (.ref cKin) "adopting" = some none)
    (nKin_root : PySem.W.findIn K (.ref cKin) "root" = some none) :
    ∃ fd : FuncData, (∀ (s : Shared) (v : Value), BindsTo s fd ⟨[v], []⟩ [("_law_script", v)]) ∧ ∀ base : Heap, K.In base → base.Ns mainGlobals mg → FnOk l.prog w K mg base CX0 11 fa fd ["_law_script"] (KB.spLaw K) := by
  have e := hfa.symm.trans (PySem.W.mg_of X G a39)
  cases e
  have TKin : KB.KT K cKin := ⟨⟨pgKin, hdKin, poKin, saKin⟩, nKin_rows, nKin_members, nKin_parents, nKin_sessions, nKin_groups, nKin_adopting, nKin_root⟩
  have F0 := fun_mk (st := KB.sSessions) l0 c0 k0
  have b0 := F0.binds (ps := ["kin"]) fun _ _ _ _ _ _ us hl => match us, hl with | [_], _ => rfl
  have F1 := fun_mk (st := KB.sGroups) l1 c1 k1
  have b1 := F1.binds (ps := ["kin"]) fun _ _ _ _ _ _ us hl => match us, hl with | [_], _ => rfl
  have F2 := fun_mk (st := KB.sIsLed) l2 c2 k2
  have b2 := F2.binds (ps := ["kin", "session"]) fun _ _ _ _ _ _ us hl => match us, hl with | [_, _], _ => rfl
  have F3 := fun_mk (st := KB.sIsTop) l3 c3 k3
  have b3 := F3.binds (ps := ["kin", "number"]) fun _ _ _ _ _ _ us hl => match us, hl with | [_, _], _ => rfl
  have F4 := fun_mk (st := KB.sTops) l4 c4 k4
  have b4 := F4.binds (ps := ["kin", "session"]) fun _ _ _ _ _ _ us hl => match us, hl with | [_, _], _ => rfl
  have F5 := fun_mk (st := KB.sOthers) l5 c5 k5
  have b5 := F5.binds (ps := ["kin", "session"]) fun _ _ _ _ _ _ us hl => match us, hl with | [_, _], _ => rfl
  have F6 := fun_mk (st := KB.sAbove) l6 c6 k6
  have b6 := F6.binds (ps := ["kin", "number"]) fun _ _ _ _ _ _ us hl => match us, hl with | [_, _], _ => rfl
  have F7 := fun_mk (st := KB.sAdopter) l7 c7 k7
  have b7 := F7.binds (ps := ["kin", "number"]) fun _ _ _ _ _ _ us hl => match us, hl with | [_, _], _ => rfl
  have F8 := fun_mk (st := KB.sBarsS) l8 c8 k8
  have b8 := F8.binds (ps := ["kin", "session", "number"]) fun _ _ _ _ _ _ us hl => match us, hl with | [_, _, _], _ => rfl
  have F9 := fun_mk (st := KB.sBarsG) l9 c9 k9
  have b9 := F9.binds (ps := ["kin", "group"]) fun _ _ _ _ _ _ us hl => match us, hl with | [_, _], _ => rfl
  have F10 := fun_mk (st := KB.sFirstS) l10 c10 k10
  have b10 := F10.binds (ps := ["kin"]) fun _ _ _ _ _ _ us hl => match us, hl with | [_], _ => rfl
  have F11 := fun_mk (st := KB.sFirstG) l11 c11 k11
  have b11 := F11.binds (ps := ["kin"]) fun _ _ _ _ _ _ us hl => match us, hl with | [_], _ => rfl
  have F12 := fun_mk (st := KB.sNeeds) l12 c12 k12
  have b12 := F12.binds (ps := ["kin"]) fun _ _ _ _ _ _ us hl => match us, hl with | [_], _ => rfl
  have F13 := fun_mk (st := KB.sRing) l13 c13 k13
  have b13 := F13.binds (ps := ["needed", "number"]) fun _ _ _ _ _ _ us hl => match us, hl with | [_, _], _ => rfl
  have F14 := fun_mk (st := KB.sInit) l14 c14 k14
  have b14 := F14.binds (ps := ["self", "image"]) fun _ _ _ _ _ _ us hl => match us, hl with | [_, _], _ => rfl
  have F15 := fun_mk (st := KB.sFirstR) l15 c15 k15
  have b15 := F15.binds (ps := ["kin"]) fun _ _ _ _ _ _ us hl => match us, hl with | [_], _ => rfl
  have F16 := fun_mk (st := KB.sBar) l16 c16 k16
  have b16 := F16.binds (ps := ["image"]) fun _ _ _ _ _ _ us hl => match us, hl with | [_], _ => rfl
  have F17 := fun_mk (st := KB.sTake) l17 c17 k17
  have b17 := F17.binds (ps := ["_law_box_here", "_law_below"]) fun _ _ _ _ _ _ us hl => match us, hl with | [_, _], _ => rfl
  have F18 := fun_mk (st := KB.sBox) l18 c18 k18
  have b18 := F18.binds (ps := ["_law_script", "_law_k"]) fun _ _ _ _ _ _ us hl => match us, hl with | [_, _], _ => rfl
  have F19 := fun_mk (st := KB.sSame) l19 c19 k19
  have b19 := F19.binds (ps := ["_law_found", "_law_due"]) fun _ _ _ _ _ _ us hl => match us, hl with | [_, _], _ => rfl
  have F20 := fun_mk (st := KB.sIsNum) l20 c20 k20
  have b20 := F20.binds (ps := ["value"]) fun _ _ _ _ _ _ us hl => match us, hl with | [_], _ => rfl
  have F21 := fun_mk (st := KB.sShowsR) l21 c21 k21
  have b21 := F21.binds (ps := ["kin", "row"]) fun _ _ _ _ _ _ us hl => match us, hl with | [_, _], _ => rfl
  have F22 := fun_mk (st := KB.sShowsB) l22 c22 k22
  have b22 := F22.binds (ps := ["image", "thing"]) fun _ _ _ _ _ _ us hl => match us, hl with | [_, _], _ => rfl
  have F23 := fun_mk (st := KB.sIsLost) l23 c23 k23
  have b23 := F23.binds (ps := ["kin", "session"]) fun _ _ _ _ _ _ us hl => match us, hl with | [_, _], _ => rfl
  have F24 := fun_mk (st := KB.sEnded) l24 c24 k24
  have b24 := F24.binds (ps := ["kin", "number"]) fun _ _ _ _ _ _ us hl => match us, hl with | [_, _], _ => rfl
  have F25 := fun_mk (st := KB.sLost) l25 c25 k25
  have b25 := F25.binds (ps := ["kin"]) fun _ _ _ _ _ _ us hl => match us, hl with | [_], _ => rfl
  have F26 := fun_mk (st := KB.sEmpties) l26 c26 k26
  have b26 := F26.binds (ps := ["kin"]) fun _ _ _ _ _ _ us hl => match us, hl with | [_], _ => rfl
  have F27 := fun_mk (st := KB.sEmptiesIn) l27 c27 k27
  have b27 := F27.binds (ps := ["kin", "session"]) fun _ _ _ _ _ _ us hl => match us, hl with | [_, _], _ => rfl
  have F28 := fun_mk (st := KB.sBear) l28 c28 k28
  have b28 := F28.binds (ps := ["kin", "number", "leader"]) fun _ _ _ _ _ _ us hl => match us, hl with | [_, _, _], _ => rfl
  have F29 := fun_mk (st := KB.sBearer) l29 c29 k29
  have b29 := F29.binds (ps := ["kin", "leader"]) fun _ _ _ _ _ _ us hl => match us, hl with | [_, _], _ => rfl
  have F30 := fun_mk (st := KB.sFurther) l30 c30 k30
  have b30 := F30.binds (ps := ["kin"]) fun _ _ _ _ _ _ us hl => match us, hl with | [_], _ => rfl
  have F31 := fun_mk (st := KB.sHelpers) l31 c31 k31
  have b31 := F31.binds (ps := ["image"]) fun _ _ _ _ _ _ us hl => match us, hl with | [_], _ => rfl
  have F32 := fun_mk (st := KB.sImageQ) l32 c32 k32
  have b32 := F32.binds (ps := ["_law_rows"]) fun _ _ _ _ _ _ us hl => match us, hl with | [_], _ => rfl
  have F33 := fun_mk (st := KB.sFree) l33 c33 k33
  have b33 := F33.binds (ps := ["_law_cases"]) fun _ _ _ _ _ _ us hl => match us, hl with | [_], _ => rfl
  have F34 := fun_mk (st := KB.sBarred) l34 c34 k34
  have b34 := F34.binds (ps := ["_law_cases"]) fun _ _ _ _ _ _ us hl => match us, hl with | [_], _ => rfl
  have F35 := fun_mk (st := KB.sKled) l35 c35 k35
  have b35 := F35.binds (ps := ["_law_some", "_law_g"]) fun _ _ _ _ _ _ us hl => match us, hl with | [_, _], _ => rfl
  have F36 := fun_mk (st := KB.sKlost) l36 c36 k36
  have b36 := F36.binds (ps := ["_law_some", "_law_g"]) fun _ _ _ _ _ _ us hl => match us, hl with | [_, _], _ => rfl
  have F37 := fun_mk (st := KB.sKrings) l37 c37 k37
  have b37 := F37.binds (ps := ["_law_some"]) fun _ _ _ _ _ _ us hl => match us, hl with | [_], _ => rfl
  have F38 := fun_mk (st := KB.sRightK) l38 c38 k38
  have b38 := F38.binds (ps := ["_law_box_here"]) fun _ _ _ _ _ _ us hl => match us, hl with | [_], _ => rfl
  have F39 := fun_mk (st := KB.sLawK) l39 c39 k39
  refine ⟨PySem.W.fnOf "law" "law" (defArgs KB.sLawK) (defBody KB.sLawK) (defScope KB.sLawK) .none kV39 dc39 pm39 an39 cd39 ct39, fun s v => .of_eq rfl, fun base _ _ => ?_⟩
  have g0 := KB.ok_sessions (P := l.prog) (w := w) (mg := mg) (base := base) F0 TKin (PySem.W.mg_none_of X G z0) (PySem.W.mg_none_of X G z1)
  have g1 := KB.ok_groups (P := l.prog) (w := w) (mg := mg) (base := base) F1 TKin (PySem.W.mg_none_of X G z0) (PySem.W.mg_none_of X G z1)
  have g2 := KB.ok_isled (P := l.prog) (w := w) (mg := mg) (base := base) F2 TKin
  have g3 := KB.ok_istop (P := l.prog) (w := w) (mg := mg) (base := base) F3 TKin
  have g4 := KB.ok_tops (P := l.prog) (w := w) (mg := mg) (base := base) F4 TKin g3 b3 k3 (PySem.W.mg_of X G a3)
  have g5 := KB.ok_others (P := l.prog) (w := w) (mg := mg) (base := base) F5 TKin g4 b4 k4 (PySem.W.mg_of X G a4)
  have g6 := KB.ok_above (P := l.prog) (w := w) (mg := mg) (base := base) F6 TKin (PySem.W.mg_of X G xFIRST)
  have g7 := KB.ok_adopter (P := l.prog) (w := w) (mg := mg) (base := base) F7 TKin g6 b6 k6 (PySem.W.mg_of X G a6)
  have g8 := KB.ok_barsS (P := l.prog) (w := w) (mg := mg) (base := base) F8 TKin (PySem.W.mg_of X G xFIRST) g2 b2 k2 (PySem.W.mg_of X G a2) g4 b4 k4 (PySem.W.mg_of X G a4) g7 b7 k7 (PySem.W.mg_of X G a7)
  have g9 := KB.ok_barsG (P := l.prog) (w := w) (mg := mg) (base := base) F9 TKin (PySem.W.mg_of X G xFIRST) (PySem.W.mg_none_of X G z0) (PySem.W.mg_none_of X G z1) (PySem.W.mg_none_of X G z2) g0 b0 k0 (PySem.W.mg_of X G a0)
  have g10 := KB.ok_firstS (P := l.prog) (w := w) (mg := mg) (base := base) F10 TKin g0 b0 k0 (PySem.W.mg_of X G a0) g8 b8 k8 (PySem.W.mg_of X G a8)
  have g11 := KB.ok_firstG (P := l.prog) (w := w) (mg := mg) (base := base) F11 TKin g1 b1 k1 (PySem.W.mg_of X G a1) g9 b9 k9 (PySem.W.mg_of X G a9)
  have g12 := KB.ok_needs (P := l.prog) (w := w) (mg := mg) (base := base) F12 TKin g0 b0 k0 (PySem.W.mg_of X G a0) g2 b2 k2 (PySem.W.mg_of X G a2) g6 b6 k6 (PySem.W.mg_of X G a6) g5 b5 k5 (PySem.W.mg_of X G a5)
  have g13 := KB.ok_ring (P := l.prog) (w := w) (mg := mg) (base := base) F13 (PySem.W.mg_none_of X G z3)
  have g14 := KB.ok_init (P := l.prog) (w := w) (mg := mg) (base := base) F14 TKin (PySem.W.mg_of X G xFIRST)
  have g15 := KB.ok_firstR (P := l.prog) (w := w) (mg := mg) (base := base) F15 TKin g12 b12 k12 (PySem.W.mg_of X G a12) g13 b13 k13 (PySem.W.mg_of X G a13)
  have g16 := KB.ok_bar (P := l.prog) (w := w) (mg := mg) (base := base) F16 ⟨mkKin, a14, i14, kpKin⟩ (PySem.W.mg_of X G gKin) g14 b14 g10 b10 k10 (PySem.W.mg_of X G a10) g11 b11 k11 (PySem.W.mg_of X G a11) g15 b15 k15 (PySem.W.mg_of X G a15)
  have g17 := KB.ok_take (P := l.prog) (w := w) (mg := mg) (base := base) F17
  have g18 := KB.ok_box (P := l.prog) (w := w) (mg := mg) (base := base) F18 (PySem.W.mg_none_of X G z2) (PySem.W.mg_none_of X G z4) (PySem.W.mg_none_of X G z5)
  have g19_1 := KB.ok_same (P := l.prog) (w := w) (mg := mg) (base := base) F19 KB.no_same b19 (PySem.W.mg_of X G a19) (PySem.W.mg_none_of X G z6) (PySem.W.mg_none_of X G z7) (PySem.W.mg_none_of X G z8) (PySem.W.mg_none_of X G z2) (PySem.W.mg_none_of X G z9) (PySem.W.mg_none_of X G z10) (PySem.W.mg_none_of X G z11) (PySem.W.mg_none_of X G z12) (PySem.W.mg_none_of X G z5)
  have g19_2 := KB.ok_same (P := l.prog) (w := w) (mg := mg) (base := base) F19 g19_1 b19 (PySem.W.mg_of X G a19) (PySem.W.mg_none_of X G z6) (PySem.W.mg_none_of X G z7) (PySem.W.mg_none_of X G z8) (PySem.W.mg_none_of X G z2) (PySem.W.mg_none_of X G z9) (PySem.W.mg_none_of X G z10) (PySem.W.mg_none_of X G z11) (PySem.W.mg_none_of X G z12) (PySem.W.mg_none_of X G z5)
  have g19_3 := KB.ok_same (P := l.prog) (w := w) (mg := mg) (base := base) F19 g19_2 b19 (PySem.W.mg_of X G a19) (PySem.W.mg_none_of X G z6) (PySem.W.mg_none_of X G z7) (PySem.W.mg_none_of X G z8) (PySem.W.mg_none_of X G z2) (PySem.W.mg_none_of X G z9) (PySem.W.mg_none_of X G z10) (PySem.W.mg_none_of X G z11) (PySem.W.mg_none_of X G z12) (PySem.W.mg_none_of X G z5)
  have g19_4 := KB.ok_same (P := l.prog) (w := w) (mg := mg) (base := base) F19 g19_3 b19 (PySem.W.mg_of X G a19) (PySem.W.mg_none_of X G z6) (PySem.W.mg_none_of X G z7) (PySem.W.mg_none_of X G z8) (PySem.W.mg_none_of X G z2) (PySem.W.mg_none_of X G z9) (PySem.W.mg_none_of X G z10) (PySem.W.mg_none_of X G z11) (PySem.W.mg_none_of X G z12) (PySem.W.mg_none_of X G z5)
  have g19 := KB.ok_same (P := l.prog) (w := w) (mg := mg) (base := base) F19 g19_4 b19 (PySem.W.mg_of X G a19) (PySem.W.mg_none_of X G z6) (PySem.W.mg_none_of X G z7) (PySem.W.mg_none_of X G z8) (PySem.W.mg_none_of X G z2) (PySem.W.mg_none_of X G z9) (PySem.W.mg_none_of X G z10) (PySem.W.mg_none_of X G z11) (PySem.W.mg_none_of X G z12) (PySem.W.mg_none_of X G z5)
  have g20 := KB.ok_isnum (P := l.prog) (w := w) (mg := mg) (base := base) F20 (PySem.W.mg_none_of X G z6) (PySem.W.mg_none_of X G z5) (PySem.W.mg_none_of X G z11)
  have g21 := KB.ok_showsR (P := l.prog) (w := w) (mg := mg) (base := base) F21 g20 b20 k20 (PySem.W.mg_of X G a20) g12 b12 k12 (PySem.W.mg_of X G a12) g13 b13 k13 (PySem.W.mg_of X G a13) (PySem.W.mg_none_of X G z6) (PySem.W.mg_none_of X G z7) (PySem.W.mg_none_of X G z9)
  have g22 := KB.ok_showsB (P := l.prog) (w := w) (mg := mg) (base := base) F22 ⟨mkKin, a14, i14, kpKin⟩ (PySem.W.mg_of X G gKin) g14 b14 g21 b21 k21 (PySem.W.mg_of X G a21) g20 b20 k20 (PySem.W.mg_of X G a20) g1 b1 k1 (PySem.W.mg_of X G a1) g9 b9 k9 (PySem.W.mg_of X G a9) g0 b0 k0 (PySem.W.mg_of X G a0) g8 b8 k8 (PySem.W.mg_of X G a8) (PySem.W.mg_none_of X G z6) (PySem.W.mg_none_of X G z8) (PySem.W.mg_none_of X G z2) (PySem.W.mg_none_of X G z9)
  have g23 := KB.ok_isLost (P := l.prog) (w := w) (mg := mg) (base := base) F23 TKin (PySem.W.mg_of X G xFIRST) ⟨⟨_, _, _, by decide, g2, b2, k2, PySem.W.mg_of X G a2⟩⟩
  have g24 := KB.ok_ended (P := l.prog) (w := w) (mg := mg) (base := base) F24 TKin
  have g25 := KB.ok_lost (P := l.prog) (w := w) (mg := mg) (base := base) F25 TKin ⟨⟨_, _, _, by decide, g0, b0, k0, PySem.W.mg_of X G a0⟩⟩ ⟨⟨_, _, _, by decide, g23, b23, k23, PySem.W.mg_of X G a23⟩⟩
  have g26 := KB.ok_empties (P := l.prog) (w := w) (mg := mg) (base := base) F26 TKin (PySem.W.mg_of X G xFIRST) ⟨⟨_, _, _, by decide, g1, b1, k1, PySem.W.mg_of X G a1⟩⟩ ⟨⟨_, _, _, by decide, g25, b25, k25, PySem.W.mg_of X G a25⟩⟩
  have g27 := KB.ok_emptiesIn (P := l.prog) (w := w) (mg := mg) (base := base) F27 TKin ⟨⟨_, _, _, by decide, g26, b26, k26, PySem.W.mg_of X G a26⟩⟩
  have g28 := KB.ok_bear (P := l.prog) (w := w) (mg := mg) (base := base) F28 TKin ⟨⟨_, _, _, by decide, g24, b24, k24, PySem.W.mg_of X G a24⟩⟩ ⟨⟨_, _, _, by decide, g6, b6, k6, PySem.W.mg_of X G a6⟩⟩ (PySem.W.mg_none_of X G z9)
  have g29 := KB.ok_bearer (P := l.prog) (w := w) (mg := mg) (base := base) F29 TKin ⟨⟨_, _, _, by decide, g28, b28, k28, PySem.W.mg_of X G a28⟩⟩ (PySem.W.mg_none_of X G z3)
  have g30 := KB.ok_further (P := l.prog) (w := w) (mg := mg) (base := base) F30 TKin ⟨⟨_, _, _, by decide, g0, b0, k0, PySem.W.mg_of X G a0⟩⟩ ⟨⟨_, _, _, by decide, g2, b2, k2, PySem.W.mg_of X G a2⟩⟩ ⟨⟨_, _, _, by decide, g5, b5, k5, PySem.W.mg_of X G a5⟩⟩ ⟨⟨_, _, _, by decide, g27, b27, k27, PySem.W.mg_of X G a27⟩⟩ ⟨⟨_, _, _, by decide, g29, b29, k29, PySem.W.mg_of X G a29⟩⟩
  have g31 := KB.ok_helpers (P := l.prog) (w := w) (mg := mg) (base := base) F31 ⟨⟨_, _, _, by decide, g14, b14, ⟨mkKin, a14, i14, kpKin⟩, PySem.W.mg_of X G gKin⟩⟩ ⟨⟨_, _, _, by decide, g25, b25, k25, PySem.W.mg_of X G a25⟩⟩ ⟨⟨_, _, _, by decide, g26, b26, k26, PySem.W.mg_of X G a26⟩⟩ ⟨⟨_, _, _, by decide, g30, b30, k30, PySem.W.mg_of X G a30⟩⟩
  have g32 := KB.ok_imageQ (P := l.prog) (w := w) (mg := mg) (base := base) F32 (PySem.W.mg_none_of X G z8) (PySem.W.mg_none_of X G z0)
  have g33 := KB.ok_free (P := l.prog) (w := w) (mg := mg) (base := base) F33 ⟨⟨_, _, _, by decide, g32, b32, k32, PySem.W.mg_of X G a32⟩⟩ ⟨⟨_, _, _, by decide, g19, b19, k19, PySem.W.mg_of X G a19⟩⟩ ⟨⟨_, _, _, by decide, g16, b16, k16, PySem.W.mg_of X G a16⟩⟩ ⟨⟨_, _, _, by decide, g31, b31, k31, PySem.W.mg_of X G a31⟩⟩
  have g34 := KB.ok_barred (P := l.prog) (w := w) (mg := mg) (base := base) F34 ⟨⟨_, _, _, by decide, g32, b32, k32, PySem.W.mg_of X G a32⟩⟩ ⟨⟨_, _, _, by decide, g19, b19, k19, PySem.W.mg_of X G a19⟩⟩ ⟨⟨_, _, _, by decide, g16, b16, k16, PySem.W.mg_of X G a16⟩⟩ ⟨⟨_, _, _, by decide, g22, b22, k22, PySem.W.mg_of X G a22⟩⟩
  have g35 := KB.ok_kled (P := l.prog) (w := w) (mg := mg) (base := base) F35 ⟨⟨_, _, _, by decide, g33, b33, k33, PySem.W.mg_of X G a33⟩⟩ ⟨⟨_, _, _, by decide, g34, b34, k34, PySem.W.mg_of X G a34⟩⟩
  have g36 := KB.ok_klost (P := l.prog) (w := w) (mg := mg) (base := base) F36 ⟨⟨_, _, _, by decide, g33, b33, k33, PySem.W.mg_of X G a33⟩⟩ ⟨⟨_, _, _, by decide, g34, b34, k34, PySem.W.mg_of X G a34⟩⟩
  have g37 := KB.ok_krings (P := l.prog) (w := w) (mg := mg) (base := base) F37 ⟨⟨_, _, _, by decide, g33, b33, k33, PySem.W.mg_of X G a33⟩⟩ ⟨⟨_, _, _, by decide, g34, b34, k34, PySem.W.mg_of X G a34⟩⟩ ⟨⟨_, _, _, by decide, g32, b32, k32, PySem.W.mg_of X G a32⟩⟩ ⟨⟨_, _, _, by decide, g22, b22, k22, PySem.W.mg_of X G a22⟩⟩
  have g38 := KB.ok_rightK (P := l.prog) (w := w) (mg := mg) (base := base) F38 ⟨⟨_, _, _, by decide, g17, b17, k17, PySem.W.mg_of X G a17⟩⟩ ⟨⟨_, _, _, by decide, g35, b35, k35, PySem.W.mg_of X G a35⟩⟩ ⟨⟨_, _, _, by decide, g36, b36, k36, PySem.W.mg_of X G a36⟩⟩ ⟨⟨_, _, _, by decide, g37, b37, k37, PySem.W.mg_of X G a37⟩⟩ (PySem.W.mg_none_of X G z7) (PySem.W.mg_none_of X G z13) (PySem.W.mg_none_of X G z2) (PySem.W.mg_none_of X G z0)
  exact KB.ok_lawK F39 ⟨⟨_, _, _, by decide, g18, b18, k18, PySem.W.mg_of X G a18⟩⟩ ⟨⟨_, _, _, by decide, g38, b38, k38, PySem.W.mg_of X G a38⟩⟩ (PySem.W.mg_none_of X G z13) (PySem.W.mg_none_of X G z2) (PySem.W.mg_none_of X G z9) (PySem.W.mg_none_of X G z3)
end KY
set_option Elab.async false
set_option linter.all false
set_option maxRecDepth 100000
open PySem PySem.W PyProof.Rows
set_option maxHeartbeats 0 in
theorem PySem.Challenge.cw_treethaw_k35_known_families_holds : PySem.Challenge.rw_treethaw_k35_known_families.Holds := by
  w_on; o_law; k_head; (case hw => w_witness2)
  k_fill
  refine L2.walk_of (l := PySem.Challenge.rw_treethaw_k35_known_families) (n := 63) (k := 11) (x := "_law_script") (CX := fun _ => L2.CX0) (sp := fun w => KB.spLaw _) rfl (by decide) rfl ⟨rfl, by decide, by decide⟩ (fun w h Y => PySem.W.kIn_of Y) ?F (fun _ _ a ns hl _ hS => ⟨a, ns, rfl, hS, hl, fun _ => rfl⟩) (fun _ _ _ _ _ h => h)
  case F =>
    intro w mg fa h KX G hmg
    refine' KY.all_mk KX G hmg ?gKin ?a0 ?l0 ?c0 ?k0 ?a1 ?l1 ?c1 ?k1 ?a2 ?l2 ?c2 ?k2 ?a3 ?l3 ?c3 ?k3 ?a4 ?l4 ?c4 ?k4 ?a5 ?l5 ?c5 ?k5 ?a6 ?l6 ?c6 ?k6 ?a7 ?l7 ?c7 ?k7 ?a8 ?l8 ?c8 ?k8 ?a9 ?l9 ?c9 ?k9 ?a10 ?l10 ?c10 ?k10 ?a11 ?l11 ?c11 ?k11 ?a12 ?l12 ?c12 ?k12 ?a13 ?l13 ?c13 ?k13 ?a14 ?i14 ?l14 ?c14 ?k14 ?a15 ?l15 ?c15 ?k15 ?a16 ?l16 ?c16 ?k16 ?a17 ?l17 ?c17 ?k17 ?a18 ?l18 ?c18 ?k18 ?a19 ?l19 ?c19 ?k19 ?a20 ?l20 ?c20 ?k20 ?a21 ?l21 ?c21 ?k21 ?a22 ?l22 ?c22 ?k22 ?a23 ?l23 ?c23 ?k23 ?a24 ?l24 ?c24 ?k24 ?a25 ?l25 ?c25 ?k25 ?a26 ?l26 ?c26 ?k26 ?a27 ?l27 ?c27 ?k27 ?a28 ?l28 ?c28 ?k28 ?a29 ?l29 ?c29 ?k29 ?a30 ?l30 ?c30 ?k30 ?a31 ?l31 ?c31 ?k31 ?a32 ?l32 ?c32 ?k32 ?a33 ?l33 ?c33 ?k33 ?a34 ?l34 ?c34 ?k34 ?a35 ?l35 ?c35 ?k35 ?a36 ?l36 ?c36 ?k36 ?a37 ?l37 ?c37 ?k37 ?a38 ?l38 ?c38 ?k38 ?a39 ?l39 ?c39 ?k39 ?z0 ?z1 ?z2 ?z3 ?z4 ?z5 ?z6 ?z7 ?z8 ?z9 ?z10 ?z11 ?z12 ?z13 ?xFIRST ?pgKin ?hdKin ?poKin ?saKin ?mkKin ?kpKin ?nKin_rows ?nKin_members ?nKin_parents ?nKin_sessions ?nKin_groups ?nKin_adopting ?nKin_root
    (case gKin => k_is)
    (case a0 => k_is)
    (case l0 => k_is)
    (case c0 => k_is)
    (case k0 => k_is)
    (case a1 => k_is)
    (case l1 => k_is)
    (case c1 => k_is)
    (case k1 => k_is)
    (case a2 => k_is)
    (case l2 => k_is)
    (case c2 => k_is)
    (case k2 => k_is)
    (case a3 => k_is)
    (case l3 => k_is)
    (case c3 => k_is)
    (case k3 => k_is)
    (case a4 => k_is)
    (case l4 => k_is)
    (case c4 => k_is)
    (case k4 => k_is)
    (case a5 => k_is)
    (case l5 => k_is)
    (case c5 => k_is)
    (case k5 => k_is)
    (case a6 => k_is)
    (case l6 => k_is)
    (case c6 => k_is)
    (case k6 => k_is)
    (case a7 => k_is)
    (case l7 => k_is)
    (case c7 => k_is)
    (case k7 => k_is)
    (case a8 => k_is)
    (case l8 => k_is)
    (case c8 => k_is)
    (case k8 => k_is)
    (case a9 => k_is)
    (case l9 => k_is)
    (case c9 => k_is)
    (case k9 => k_is)
    (case a10 => k_is)
    (case l10 => k_is)
    (case c10 => k_is)
    (case k10 => k_is)
    (case a11 => k_is)
    (case l11 => k_is)
    (case c11 => k_is)
    (case k11 => k_is)
    (case a12 => k_is)
    (case l12 => k_is)
    (case c12 => k_is)
    (case k12 => k_is)
    (case a13 => k_is)
    (case l13 => k_is)
    (case c13 => k_is)
    (case k13 => k_is)
    (case a14 => k_is)
    (case i14 => k_is)
    (case l14 => k_is)
    (case c14 => k_is)
    (case k14 => k_is)
    (case a15 => k_is)
    (case l15 => k_is)
    (case c15 => k_is)
    (case k15 => k_is)
    (case a16 => k_is)
    (case l16 => k_is)
    (case c16 => k_is)
    (case k16 => k_is)
    (case a17 => k_is)
    (case l17 => k_is)
    (case c17 => k_is)
    (case k17 => k_is)
    (case a18 => k_is)
    (case l18 => k_is)
    (case c18 => k_is)
    (case k18 => k_is)
    (case a19 => k_is)
    (case l19 => k_is)
    (case c19 => k_is)
    (case k19 => k_is)
    (case a20 => k_is)
    (case l20 => k_is)
    (case c20 => k_is)
    (case k20 => k_is)
    (case a21 => k_is)
    (case l21 => k_is)
    (case c21 => k_is)
    (case k21 => k_is)
    (case a22 => k_is)
    (case l22 => k_is)
    (case c22 => k_is)
    (case k22 => k_is)
    (case a23 => k_is)
    (case l23 => k_is)
    (case c23 => k_is)
    (case k23 => k_is)
    (case a24 => k_is)
    (case l24 => k_is)
    (case c24 => k_is)
    (case k24 => k_is)
    (case a25 => k_is)
    (case l25 => k_is)
    (case c25 => k_is)
    (case k25 => k_is)
    (case a26 => k_is)
    (case l26 => k_is)
    (case c26 => k_is)
    (case k26 => k_is)
    (case a27 => k_is)
    (case l27 => k_is)
    (case c27 => k_is)
    (case k27 => k_is)
    (case a28 => k_is)
    (case l28 => k_is)
    (case c28 => k_is)
    (case k28 => k_is)
    (case a29 => k_is)
    (case l29 => k_is)
    (case c29 => k_is)
    (case k29 => k_is)
    (case a30 => k_is)
    (case l30 => k_is)
    (case c30 => k_is)
    (case k30 => k_is)
    (case a31 => k_is)
    (case l31 => k_is)
    (case c31 => k_is)
    (case k31 => k_is)
    (case a32 => k_is)
    (case l32 => k_is)
    (case c32 => k_is)
    (case k32 => k_is)
    (case a33 => k_is)
    (case l33 => k_is)
    (case c33 => k_is)
    (case k33 => k_is)
    (case a34 => k_is)
    (case l34 => k_is)
    (case c34 => k_is)
    (case k34 => k_is)
    (case a35 => k_is)
    (case l35 => k_is)
    (case c35 => k_is)
    (case k35 => k_is)
    (case a36 => k_is)
    (case l36 => k_is)
    (case c36 => k_is)
    (case k36 => k_is)
    (case a37 => k_is)
    (case l37 => k_is)
    (case c37 => k_is)
    (case k37 => k_is)
    (case a38 => k_is)
    (case l38 => k_is)
    (case c38 => k_is)
    (case k38 => k_is)
    (case a39 => k_is)
    (case l39 => k_is)
    (case c39 => k_is)
    (case k39 => k_is)
    (case z0 => k_is)
    (case z1 => k_is)
    (case z2 => k_is)
    (case z3 => k_is)
    (case z4 => k_is)
    (case z5 => k_is)
    (case z6 => k_is)
    (case z7 => k_is)
    (case z8 => k_is)
    (case z9 => k_is)
    (case z10 => k_is)
    (case z11 => k_is)
    (case z12 => k_is)
    (case z13 => k_is)
    (case xFIRST => k_is)
    (case pgKin => k_is)
    (case hdKin => k_is)
    (case poKin => k_is)
    (case saKin => k_is)
    (case mkKin => k_is)
    (case kpKin => k_is)
    (case nKin_rows => k_is)
    (case nKin_members => k_is)
    (case nKin_parents => k_is)
    (case nKin_sessions => k_is)
    (case nKin_groups => k_is)
    (case nKin_adopting => k_is)
    (case nKin_root => k_is)
